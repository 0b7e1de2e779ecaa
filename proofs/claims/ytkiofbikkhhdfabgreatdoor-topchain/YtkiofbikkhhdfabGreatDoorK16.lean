import Derived.Test.YtkiofbikkhhdfabGreatDoorK15
import Derived.KernelRfl
set_option maxHeartbeats 4000000
namespace Go.Proofs.YtkiofbikkhhdfabGreatDoor.Ul
open Go.RowKit
open Utf1
theorem lt32 (c:UInt8):decide ((c.toNat:Int) < 32)=decide (c.toNat < 32):=by
 by_cases h:c.toNat < 32
 ·rw[decide_eq_true h,decide_eq_true (by omega)]
 ·rw[decide_eq_false h,decide_eq_false (by omega)]
theorem mem_upto {ss:List ByteArray}{x:List UInt8}{i:Nat}{y:ByteArray}(h:ss[i]?=some y)(hn:∀ j z,j < i->ss[j]?=some z->bl z≠x)(hy:bl y≠x):∀ j z,j < i+1->ss[j]?=some z->bl z≠x:=by
 intro j z hj hz
 by_cases e:j=i
 ·subst e
  rw[h] at hz
  cases hz
  exact hy
 ·exact hn j z (by omega) hz
theorem not_mem_of {ss:List ByteArray}{x:List UInt8}{N:Nat}(hN:ss.length<=N)(h:∀ j z,j < N->ss[j]?=some z->bl z≠x):x ∉ ss.map bl:=by
 intro hx
 obtain⟨y,hy,e⟩:=List.mem_map.1 hx
 obtain⟨j,hj,e2⟩:=List.mem_iff_getElem.1 hy
 exact h j y (by omega) (by rw[List.getElem?_eq_getElem hj,e2]) e
end Go.Proofs.YtkiofbikkhhdfabGreatDoor.Ul
namespace Go.Proofs.YtkiofbikkhhdfabGreatDoor.Ul
open Go.RowKit
open Utf1
def BareC:Prop:=∀ (s:ByteArray) (w:World),s.size<=100000->Calls Tryz.prog 142 #[.string s] w fun e w'=>e=.returned (.string ⟨(bare (bl s)).toArray⟩)/\Below w.heap.size w w'
def SchemeC:Prop:=∀ (s:ByteArray) (w:World),s.size<=100000->Calls Tryz.prog 139 #[.string s] w fun e w'=>e=.returned (.tuple #[.string (schS (scheme (bl s))),.bool (scheme (bl s)).isSome])/\Below w.heap.size w w'
def AllowedC:Prop:=∀ (s:ByteArray) (v:Value) (ss:List ByteArray) (w:World),s.size<=100000->ss.length<=100000->StrArg w v ss->Calls Tryz.prog 123 #[.string s,v] w fun e w'=>e=.returned (.bool (allowed (bl s) (ss.map bl)))/\Below w.heap.size w w'
end Go.Proofs.YtkiofbikkhhdfabGreatDoor.Ul
namespace Go.Proofs.YtkiofbikkhhdfabGreatDoor.Ul
open Go.RowKit
open Utf1
theorem bare_any:BareC:=by
 intro s w hs
 go_enter Tryz.func142,Tryz.ntmps142
 go_upto_block 0 with fail
 go_cut [3] from 10 to 20 (fun v wx=>wx=w/\∃ p:Nat,p<=s.size/\v=.int .i64 (p:Int)/\Hid (dropB (bl s)=(bl s).drop p))
 case first =>
  go_wp2_with fail
  go_loopg [3] s.size (fun g v wx=>wx=w/\∃ p:Nat,p+g=s.size/\v=.int .i64 (p:Int)/\Hid (dropB (bl s)=dropB ((bl s).drop p)))
  case atStart=>exact⟨rfl,0,by omega,rfl,hide rfl⟩
  case round =>
   obtain⟨rfl,p,hp,rfl,HD⟩:=hrel
   by_cases hlt:p < s.size
   ·obtain⟨c,hc⟩:=getK s p hlt
    have i0:=fun w=>idxK hc w
    have hle:=le32 c
    have hb:=c.toNat_lt
    have HC:=hide hc
    generalize (c.toNat:Int)=z at i0 hle
    clear hc hb
    cases hbk:blk c with
    | true =>
     rw[hbk] at hle
     have HN:Hid (dropB (bl s)=dropB ((bl s).drop (p+1))):=hide (HD.out.trans (dropB_step HC.out hbk))
     clear hbk HD HC
     go_wp2_with fail
     go_roundg (gk - 1)
     case measure=>omega
     case rel=>exact⟨rfl,p+1,by omega,by first | rfl | simp,HN⟩
    | false =>
     rw[hbk] at hle
     have HN:Hid (dropB (bl s)=(bl s).drop p):=hide (HD.out.trans (dropB_stop HC.out hbk))
     clear hbk HD HC
     go_wp2_with fail
     go_meet
     exact⟨rfl,p,by omega,rfl,HN⟩
   ·have HN:Hid (dropB (bl s)=(bl s).drop p):=hide (by rw[HD.out,drop_all s p hlt];rfl)
    clear HD
    go_wp2_with fail
    go_meet
    exact⟨rfl,p,by omega,rfl,HN⟩
 case rest =>
 obtain⟨rfl,p,hp,rfl,HP⟩:=hcut
 go_upto_block 2 with fail
 go_cut [4] from 21 to 32 (fun v wx=>wx=wc/\∃ q:Nat,p<=q/\q<=s.size/\v=.int .i64 (q:Int)/\Hid (trim (bl s)=((bl s).take q).drop p))
 case first =>
  go_wp2_with fail
  go_loopg [4] (s.size - p) (fun g v wx=>wx=wc/\∃ q:Nat,q<=p+g/\p+g<=q/\q<=s.size/\v=.int .i64 (q:Int)/\Hid (dropE ((bl s).drop p)=dropE (((bl s).take q).drop p)))
  case atStart=>exact⟨rfl,s.size,by omega,by omega,by omega,rfl,hide (by rw[List.take_of_length_le (by rw[bl_len];exact Nat.le_refl _)])⟩
  case round =>
   obtain⟨rfl,q,hq,hq2,hqs,rfl,HD⟩:=hrel
   by_cases hlt:p < q
   ·obtain⟨k,rfl⟩:∃ k,q=k+1:=⟨q - 1,by omega⟩
    obtain⟨c,hc⟩:=getK s k (by omega)
    have i0:=fun w=>idxK hc w
    have hle:=le32 c
    have HC:=hide hc
    generalize (c.toNat:Int)=z at i0 hle
    clear hc
    cases hbk:blk c with
    | true =>
     rw[hbk] at hle
     have HN:Hid (dropE ((bl s).drop p)=dropE (((bl s).take k).drop p)):=hide (HD.out.trans (dropE_step (by omega) HC.out hbk))
     clear hbk HD HC
     go_wp2_with fail
     go_roundg (gk - 1)
     case measure=>omega
     case rel=>exact⟨rfl,k,by omega,by omega,by omega,by first | rfl | simp,HN⟩
    | false =>
     rw[hbk] at hle
     have HN:Hid (trim (bl s)=((bl s).take (k+1)).drop p):=hide (trim_seg HP.out (HD.out.trans (dropE_stop (by omega) HC.out hbk)))
     clear hbk HD HC
     go_wp2_with fail
     go_meet
     exact⟨rfl,k+1,by omega,by omega,rfl,HN⟩
   ·have HN:Hid (trim (bl s)=((bl s).take q).drop p):=hide (trim_seg HP.out (by
     have e:((bl s).take q).drop p=[]:=by
      rw[List.drop_eq_nil_iff,List.length_take]
      omega
     rw[HD.out,e]
     rfl))
    clear HD
    go_wp2_with fail
    go_meet
    exact⟨rfl,q,by omega,by omega,rfl,HN⟩
 case rest =>
 obtain⟨rfl,q,hpq,hqs,rfl,HT⟩:=hcut
 obtain⟨w,rfl⟩:∃ w,w=wc:=⟨wc,rfl⟩
 go_wp2_with fail
 go_loopg [6] (q - p) (fun g vi wx=>∃ (j:Nat) (acc:List UInt8),j+g=q/\vi=.int .i64 (j:Int)/\acc.length<=j/\Lib.IsBuilderF 71 5 w.heap.size w.heap.size (Lib.byteCells acc) wx/\Below w.heap.size w wx/\Hid (acc++(((bl s).take q).drop j).filter kept=bare (bl s)))
 case atStart=>exact⟨p,[],by omega,rfl,Nat.zero_le _,Lib.IsBuilderF.of (Lib.fresh_isBuilder 71 5 w),(Below.refl _ w).alloc (Nat.le_refl _) _,hide (by unfold bare;rw[HT.out];rfl)⟩
 case round =>
  obtain⟨j,acc,hj,rfl,hal,hI,hbw,HA⟩:=hrel
  by_cases hlt:j < q
  ·obtain⟨c,hc⟩:=getK s j (by omega)
   have i0:=fun w=>idxK hc w
   have n9:((c.toNat:Int) != 9)=decide (c≠9):=neK c 9 (by decide)
   have n10:((c.toNat:Int) != 10)=decide (c≠10):=neK c 10 (by decide)
   have n13:((c.toNat:Int) != 13)=decide (c≠13):=neK c 13 (by decide)
   have hseg:=seg_cons hlt hc
   have HK:Hid (acc++(if kept c=true then c :: (((bl s).take q).drop (j+1)).filter kept else (((bl s).take q).drop (j+1)).filter kept)=bare (bl s)):=hide (by
    rw[<-HA.out,hseg,filter_kept_cons])
   clear hseg hc HA
   by_cases h9:c=9
   ·have HN:Hid (acc++(((bl s).take q).drop (j+1)).filter kept=bare (bl s)):=hide (by rw[<-HK.out,h9];rfl)
    rw[decide_eq_false (fun e=>e h9)] at n9
    generalize (c.toNat:Int)=z at i0 n9
    clear h9 n10 n13 HK
    go_wp2_with fail
    go_roundg (gk - 1)
    case measure=>omega
    case rel=>exact⟨j+1,acc,by omega,by first | rfl | simp,by omega,hI,hbw,HN⟩
   ·rw[decide_eq_true h9] at n9
    by_cases h10:c=10
    ·have HN:Hid (acc++(((bl s).take q).drop (j+1)).filter kept=bare (bl s)):=hide (by rw[<-HK.out,h10];rfl)
     rw[decide_eq_false (fun e=>e h10)] at n10
     generalize (c.toNat:Int)=z at i0 n9 n10
     clear h9 h10 n13 HK
     go_wp2_with fail
     go_roundg (gk - 1)
     case measure=>omega
     case rel=>exact⟨j+1,acc,by omega,by first | rfl | simp,by omega,hI,hbw,HN⟩
    ·rw[decide_eq_true h10] at n10
     by_cases h13:c=13
     ·have HN:Hid (acc++(((bl s).take q).drop (j+1)).filter kept=bare (bl s)):=hide (by rw[<-HK.out,h13];rfl)
      rw[decide_eq_false (fun e=>e h13)] at n13
      generalize (c.toNat:Int)=z at i0 n9 n10 n13
      clear h9 h10 h13 HK
      go_wp2_with fail
      go_roundg (gk - 1)
      case measure=>omega
      case rel=>exact⟨j+1,acc,by omega,by first | rfl | simp,by omega,hI,hbw,HN⟩
     ·rw[decide_eq_true h13] at n13
      have hk:kept c=true:=by unfold kept;exact decide_eq_true ⟨h9,h10,h13⟩
      have HN:Hid ((acc++[c])++(((bl s).take q).drop (j+1)).filter kept=bare (bl s)):=hide (by
       have:=HK.out
       rw[if_pos hk] at this
       rw[<-this]
       simp)
      have HW:=hide (Tryz.Builder_WriteByte_k w.heap.size w.heap.size _ (c.toNat:Int) wr hI (by rw[Lib.byteCells_length];omega) hbw.size)
      have HCC:Hid (Lib.byteCells acc++[.int .u8 (c.toNat:Int)]=Lib.byteCells (acc++[c])):=hide (by rw[Lib.byteCells_append];rfl)
      generalize (c.toNat:Int)=z at i0 n9 n10 n13 HW HCC
      clear h9 h10 h13 hk HK
      go_wp2_with fail
      refine HW.out.mono ?_
      rintro e W1 ⟨rfl,h1,b1,-⟩
      go_wp2_with fail
      go_roundg (gk - 1)
      case measure=>omega
      case rel=>exact⟨j+1,acc++[c],by omega,by first | rfl | simp,by simp;omega,Or.inr (by rw[<-HCC.out];exact h1),hbw.trans b1,HN⟩
  ·have HR:Hid (acc=bare (bl s)):=hide (by
    have e:((bl s).take q).drop j=[]:=by
     rw[List.drop_eq_nil_iff,List.length_take]
     omega
    have:=HA.out
    rw[e] at this
    simpa using this)
   clear HA
   go_wp2_with fail
   refine (Tryz.Builder_String_any_k w.heap.size w.heap.size acc _ hI hbw.size).mono ?_
   rintro e W1 ⟨rfl,_,b1,_⟩
   go_wp2_with fail
   go_ret
   rw[<-HR.out]
   exact⟨rfl,hbw.trans b1⟩
end Go.Proofs.YtkiofbikkhhdfabGreatDoor.Ul
namespace Go.Proofs.YtkiofbikkhhdfabGreatDoor.Ul
open Go.RowKit
open Utf1
def letA (n:Nat):Bool:=decide ((97<=n/\n<=122)\/(65<=n/\n<=90))
def goB (n:Nat):Bool:=decide ((48<=n/\n<=57)\/n=43\/n=45\/n=46)
theorem letter_any (n:Nat)(hn:n < 256) (w:World) :
  Calls Tryz.prog 149 #[.int .u8 (n:Int)] w fun e w'=>e=.returned (.bool (letA n))/\w'=w:=by
 have HL:Hid (∀ b,decide ((97<=n/\n<=122)\/(65<=n/\n<=90))=b->letA n=b):=hide (fun b h=>h)
 rcases (show n < 65\/(65<=n/\n<=90)\/(90 < n/\n < 97)\/(97<=n/\n<=122)\/122 < n from by omega) with h | h | h | h | h
 ·have HN:=hide (HL.out false (decide_eq_false (by omega)))
  have d97:decide ((97:Int)<=(n:Int))=false:=decide_eq_false (by omega)
  have d65:decide ((65:Int)<=(n:Int))=false:=decide_eq_false (by omega)
  clear HL h
  go_enter Tryz.func149,Tryz.ntmps149
  go_wp2_with fail
  go_ret
  rw[HN.out]
  exact⟨rfl,rfl⟩
 ·have HN:=hide (HL.out true (decide_eq_true (by omega)))
  have d97:decide ((97:Int)<=(n:Int))=false:=decide_eq_false (by omega)
  have d65:decide ((65:Int)<=(n:Int))=true:=decide_eq_true (by omega)
  have d90:decide ((n:Int)<=90)=true:=decide_eq_true (by omega)
  clear HL h
  go_enter Tryz.func149,Tryz.ntmps149
  go_wp2_with fail
  go_ret
  rw[HN.out]
  exact⟨rfl,rfl⟩
 ·have HN:=hide (HL.out false (decide_eq_false (by omega)))
  have d97:decide ((97:Int)<=(n:Int))=false:=decide_eq_false (by omega)
  have d65:decide ((65:Int)<=(n:Int))=true:=decide_eq_true (by omega)
  have d90:decide ((n:Int)<=90)=false:=decide_eq_false (by omega)
  clear HL h
  go_enter Tryz.func149,Tryz.ntmps149
  go_wp2_with fail
  go_ret
  rw[HN.out]
  exact⟨rfl,rfl⟩
 ·have HN:=hide (HL.out true (decide_eq_true (by omega)))
  have d97:decide ((97:Int)<=(n:Int))=true:=decide_eq_true (by omega)
  have d122:decide ((n:Int)<=122)=true:=decide_eq_true (by omega)
  clear HL h
  go_enter Tryz.func149,Tryz.ntmps149
  go_wp2_with fail
  go_ret
  rw[HN.out]
  exact⟨rfl,rfl⟩
 ·have HN:=hide (HL.out false (decide_eq_false (by omega)))
  have d97:decide ((97:Int)<=(n:Int))=true:=decide_eq_true (by omega)
  have d122:decide ((n:Int)<=122)=false:=decide_eq_false (by omega)
  have d65:decide ((65:Int)<=(n:Int))=true:=decide_eq_true (by omega)
  have d90:decide ((n:Int)<=90)=false:=decide_eq_false (by omega)
  clear HL h
  go_enter Tryz.func149,Tryz.ntmps149
  go_wp2_with fail
  go_ret
  rw[HN.out]
  exact⟨rfl,rfl⟩
theorem goesOn_any (n:Nat)(hn:n < 256) (w:World) :
  Calls Tryz.prog 150 #[.int .u8 (n:Int)] w fun e w'=>e=.returned (.bool (goB n))/\w'=w:=by
 have HL:Hid (∀ b,decide ((48<=n/\n<=57)\/n=43\/n=45\/n=46)=b->goB n=b):=hide (fun b h=>h)
 rcases (show (48<=n/\n<=57)\/n=43\/n=45\/n=46\/(n < 48/\n≠43/\n≠45/\n≠46)\/57 < n from by omega) with h | h | h | h | h | h
 ·have HN:=hide (HL.out true (decide_eq_true (by omega)))
  have d48:decide ((48:Int)<=(n:Int))=true:=decide_eq_true (by omega)
  have d57:decide ((n:Int)<=57)=true:=decide_eq_true (by omega)
  clear HL h
  go_enter Tryz.func150,Tryz.ntmps150
  go_wp2_with fail
  go_ret
  rw[HN.out]
  exact⟨rfl,rfl⟩
 ·have HN:=hide (HL.out true (decide_eq_true (by omega)))
  have d48:decide ((48:Int)<=(n:Int))=false:=decide_eq_false (by omega)
  have q43:((n:Int)==43)=true:=beq_iff_eq.2 (by omega)
  clear HL h
  go_enter Tryz.func150,Tryz.ntmps150
  go_wp2_with fail
  go_ret
  rw[HN.out]
  exact⟨rfl,rfl⟩
 ·have HN:=hide (HL.out true (decide_eq_true (by omega)))
  have d48:decide ((48:Int)<=(n:Int))=false:=decide_eq_false (by omega)
  have q43:((n:Int)==43)=false:=beq_eq_false_iff_ne.2 (by omega)
  have q45:((n:Int)==45)=true:=beq_iff_eq.2 (by omega)
  clear HL h
  go_enter Tryz.func150,Tryz.ntmps150
  go_wp2_with fail
  go_ret
  rw[HN.out]
  exact⟨rfl,rfl⟩
 ·have HN:=hide (HL.out true (decide_eq_true (by omega)))
  have d48:decide ((48:Int)<=(n:Int))=false:=decide_eq_false (by omega)
  have q43:((n:Int)==43)=false:=beq_eq_false_iff_ne.2 (by omega)
  have q45:((n:Int)==45)=false:=beq_eq_false_iff_ne.2 (by omega)
  have q46:((n:Int)==46)=true:=beq_iff_eq.2 (by omega)
  clear HL h
  go_enter Tryz.func150,Tryz.ntmps150
  go_wp2_with fail
  go_ret
  rw[HN.out]
  exact⟨rfl,rfl⟩
 ·have HN:=hide (HL.out false (decide_eq_false (by omega)))
  have d48:decide ((48:Int)<=(n:Int))=false:=decide_eq_false (by omega)
  have q43:((n:Int)==43)=false:=beq_eq_false_iff_ne.2 (by omega)
  have q45:((n:Int)==45)=false:=beq_eq_false_iff_ne.2 (by omega)
  have q46:((n:Int)==46)=false:=beq_eq_false_iff_ne.2 (by omega)
  clear HL h
  go_enter Tryz.func150,Tryz.ntmps150
  go_wp2_with fail
  go_ret
  rw[HN.out]
  exact⟨rfl,rfl⟩
 ·have HN:=hide (HL.out false (decide_eq_false (by omega)))
  have d48:decide ((48:Int)<=(n:Int))=true:=decide_eq_true (by omega)
  have d57:decide ((n:Int)<=57)=false:=decide_eq_false (by omega)
  have q43:((n:Int)==43)=false:=beq_eq_false_iff_ne.2 (by omega)
  have q45:((n:Int)==45)=false:=beq_eq_false_iff_ne.2 (by omega)
  have q46:((n:Int)==46)=false:=beq_eq_false_iff_ne.2 (by omega)
  clear HL h
  go_enter Tryz.func150,Tryz.ntmps150
  go_wp2_with fail
  go_ret
  rw[HN.out]
  exact⟨rfl,rfl⟩
theorem lower_get {b:List UInt8}{p:Nat}{c:UInt8}(h:b[p]?=some c):(lower b)[p]?=some (low8 c):=by
 unfold lower
 rw[List.getElem?_map,h]
 rfl
theorem lower_take (b:List UInt8) (p:Nat):lower (b.take p)=(lower b).take p:=by
 unfold lower
 rw[List.map_take]
theorem lower_length (b:List UInt8):(lower b).length=b.length:=by
 unfold lower
 rw[List.length_map]
theorem low8_small {c:UInt8}(h:¬ (65<=c.toNat/\c.toNat<=90)):low8 c=c:=by
 unfold low8
 rw[if_neg h]
theorem low8_let {c:UInt8}(h:letA c.toNat=true):97<=(low8 c).toNat/\(low8 c).toNat<=122:=by
 have h:=of_decide_eq_true h
 rw[low8_toNat]
 unfold lowN
 split <;> omega
theorem sch_letter {b:List UInt8}{p:Nat}{c:UInt8}(h:b[p]?=some c)(hl:letA c.toNat=true):schP (lower b) p=schP (lower b) (p+1):=by
 have hr:=low8_let hl
 refine schP_go (lower_get h) (ne_of_toNat ?_) (.inl (letB_yes hr.1 hr.2))
 intro e
 have e:(low8 c).toNat=58:=e
 omega
theorem sch_goes {b:List UInt8}{p:Nat}{c:UInt8}(h:b[p]?=some c)(h0:p≠0)(hg:goB c.toNat=true):schP (lower b) p=schP (lower b) (p+1):=by
 have hg:=of_decide_eq_true hg
 have hs:low8 c=c:=low8_small (by omega)
 have hb:=lower_get h
 rw[hs] at hb
 refine schP_go hb (ne_of_toNat ?_) (.inr ⟨h0,schB_yes (by omega)⟩)
 intro e
 have e:c.toNat=58:=e
 omega
theorem sch_hit {b:List UInt8}{p:Nat}{c:UInt8}(h:b[p]?=some c)(h0:p≠0)(hc:c.toNat=58):schP (lower b) p=some (lower (b.take p)):=by
 have e:c=58:=UInt8.toNat_inj.1 hc
 rw[e] at h
 rw[lower_take,schP_hit (lower_get h) h0]
theorem sch_miss {b:List UInt8}{p:Nat}{c:UInt8}(h:b[p]?=some c)(hl:letA c.toNat=false)(ho:p=0\/(c.toNat≠58/\goB c.toNat=false)):schP (lower b) p=none:=by
 have hl:=of_decide_eq_false hl
 have hs:low8 c=c:=low8_small (by omega)
 have hb:=lower_get h
 rw[hs] at hb
 refine schP_miss hb (letB_no (by omega)) ?_
 rcases ho with ho | ⟨h1,h2⟩
 ·exact .inl ho
 ·have h2:=of_decide_eq_false h2
  exact .inr ⟨ne_of_toNat h1,schB_no (by omega) (by omega) (by omega)⟩
theorem scheme_any:SchemeC:=by
 intro s w hs
 have c1:=fun w=>bare_any s w hs
 have hbl:=bare_len (bl s)
 rw[bl_len] at hbl
 have hbs:(⟨(bare (bl s)).toArray⟩:ByteArray).size<=100000:=by rw[size_mk];omega
 have HS:Hid (scheme (bl s)=schA (lower (bl (⟨(bare (bl s)).toArray⟩:ByteArray)))):=hide rfl
 generalize (⟨(bare (bl s)).toArray⟩:ByteArray)=B at c1 hbs HS
 clear hbl
 go_enter Tryz.func139,Tryz.ntmps139
 go_wp2_with fail
 go_step3
 go_wp2_with fail
 refine (c1 _).mono ?_
 rintro e w2 ⟨rfl,HB⟩
 clear c1
 go_wp2_with fail
 go_step3
 go_wp2_with fail
 go_loopg [5] B.size (fun g v wx=>wx=w2/\∃ p:Nat,p+g=B.size/\v=.int .i64 (p:Int)/\Hid (scheme (bl s)=schP (lower (bl B)) p))
 case atStart=>exact⟨rfl,0,by omega,rfl,hide (by rw[HS.out,schP_zero])⟩
 case round =>
  obtain⟨rfl,p,hp,rfl,HD⟩:=hrel
  by_cases hlt:p < B.size
  ·obtain⟨c,hc⟩:=getK B p hlt
   have i00:=fun w=>idxK hc w
   have hcb:=c.toNat_lt
   have HX:Hid (c.toNat=58->p≠0->schS (scheme (bl s))=⟨(lower (bl (B.extract 0 p))).toArray⟩/\(scheme (bl s)).isSome=true):=hide (fun h h0=>by
    rw[HD.out,sch_hit hc h0 h,extract_bl]
    exact⟨by simp[schS],rfl⟩)
   have HLE:Hid (letA c.toNat=true->scheme (bl s)=schP (lower (bl B)) (p+1)):=hide (fun h=>HD.out.trans (sch_letter hc h))
   have HGO:Hid (p≠0->goB c.toNat=true->scheme (bl s)=schP (lower (bl B)) (p+1)):=hide (fun h0 h=>HD.out.trans (sch_goes hc h0 h))
   have HMI:Hid (letA c.toNat=false->(p=0\/(c.toNat≠58/\goB c.toNat=false))->scheme (bl s)=none):=hide (fun hl h=>HD.out.trans (sch_miss hc hl h))
   obtain⟨n,hn⟩:∃ n,n=c.toNat:=⟨_,rfl⟩
   rw[<-hn] at i00 hcb HX HLE HGO HMI
   have i0:∀ w,(Instr.index 9 (.string B) (.int .i64 (p:Int))).run Tryz.prog w=.ok (.int .u8 (n:Int)) w:=i00
   have cl:=fun w=>letter_any n hcb w
   have cg:=fun w=>goesOn_any n hcb w
   clear i00 hn hc HD
   cases hle:letA n with
   | true =>
    have HN:=hide (HLE.out hle)
    rw[hle] at cl
    clear HX HLE HGO HMI cg hle
    go_wp2_with fail
    refine (cl _).mono ?_
    rintro e w3 ⟨rfl,rfl⟩
    go_wp2_with fail
    go_roundg (gk - 1)
    case measure=>omega
    case rel=>exact⟨rfl,p+1,by omega,by first | rfl | simp,HN⟩
   | false =>
    rw[hle] at cl
    by_cases hz:p=0
    ·have HN:=hide (HMI.out hle (.inl hz))
     have dp:¬ 0 < p:=by omega
     clear HX HLE HGO HMI cg hle hz
     go_wp2_with fail
     refine (cl _).mono ?_
     rintro e w3 ⟨rfl,rfl⟩
     go_wp2_with fail
     rw[Exit.noGoto_ret]
     go_ret2
     rw[HN.out]
     exact⟨rfl,HB⟩
    ·have dp:0 < p:=by omega
     cases hgo:goB n with
     | true =>
      rw[hgo] at cg
      have HN:=hide (HGO.out hz hgo)
      clear HX HLE HGO HMI hle hgo hz
      go_wp2_with fail
      refine (cl _).mono ?_
      rintro e w3 ⟨rfl,rfl⟩
      go_wp2_with fail
      refine (cg _).mono ?_
      rintro e w4 ⟨rfl,rfl⟩
      go_wp2_with fail
      go_roundg (gk - 1)
      case measure=>omega
      case rel=>exact⟨rfl,p+1,by omega,by first | rfl | simp,HN⟩
     | false =>
      rw[hgo] at cg
      by_cases h58:n=58
      ·have HN:=hide (HX.out h58 hz)
       have q58:((n:Int)==58)=true:=beq_iff_eq.2 (by omega)
       have cw:=fun w=>lower_any (B.extract 0 p) w
       clear HX HLE HGO HMI hle hgo hz h58
       go_wp2_with fail
       refine (cl _).mono ?_
       rintro e w3 ⟨rfl,rfl⟩
       go_wp2_with fail
       refine (cg _).mono ?_
       rintro e w4 ⟨rfl,rfl⟩
       go_wp2_with fail
       refine (cw _).mono ?_
       rintro e w5 ⟨rfl,hb5⟩
       go_wp2_with fail
       rw[Exit.noGoto_ret]
       go_ret2
       rw[HN.out.1,HN.out.2]
       exact⟨rfl,bel2 HB hb5⟩
      ·have HN:=hide (HMI.out hle (.inr ⟨h58,hgo⟩))
       have q58:((n:Int)==58)=false:=beq_eq_false_iff_ne.2 (by omega)
       clear HX HLE HGO HMI hle hgo hz h58
       go_wp2_with fail
       refine (cl _).mono ?_
       rintro e w3 ⟨rfl,rfl⟩
       go_wp2_with fail
       refine (cg _).mono ?_
       rintro e w4 ⟨rfl,rfl⟩
       go_wp2_with fail
       rw[Exit.noGoto_ret]
       go_ret2
       rw[HN.out]
       exact⟨rfl,HB⟩
  ·have HN:Hid (scheme (bl s)=none):=hide (by rw[HD.out,schP_end (by rw[lower_length,bl_len];omega)])
   clear HD
   go_wp2_with fail
   rw[Exit.noGoto_ret]
   go_ret2
   rw[HN.out]
   exact⟨rfl,HB⟩
end Go.Proofs.YtkiofbikkhhdfabGreatDoor.Ul
namespace Go.Proofs.YtkiofbikkhhdfabGreatDoor.Ul
open Go.RowKit
open Utf1
theorem oneOf_any (X:ByteArray) (v:Value) (ss:List ByteArray)(hl:ss.length<=100000) (w:World)(hv:StrArg w v ss) :
  Calls Tryz.prog 140 #[.string X,v] w fun e w'=>e=.returned (.bool (decide (bl X∈ss.map bl)))/\w'=w:=by
 obtain⟨R,hR⟩:∃ R,R=decide (bl X∈ss.map bl):=⟨_,rfl⟩
 rw[<-hR]
 have HAL:=hide hR
 clear hR
 obtain⟨p,cap,rfl,-,hc⟩:=hv
 have HC:=hide hc
 obtain⟨N,hN⟩:∃ N,N=ss.length:=⟨_,rfl⟩
 rw[<-hN] at hl ⊢
 have HN:=hide hN
 clear hc hN
 go_enter Tryz.func140,Tryz.ntmps140
 go_wp2_with fail
 go_loopg [9] N (fun g v wx=>wx=w/\∃ i:Nat,i+g=N/\v=.int .i64 (i:Int)/\Hid (∀ j z,j < i->ss[j]?=some z->bl z≠bl X))
 case atStart=>exact⟨rfl,0,by omega,rfl,hide (fun j z hj=>by omega)⟩
 case round =>
  obtain⟨rfl,i,hi,rfl,HU⟩:=hrel
  by_cases hlt:i < N
  ·have hlt':i < ss.length:=by rw[<-HN.out];exact hlt
   have hge:ss[i]?=some ss[i]:=List.getElem?_eq_getElem hlt'
   generalize ss[i]=y at hge
   obtain⟨b,off,rfl,c0⟩:=HC.out i y hge
   have q0:=eq_two y X
   have HG:=hide hge
   clear hge hlt'
   by_cases hy:bl y=bl X
   ·rw[decide_eq_true hy] at q0
    have HR:Hid (R=true):=hide (by
     rw[HAL.out]
     apply decide_eq_true
     rw[<-hy]
     exact List.mem_map_of_mem (List.mem_of_getElem? HG.out))
    clear hy HU HG
    go_wp2_with fail
    go_ret
    rw[HR.out]
    exact⟨rfl,rfl⟩
   ·rw[decide_eq_false hy] at q0
    have HU2:=hide (mem_upto HG.out HU.out hy)
    clear hy HU HG
    go_wp2_with fail
    go_roundg (gk - 1)
    case measure=>omega
    case rel=>exact⟨rfl,i+1,by omega,by first | rfl | simp,HU2⟩
  ·have HR:Hid (R=false):=hide (by
    rw[HAL.out]
    apply decide_eq_false
    exact not_mem_of (N:=i) (by rw[<-HN.out];omega) HU.out)
   clear HU
   go_wp2_with fail
   go_ret
   rw[HR.out]
   exact⟨rfl,rfl⟩
theorem pre_two (B:ByteArray):([47,47]:List UInt8).isPrefixOf (bl B)=decide ((bl B).take 2=[47,47]):=by
 by_cases h:(bl B).take 2=[47,47]
 ·rw[decide_eq_true h,List.isPrefixOf_iff_prefix]
  exact⟨(bl B).drop 2,by rw[<-h,List.take_append_drop]⟩
 ·rw[decide_eq_false h]
  apply Bool.eq_false_iff.2
  intro e
  obtain⟨t,ht⟩:=List.isPrefixOf_iff_prefix.1 e
  exact h (by rw[<-ht];rfl)
theorem pre_c (s:ByteArray) (b:Bool)(h:decide ((bl s).take 2=[47,47])=b) (w:World):Calls Tryz.prog 73 #[.string s,.string ⟨#[47,47]⟩] w fun e w'=>e=.returned (.bool b)/\w'=w:=by
 rw[<-h,<-pre_two]
 exact Tryz.strings_HasPrefix s ⟨#[47,47]⟩ w
theorem near_any (B:ByteArray)(hs:B.size<=100000) (w:World) :
  Calls Tryz.prog 141 #[.string B] w fun e w'=>e=.returned (.bool (plainOk (bl B)))/\w'=w:=by
 obtain⟨R,hR⟩:∃ R,R=plainOk (bl B):=⟨_,rfl⟩
 rw[<-hR]
 have HAL:=hide hR
 clear hR
 by_cases h2:(bl B).take 2=[47,47]
 ·have cp:=fun w=>pre_c B true (decide_eq_true h2) w
  have HR:Hid (R=false):=hide (by
   rw[HAL.out]
   unfold plainOk
   rw[decide_eq_true h2]
   rfl)
  clear h2 HAL
  go_enter Tryz.func141,Tryz.ntmps141
  go_wp2_with fail
  refine (cp _).mono ?_
  rintro e w1 ⟨rfl,rfl⟩
  go_wp2_with fail
  go_ret
  rw[HR.out]
  exact⟨rfl,rfl⟩
 ·have cp:=fun w=>pre_c B false (decide_eq_false h2) w
  have HAL:Hid (R=(bl B).all (fun c=>!badB c)):=hide (by
   rw[HAL.out]
   unfold plainOk
   rw[decide_eq_false h2]
   rfl)
  have HBAD:Hid (∀ (j:Nat) (c:UInt8),(bl B)[j]?=some c->badB c=true->R=false):=hide (fun j c h hc=>by
   rw[HAL.out,List.all_eq_false]
   exact⟨c,List.mem_of_getElem? h,by rw[hc];decide⟩)
  clear h2
  go_enter Tryz.func141,Tryz.ntmps141
  go_wp2_with fail
  refine (cp _).mono ?_
  rintro e w1 ⟨rfl,rfl⟩
  clear cp
  go_wp2_with fail
  go_loopg [9] B.size (fun g v wx=>wx=w1/\∃ i:Nat,i+g=B.size/\v=.int .i64 (i:Int)/\Hid (∀ j c,j < i->(bl B)[j]?=some c->badB c=false))
  case atStart=>exact⟨rfl,0,by omega,rfl,hide (fun j z hj=>by omega)⟩
  case round =>
   obtain⟨rfl,i,hi,rfl,HU⟩:=hrel
   by_cases hlt:i < B.size
   ·obtain⟨c,hc⟩:=getK B i hlt
    have i0:=fun w=>idxK hc w
    have k32:=lt32 c
    have k92:((c.toNat:Int)==92)=decide (c=92):=beqK c 92 (by decide)
    have k127:((c.toNat:Int)==127)=decide (c=127):=beqK c 127 (by decide)
    have HRB:Hid (badB c=true->R=false):=hide (HBAD.out i c hc)
    have HU2:Hid (badB c=false->∀ j d,j < i+1->(bl B)[j]?=some d->badB d=false):=hide (fun hb j d hj hd=>by
     by_cases e:j=i
     ·subst e
      rw[hc] at hd
      cases hd
      exact hb
     ·exact HU.out j d (by omega) hd)
    clear hc HU
    by_cases h32:c.toNat < 32
    ·rw[decide_eq_true h32] at k32
     have HR:Hid (R=false):=hide (HRB.out (decide_eq_true (.inl h32)))
     generalize (c.toNat:Int)=z at i0 k32
     clear k92 k127 HRB HU2 h32
     go_wp2_with fail
     go_ret
     rw[HR.out]
     exact⟨rfl,rfl⟩
    ·rw[decide_eq_false h32] at k32
     by_cases h92:c=92
     ·rw[decide_eq_true h92] at k92
      have HR:Hid (R=false):=hide (HRB.out (decide_eq_true (.inr (.inl h92))))
      generalize (c.toNat:Int)=z at i0 k32 k92
      clear k127 HRB HU2 h32 h92
      go_wp2_with fail
      go_ret
      rw[HR.out]
      exact⟨rfl,rfl⟩
     ·rw[decide_eq_false h92] at k92
      by_cases h127:c=127
      ·rw[decide_eq_true h127] at k127
       have HR:Hid (R=false):=hide (HRB.out (decide_eq_true (.inr (.inr h127))))
       generalize (c.toNat:Int)=z at i0 k32 k92 k127
       clear HRB HU2 h32 h92 h127
       go_wp2_with fail
       go_ret
       rw[HR.out]
       exact⟨rfl,rfl⟩
      ·rw[decide_eq_false h127] at k127
       have HU3:=hide (HU2.out (decide_eq_false (by rintro (h | h | h);exact h32 h;exact h92 h;exact h127 h)))
       generalize (c.toNat:Int)=z at i0 k32 k92 k127
       clear HRB HU2 h32 h92 h127
       go_wp2_with fail
       go_roundg (gk - 1)
       case measure=>omega
       case rel=>exact⟨rfl,i+1,by omega,by first | rfl | simp,HU3⟩
   ·have HR:Hid (R=true):=hide (by
     rw[HAL.out,List.all_eq_true]
     intro c hc
     obtain⟨j,hj,e⟩:=List.mem_iff_getElem.1 hc
     have:=HU.out j c (by rw[bl_len] at hj;omega) (by rw[List.getElem?_eq_getElem hj,e])
     rw[this]
     rfl)
    clear HU
    go_wp2_with fail
    go_ret
    rw[HR.out]
    exact⟨rfl,rfl⟩
theorem allowed_any:AllowedC:=by
 intro s v ss w hs hl hv
 have c1:=fun w=>scheme_any s w hs
 have c2:=fun w=>bare_any s w hs
 have HAL:Hid (allowed (bl s) (ss.map bl)=match scheme (bl s) with
  | some x=>decide (x∈ss.map bl)
  | none=>plainOk (bare (bl s))):=hide rfl
 obtain⟨R,hR⟩:∃ R,R=allowed (bl s) (ss.map bl):=⟨_,rfl⟩
 rw[<-hR] at HAL ⊢
 clear hR
 have hbl:=bare_len (bl s)
 rw[bl_len] at hbl
 cases hsc:scheme (bl s) with
 | some x =>
  rw[hsc] at c1 HAL
  have c1:∀ w,Calls Tryz.prog 139 #[.string s] w fun e w'=>e=.returned (.tuple #[.string ⟨x.toArray⟩,.bool true])/\Below w.heap.size w w':=c1
  have HAL:Hid (R=decide (bl ⟨x.toArray⟩∈ss.map bl)):=HAL
  have H3:Hid (∀ w,StrArg w v ss->Calls Tryz.prog 140 #[.string ⟨x.toArray⟩,v] w fun e w'=>e=.returned (.bool R)/\w'=w):=hide (fun w h=>by
   rw[HAL.out]
   exact oneOf_any ⟨x.toArray⟩ v ss hl w h)
  generalize (⟨x.toArray⟩:ByteArray)=X at c1 H3
  have HV:=hide hv
  obtain⟨p,cap,rfl,-,-⟩:=hv
  clear hsc c2 hbl HAL
  generalize ss.length=N at *
  go_enter Tryz.func123,Tryz.ntmps123
  go_wp2_with fail
  refine (c1 _).mono ?_
  rintro e w1 ⟨rfl,hb1⟩
  go_wp2_with fail
  refine (H3.out _ (HV.out.below hb1)).mono ?_
  rintro e w2 ⟨rfl,rfl⟩
  go_wp2_with fail
  go_ret
  exact⟨rfl,hb1⟩
 | none =>
  rw[hsc] at c1 HAL
  have c1:∀ w,Calls Tryz.prog 139 #[.string s] w fun e w'=>e=.returned (.tuple #[.string ⟨#[]⟩,.bool false])/\Below w.heap.size w w':=c1
  have c3:∀ w,Calls Tryz.prog 141 #[.string ⟨(bare (bl s)).toArray⟩] w fun e w'=>e=.returned (.bool R)/\w'=w:=fun w=>by
   rw[HAL.out]
   exact near_any (⟨(bare (bl s)).toArray⟩:ByteArray) (by rw[size_mk];omega) w
  generalize (⟨(bare (bl s)).toArray⟩:ByteArray)=B at c2 c3
  obtain⟨pv,cap,rfl,-,-⟩:=hv
  clear hsc hbl HAL
  generalize ss.length=N at *
  go_enter Tryz.func123,Tryz.ntmps123
  go_wp2_with fail
  refine (c1 _).mono ?_
  rintro e w1 ⟨rfl,hb1⟩
  go_wp2_with fail
  refine (c2 _).mono ?_
  rintro e w2 ⟨rfl,hb2⟩
  go_wp2_with fail
  refine (c3 _).mono ?_
  rintro e w3 ⟨rfl,rfl⟩
  go_wp2_with fail
  go_ret
  exact⟨rfl,bel2 hb1 hb2⟩
end Go.Proofs.YtkiofbikkhhdfabGreatDoor.Ul
