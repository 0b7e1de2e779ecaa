import Derived.Test.YtkiofbikkhhdfabGreatDoorK22
import Derived.Test.YtkiofbikkhhdfabGreatDoorK17
import Derived.Test.YtkiofbikkhhdfabGreatDoorK21
import Derived.Test.YtkiofbikkhhdfabGreatDoorK13
import Derived.Test.YtkiofbikkhhdfabGreatDoorK08
namespace Go.Proofs.YtkiofbikkhhdfabGreatDoor.Ul
open Go.RowKit
open Utf1
def letA (n:Nat):Bool:=decide ((97<=n/\n<=122)\/(65<=n/\n<=90))
def goB (n:Nat):Bool:=decide ((48<=n/\n<=57)\/n=43\/n=45\/n=46)
set_option maxHeartbeats 4000000 in
theorem letter_any (n:Nat)(hn:n < 256) (w:World) :
  Calls Tryz.prog 149 #[.int .u8 (n:Int)] w fun e w'=>e=.returned (.bool (letA n))/\w'=w:=by
 have HL:Hid (∀ b,decide ((97<=n/\n<=122)\/(65<=n/\n<=90))=b->letA n=b):=hide (fun b h=>h)
 rcases (show n < 65\/(65<=n/\n<=90)\/(90 < n/\n < 97)\/(97<=n/\n<=122)\/122 < n from by omega) with h | h | h | h | h
 ·have HN:=hide (HL.out false (decide_eq_false (by omega)))
  have d97:decide ((97:Int)<=(n:Int))=false:=decide_eq_false (by omega)
  have d65:decide ((65:Int)<=(n:Int))=false:=decide_eq_false (by omega)
  clear HL h
  go_enter Tryz.func149,Tryz.ntmps149
  go_wp2_with fail
  go_ret
  rw[HN.out]
  exact⟨rfl,rfl⟩
 ·have HN:=hide (HL.out true (decide_eq_true (by omega)))
  have d97:decide ((97:Int)<=(n:Int))=false:=decide_eq_false (by omega)
  have d65:decide ((65:Int)<=(n:Int))=true:=decide_eq_true (by omega)
  have d90:decide ((n:Int)<=90)=true:=decide_eq_true (by omega)
  clear HL h
  go_enter Tryz.func149,Tryz.ntmps149
  go_wp2_with fail
  go_ret
  rw[HN.out]
  exact⟨rfl,rfl⟩
 ·have HN:=hide (HL.out false (decide_eq_false (by omega)))
  have d97:decide ((97:Int)<=(n:Int))=false:=decide_eq_false (by omega)
  have d65:decide ((65:Int)<=(n:Int))=true:=decide_eq_true (by omega)
  have d90:decide ((n:Int)<=90)=false:=decide_eq_false (by omega)
  clear HL h
  go_enter Tryz.func149,Tryz.ntmps149
  go_wp2_with fail
  go_ret
  rw[HN.out]
  exact⟨rfl,rfl⟩
 ·have HN:=hide (HL.out true (decide_eq_true (by omega)))
  have d97:decide ((97:Int)<=(n:Int))=true:=decide_eq_true (by omega)
  have d122:decide ((n:Int)<=122)=true:=decide_eq_true (by omega)
  clear HL h
  go_enter Tryz.func149,Tryz.ntmps149
  go_wp2_with fail
  go_ret
  rw[HN.out]
  exact⟨rfl,rfl⟩
 ·have HN:=hide (HL.out false (decide_eq_false (by omega)))
  have d97:decide ((97:Int)<=(n:Int))=true:=decide_eq_true (by omega)
  have d122:decide ((n:Int)<=122)=false:=decide_eq_false (by omega)
  have d65:decide ((65:Int)<=(n:Int))=true:=decide_eq_true (by omega)
  have d90:decide ((n:Int)<=90)=false:=decide_eq_false (by omega)
  clear HL h
  go_enter Tryz.func149,Tryz.ntmps149
  go_wp2_with fail
  go_ret
  rw[HN.out]
  exact⟨rfl,rfl⟩
set_option maxHeartbeats 4000000 in
theorem goesOn_any (n:Nat)(hn:n < 256) (w:World) :
  Calls Tryz.prog 150 #[.int .u8 (n:Int)] w fun e w'=>e=.returned (.bool (goB n))/\w'=w:=by
 have HL:Hid (∀ b,decide ((48<=n/\n<=57)\/n=43\/n=45\/n=46)=b->goB n=b):=hide (fun b h=>h)
 rcases (show (48<=n/\n<=57)\/n=43\/n=45\/n=46\/(n < 48/\n≠43/\n≠45/\n≠46)\/57 < n from by omega) with h | h | h | h | h | h
 ·have HN:=hide (HL.out true (decide_eq_true (by omega)))
  have d48:decide ((48:Int)<=(n:Int))=true:=decide_eq_true (by omega)
  have d57:decide ((n:Int)<=57)=true:=decide_eq_true (by omega)
  clear HL h
  go_enter Tryz.func150,Tryz.ntmps150
  go_wp2_with fail
  go_ret
  rw[HN.out]
  exact⟨rfl,rfl⟩
 ·have HN:=hide (HL.out true (decide_eq_true (by omega)))
  have d48:decide ((48:Int)<=(n:Int))=false:=decide_eq_false (by omega)
  have q43:((n:Int)==43)=true:=beq_iff_eq.2 (by omega)
  clear HL h
  go_enter Tryz.func150,Tryz.ntmps150
  go_wp2_with fail
  go_ret
  rw[HN.out]
  exact⟨rfl,rfl⟩
 ·have HN:=hide (HL.out true (decide_eq_true (by omega)))
  have d48:decide ((48:Int)<=(n:Int))=false:=decide_eq_false (by omega)
  have q43:((n:Int)==43)=false:=beq_eq_false_iff_ne.2 (by omega)
  have q45:((n:Int)==45)=true:=beq_iff_eq.2 (by omega)
  clear HL h
  go_enter Tryz.func150,Tryz.ntmps150
  go_wp2_with fail
  go_ret
  rw[HN.out]
  exact⟨rfl,rfl⟩
 ·have HN:=hide (HL.out true (decide_eq_true (by omega)))
  have d48:decide ((48:Int)<=(n:Int))=false:=decide_eq_false (by omega)
  have q43:((n:Int)==43)=false:=beq_eq_false_iff_ne.2 (by omega)
  have q45:((n:Int)==45)=false:=beq_eq_false_iff_ne.2 (by omega)
  have q46:((n:Int)==46)=true:=beq_iff_eq.2 (by omega)
  clear HL h
  go_enter Tryz.func150,Tryz.ntmps150
  go_wp2_with fail
  go_ret
  rw[HN.out]
  exact⟨rfl,rfl⟩
 ·have HN:=hide (HL.out false (decide_eq_false (by omega)))
  have d48:decide ((48:Int)<=(n:Int))=false:=decide_eq_false (by omega)
  have q43:((n:Int)==43)=false:=beq_eq_false_iff_ne.2 (by omega)
  have q45:((n:Int)==45)=false:=beq_eq_false_iff_ne.2 (by omega)
  have q46:((n:Int)==46)=false:=beq_eq_false_iff_ne.2 (by omega)
  clear HL h
  go_enter Tryz.func150,Tryz.ntmps150
  go_wp2_with fail
  go_ret
  rw[HN.out]
  exact⟨rfl,rfl⟩
 ·have HN:=hide (HL.out false (decide_eq_false (by omega)))
  have d48:decide ((48:Int)<=(n:Int))=true:=decide_eq_true (by omega)
  have d57:decide ((n:Int)<=57)=false:=decide_eq_false (by omega)
  have q43:((n:Int)==43)=false:=beq_eq_false_iff_ne.2 (by omega)
  have q45:((n:Int)==45)=false:=beq_eq_false_iff_ne.2 (by omega)
  have q46:((n:Int)==46)=false:=beq_eq_false_iff_ne.2 (by omega)
  clear HL h
  go_enter Tryz.func150,Tryz.ntmps150
  go_wp2_with fail
  go_ret
  rw[HN.out]
  exact⟨rfl,rfl⟩
theorem lower_get {b:List UInt8}{p:Nat}{c:UInt8}(h:b[p]?=some c):(lower b)[p]?=some (low8 c):=by
 unfold lower
 rw[List.getElem?_map,h]
 rfl
theorem lower_take (b:List UInt8) (p:Nat):lower (b.take p)=(lower b).take p:=by
 unfold lower
 rw[List.map_take]
theorem lower_length (b:List UInt8):(lower b).length=b.length:=by
 unfold lower
 rw[List.length_map]
theorem low8_small {c:UInt8}(h:¬ (65<=c.toNat/\c.toNat<=90)):low8 c=c:=by
 unfold low8
 rw[if_neg h]
theorem low8_let {c:UInt8}(h:letA c.toNat=true):97<=(low8 c).toNat/\(low8 c).toNat<=122:=by
 have h:=of_decide_eq_true h
 rw[low8_toNat]
 unfold lowN
 split <;> omega
theorem sch_letter {b:List UInt8}{p:Nat}{c:UInt8}(h:b[p]?=some c)(hl:letA c.toNat=true):schP (lower b) p=schP (lower b) (p+1):=by
 have hr:=low8_let hl
 refine schP_go (lower_get h) (ne_of_toNat ?_) (.inl (letB_yes hr.1 hr.2))
 intro e
 have e:(low8 c).toNat=58:=e
 omega
theorem sch_goes {b:List UInt8}{p:Nat}{c:UInt8}(h:b[p]?=some c)(h0:p≠0)(hg:goB c.toNat=true):schP (lower b) p=schP (lower b) (p+1):=by
 have hg:=of_decide_eq_true hg
 have hs:low8 c=c:=low8_small (by omega)
 have hb:=lower_get h
 rw[hs] at hb
 refine schP_go hb (ne_of_toNat ?_) (.inr ⟨h0,schB_yes (by omega)⟩)
 intro e
 have e:c.toNat=58:=e
 omega
theorem sch_hit {b:List UInt8}{p:Nat}{c:UInt8}(h:b[p]?=some c)(h0:p≠0)(hc:c.toNat=58):schP (lower b) p=some (lower (b.take p)):=by
 have e:c=58:=UInt8.toNat_inj.1 hc
 rw[e] at h
 rw[lower_take,schP_hit (lower_get h) h0]
theorem sch_miss {b:List UInt8}{p:Nat}{c:UInt8}(h:b[p]?=some c)(hl:letA c.toNat=false)(ho:p=0\/(c.toNat≠58/\goB c.toNat=false)):schP (lower b) p=none:=by
 have hl:=of_decide_eq_false hl
 have hs:low8 c=c:=low8_small (by omega)
 have hb:=lower_get h
 rw[hs] at hb
 refine schP_miss hb (letB_no (by omega)) ?_
 rcases ho with ho | ⟨h1,h2⟩
 ·exact .inl ho
 ·have h2:=of_decide_eq_false h2
  exact .inr ⟨ne_of_toNat h1,schB_no (by omega) (by omega) (by omega)⟩
set_option maxHeartbeats 4000000 in
theorem scheme_any:SchemeC:=by
 intro s w hs
 have c1:=fun w=>bare_any s w hs
 have hbl:=bare_len (bl s)
 rw[bl_len] at hbl
 have hbs:(⟨(bare (bl s)).toArray⟩:ByteArray).size<=100000:=by rw[size_mk];omega
 have HS:Hid (scheme (bl s)=schA (lower (bl (⟨(bare (bl s)).toArray⟩:ByteArray)))):=hide rfl
 generalize (⟨(bare (bl s)).toArray⟩:ByteArray)=B at c1 hbs HS
 clear hbl
 go_enter Tryz.func139,Tryz.ntmps139
 go_wp2_with fail
 go_step3
 go_wp2_with fail
 refine (c1 _).mono ?_
 rintro e w2 ⟨rfl,HB⟩
 clear c1
 go_wp2_with fail
 go_step3
 go_wp2_with fail
 go_loopg [5] B.size (fun g v wx=>wx=w2/\∃ p:Nat,p+g=B.size/\v=.int .i64 (p:Int)/\Hid (scheme (bl s)=schP (lower (bl B)) p))
 case atStart=>exact⟨rfl,0,by omega,rfl,hide (by rw[HS.out,schP_zero])⟩
 case round =>
  obtain⟨rfl,p,hp,rfl,HD⟩:=hrel
  by_cases hlt:p < B.size
  ·obtain⟨c,hc⟩:=getK B p hlt
   have i00:=fun w=>idxK hc w
   have hcb:=c.toNat_lt
   have HX:Hid (c.toNat=58->p≠0->schS (scheme (bl s))=⟨(lower (bl (B.extract 0 p))).toArray⟩/\(scheme (bl s)).isSome=true):=hide (fun h h0=>by
    rw[HD.out,sch_hit hc h0 h,extract_bl]
    exact⟨by simp[schS],rfl⟩)
   have HLE:Hid (letA c.toNat=true->scheme (bl s)=schP (lower (bl B)) (p+1)):=hide (fun h=>HD.out.trans (sch_letter hc h))
   have HGO:Hid (p≠0->goB c.toNat=true->scheme (bl s)=schP (lower (bl B)) (p+1)):=hide (fun h0 h=>HD.out.trans (sch_goes hc h0 h))
   have HMI:Hid (letA c.toNat=false->(p=0\/(c.toNat≠58/\goB c.toNat=false))->scheme (bl s)=none):=hide (fun hl h=>HD.out.trans (sch_miss hc hl h))
   obtain⟨n,hn⟩:∃ n,n=c.toNat:=⟨_,rfl⟩
   rw[<-hn] at i00 hcb HX HLE HGO HMI
   have i0:∀ w,(Instr.index 9 (.string B) (.int .i64 (p:Int))).run Tryz.prog w=.ok (.int .u8 (n:Int)) w:=i00
   have cl:=fun w=>letter_any n hcb w
   have cg:=fun w=>goesOn_any n hcb w
   clear i00 hn hc HD
   cases hle:letA n with
   | true =>
    have HN:=hide (HLE.out hle)
    rw[hle] at cl
    clear HX HLE HGO HMI cg hle
    go_wp2_with fail
    refine (cl _).mono ?_
    rintro e w3 ⟨rfl,rfl⟩
    go_wp2_with fail
    go_roundg (gk - 1)
    case measure=>omega
    case rel=>exact⟨rfl,p+1,by omega,by first | rfl | simp,HN⟩
   | false =>
    rw[hle] at cl
    by_cases hz:p=0
    ·have HN:=hide (HMI.out hle (.inl hz))
     have dp:¬ 0 < p:=by omega
     clear HX HLE HGO HMI cg hle hz
     go_wp2_with fail
     refine (cl _).mono ?_
     rintro e w3 ⟨rfl,rfl⟩
     go_wp2_with fail
     rw[Exit.noGoto_ret]
     go_ret2
     rw[HN.out]
     exact⟨rfl,HB⟩
    ·have dp:0 < p:=by omega
     cases hgo:goB n with
     | true =>
      rw[hgo] at cg
      have HN:=hide (HGO.out hz hgo)
      clear HX HLE HGO HMI hle hgo hz
      go_wp2_with fail
      refine (cl _).mono ?_
      rintro e w3 ⟨rfl,rfl⟩
      go_wp2_with fail
      refine (cg _).mono ?_
      rintro e w4 ⟨rfl,rfl⟩
      go_wp2_with fail
      go_roundg (gk - 1)
      case measure=>omega
      case rel=>exact⟨rfl,p+1,by omega,by first | rfl | simp,HN⟩
     | false =>
      rw[hgo] at cg
      by_cases h58:n=58
      ·have HN:=hide (HX.out h58 hz)
       have q58:((n:Int)==58)=true:=beq_iff_eq.2 (by omega)
       have cw:=fun w=>lower_any (B.extract 0 p) w
       clear HX HLE HGO HMI hle hgo hz h58
       go_wp2_with fail
       refine (cl _).mono ?_
       rintro e w3 ⟨rfl,rfl⟩
       go_wp2_with fail
       refine (cg _).mono ?_
       rintro e w4 ⟨rfl,rfl⟩
       go_wp2_with fail
       refine (cw _).mono ?_
       rintro e w5 ⟨rfl,hb5⟩
       go_wp2_with fail
       rw[Exit.noGoto_ret]
       go_ret2
       rw[HN.out.1,HN.out.2]
       exact⟨rfl,bel2 HB hb5⟩
      ·have HN:=hide (HMI.out hle (.inr ⟨h58,hgo⟩))
       have q58:((n:Int)==58)=false:=beq_eq_false_iff_ne.2 (by omega)
       clear HX HLE HGO HMI hle hgo hz h58
       go_wp2_with fail
       refine (cl _).mono ?_
       rintro e w3 ⟨rfl,rfl⟩
       go_wp2_with fail
       refine (cg _).mono ?_
       rintro e w4 ⟨rfl,rfl⟩
       go_wp2_with fail
       rw[Exit.noGoto_ret]
       go_ret2
       rw[HN.out]
       exact⟨rfl,HB⟩
  ·have HN:Hid (scheme (bl s)=none):=hide (by rw[HD.out,schP_end (by rw[lower_length,bl_len];omega)])
   clear HD
   go_wp2_with fail
   rw[Exit.noGoto_ret]
   go_ret2
   rw[HN.out]
   exact⟨rfl,HB⟩
end Go.Proofs.YtkiofbikkhhdfabGreatDoor.Ul
namespace Go.Proofs.YtkiofbikkhhdfabGreatDoor.Ul
open Go.RowKit
open Utf1
set_option maxHeartbeats 4000000 in
theorem oneOf_any (X:ByteArray) (v:Value) (ss:List ByteArray)(hl:ss.length<=100000) (w:World)(hv:StrArg w v ss) :
  Calls Tryz.prog 140 #[.string X,v] w fun e w'=>e=.returned (.bool (decide (bl X∈ss.map bl)))/\w'=w:=by
 obtain⟨R,hR⟩:∃ R,R=decide (bl X∈ss.map bl):=⟨_,rfl⟩
 rw[<-hR]
 have HAL:=hide hR
 clear hR
 obtain⟨p,cap,rfl,-,hc⟩:=hv
 have HC:=hide hc
 obtain⟨N,hN⟩:∃ N,N=ss.length:=⟨_,rfl⟩
 rw[<-hN] at hl ⊢
 have HN:=hide hN
 clear hc hN
 go_enter Tryz.func140,Tryz.ntmps140
 go_wp2_with fail
 go_loopg [9] N (fun g v wx=>wx=w/\∃ i:Nat,i+g=N/\v=.int .i64 (i:Int)/\Hid (∀ j z,j < i->ss[j]?=some z->bl z≠bl X))
 case atStart=>exact⟨rfl,0,by omega,rfl,hide (fun j z hj=>by omega)⟩
 case round =>
  obtain⟨rfl,i,hi,rfl,HU⟩:=hrel
  by_cases hlt:i < N
  ·have hlt':i < ss.length:=by rw[<-HN.out];exact hlt
   have hge:ss[i]?=some ss[i]:=List.getElem?_eq_getElem hlt'
   generalize ss[i]=y at hge
   obtain⟨b,off,rfl,c0⟩:=HC.out i y hge
   have q0:=eq_two y X
   have HG:=hide hge
   clear hge hlt'
   by_cases hy:bl y=bl X
   ·rw[decide_eq_true hy] at q0
    have HR:Hid (R=true):=hide (by
     rw[HAL.out]
     apply decide_eq_true
     rw[<-hy]
     exact List.mem_map_of_mem (List.mem_of_getElem? HG.out))
    clear hy HU HG
    go_wp2_with fail
    go_ret
    rw[HR.out]
    exact⟨rfl,rfl⟩
   ·rw[decide_eq_false hy] at q0
    have HU2:=hide (mem_upto HG.out HU.out hy)
    clear hy HU HG
    go_wp2_with fail
    go_roundg (gk - 1)
    case measure=>omega
    case rel=>exact⟨rfl,i+1,by omega,by first | rfl | simp,HU2⟩
  ·have HR:Hid (R=false):=hide (by
    rw[HAL.out]
    apply decide_eq_false
    exact not_mem_of (N:=i) (by rw[<-HN.out];omega) HU.out)
   clear HU
   go_wp2_with fail
   go_ret
   rw[HR.out]
   exact⟨rfl,rfl⟩
theorem pre_two (B:ByteArray):([47,47]:List UInt8).isPrefixOf (bl B)=decide ((bl B).take 2=[47,47]):=by
 by_cases h:(bl B).take 2=[47,47]
 ·rw[decide_eq_true h,List.isPrefixOf_iff_prefix]
  exact⟨(bl B).drop 2,by rw[<-h,List.take_append_drop]⟩
 ·rw[decide_eq_false h]
  apply Bool.eq_false_iff.2
  intro e
  obtain⟨t,ht⟩:=List.isPrefixOf_iff_prefix.1 e
  exact h (by rw[<-ht];rfl)
theorem pre_c (s:ByteArray) (b:Bool)(h:decide ((bl s).take 2=[47,47])=b) (w:World):Calls Tryz.prog 73 #[.string s,.string ⟨#[47,47]⟩] w fun e w'=>e=.returned (.bool b)/\w'=w:=by
 rw[<-h,<-pre_two]
 exact Tryz.strings_HasPrefix s ⟨#[47,47]⟩ w
set_option maxHeartbeats 4000000 in
theorem near_any (B:ByteArray)(hs:B.size<=100000) (w:World) :
  Calls Tryz.prog 141 #[.string B] w fun e w'=>e=.returned (.bool (plainOk (bl B)))/\w'=w:=by
 obtain⟨R,hR⟩:∃ R,R=plainOk (bl B):=⟨_,rfl⟩
 rw[<-hR]
 have HAL:=hide hR
 clear hR
 by_cases h2:(bl B).take 2=[47,47]
 ·have cp:=fun w=>pre_c B true (decide_eq_true h2) w
  have HR:Hid (R=false):=hide (by
   rw[HAL.out]
   unfold plainOk
   rw[decide_eq_true h2]
   rfl)
  clear h2 HAL
  go_enter Tryz.func141,Tryz.ntmps141
  go_wp2_with fail
  refine (cp _).mono ?_
  rintro e w1 ⟨rfl,rfl⟩
  go_wp2_with fail
  go_ret
  rw[HR.out]
  exact⟨rfl,rfl⟩
 ·have cp:=fun w=>pre_c B false (decide_eq_false h2) w
  have HAL:Hid (R=(bl B).all (fun c=>!badB c)):=hide (by
   rw[HAL.out]
   unfold plainOk
   rw[decide_eq_false h2]
   rfl)
  have HBAD:Hid (∀ (j:Nat) (c:UInt8),(bl B)[j]?=some c->badB c=true->R=false):=hide (fun j c h hc=>by
   rw[HAL.out,List.all_eq_false]
   exact⟨c,List.mem_of_getElem? h,by rw[hc];decide⟩)
  clear h2
  go_enter Tryz.func141,Tryz.ntmps141
  go_wp2_with fail
  refine (cp _).mono ?_
  rintro e w1 ⟨rfl,rfl⟩
  clear cp
  go_wp2_with fail
  go_loopg [9] B.size (fun g v wx=>wx=w1/\∃ i:Nat,i+g=B.size/\v=.int .i64 (i:Int)/\Hid (∀ j c,j < i->(bl B)[j]?=some c->badB c=false))
  case atStart=>exact⟨rfl,0,by omega,rfl,hide (fun j z hj=>by omega)⟩
  case round =>
   obtain⟨rfl,i,hi,rfl,HU⟩:=hrel
   by_cases hlt:i < B.size
   ·obtain⟨c,hc⟩:=getK B i hlt
    have i0:=fun w=>idxK hc w
    have k32:=lt32 c
    have k92:((c.toNat:Int)==92)=decide (c=92):=beqK c 92 (by decide)
    have k127:((c.toNat:Int)==127)=decide (c=127):=beqK c 127 (by decide)
    have HRB:Hid (badB c=true->R=false):=hide (HBAD.out i c hc)
    have HU2:Hid (badB c=false->∀ j d,j < i+1->(bl B)[j]?=some d->badB d=false):=hide (fun hb j d hj hd=>by
     by_cases e:j=i
     ·subst e
      rw[hc] at hd
      cases hd
      exact hb
     ·exact HU.out j d (by omega) hd)
    clear hc HU
    by_cases h32:c.toNat < 32
    ·rw[decide_eq_true h32] at k32
     have HR:Hid (R=false):=hide (HRB.out (decide_eq_true (.inl h32)))
     generalize (c.toNat:Int)=z at i0 k32
     clear k92 k127 HRB HU2 h32
     go_wp2_with fail
     go_ret
     rw[HR.out]
     exact⟨rfl,rfl⟩
    ·rw[decide_eq_false h32] at k32
     by_cases h92:c=92
     ·rw[decide_eq_true h92] at k92
      have HR:Hid (R=false):=hide (HRB.out (decide_eq_true (.inr (.inl h92))))
      generalize (c.toNat:Int)=z at i0 k32 k92
      clear k127 HRB HU2 h32 h92
      go_wp2_with fail
      go_ret
      rw[HR.out]
      exact⟨rfl,rfl⟩
     ·rw[decide_eq_false h92] at k92
      by_cases h127:c=127
      ·rw[decide_eq_true h127] at k127
       have HR:Hid (R=false):=hide (HRB.out (decide_eq_true (.inr (.inr h127))))
       generalize (c.toNat:Int)=z at i0 k32 k92 k127
       clear HRB HU2 h32 h92 h127
       go_wp2_with fail
       go_ret
       rw[HR.out]
       exact⟨rfl,rfl⟩
      ·rw[decide_eq_false h127] at k127
       have HU3:=hide (HU2.out (decide_eq_false (by rintro (h | h | h);exact h32 h;exact h92 h;exact h127 h)))
       generalize (c.toNat:Int)=z at i0 k32 k92 k127
       clear HRB HU2 h32 h92 h127
       go_wp2_with fail
       go_roundg (gk - 1)
       case measure=>omega
       case rel=>exact⟨rfl,i+1,by omega,by first | rfl | simp,HU3⟩
   ·have HR:Hid (R=true):=hide (by
     rw[HAL.out,List.all_eq_true]
     intro c hc
     obtain⟨j,hj,e⟩:=List.mem_iff_getElem.1 hc
     have:=HU.out j c (by rw[bl_len] at hj;omega) (by rw[List.getElem?_eq_getElem hj,e])
     rw[this]
     rfl)
    clear HU
    go_wp2_with fail
    go_ret
    rw[HR.out]
    exact⟨rfl,rfl⟩
set_option maxHeartbeats 4000000 in
theorem allowed_any:AllowedC:=by
 intro s v ss w hs hl hv
 have c1:=fun w=>scheme_any s w hs
 have c2:=fun w=>bare_any s w hs
 have HAL:Hid (allowed (bl s) (ss.map bl)=match scheme (bl s) with
  | some x=>decide (x∈ss.map bl)
  | none=>plainOk (bare (bl s))):=hide rfl
 obtain⟨R,hR⟩:∃ R,R=allowed (bl s) (ss.map bl):=⟨_,rfl⟩
 rw[<-hR] at HAL ⊢
 clear hR
 have hbl:=bare_len (bl s)
 rw[bl_len] at hbl
 cases hsc:scheme (bl s) with
 | some x =>
  rw[hsc] at c1 HAL
  have c1:∀ w,Calls Tryz.prog 139 #[.string s] w fun e w'=>e=.returned (.tuple #[.string ⟨x.toArray⟩,.bool true])/\Below w.heap.size w w':=c1
  have HAL:Hid (R=decide (bl ⟨x.toArray⟩∈ss.map bl)):=HAL
  have H3:Hid (∀ w,StrArg w v ss->Calls Tryz.prog 140 #[.string ⟨x.toArray⟩,v] w fun e w'=>e=.returned (.bool R)/\w'=w):=hide (fun w h=>by
   rw[HAL.out]
   exact oneOf_any ⟨x.toArray⟩ v ss hl w h)
  generalize (⟨x.toArray⟩:ByteArray)=X at c1 H3
  have HV:=hide hv
  obtain⟨p,cap,rfl,-,-⟩:=hv
  clear hsc c2 hbl HAL
  generalize ss.length=N at *
  go_enter Tryz.func123,Tryz.ntmps123
  go_wp2_with fail
  refine (c1 _).mono ?_
  rintro e w1 ⟨rfl,hb1⟩
  go_wp2_with fail
  refine (H3.out _ (HV.out.below hb1)).mono ?_
  rintro e w2 ⟨rfl,rfl⟩
  go_wp2_with fail
  go_ret
  exact⟨rfl,hb1⟩
 | none =>
  rw[hsc] at c1 HAL
  have c1:∀ w,Calls Tryz.prog 139 #[.string s] w fun e w'=>e=.returned (.tuple #[.string ⟨#[]⟩,.bool false])/\Below w.heap.size w w':=c1
  have c3:∀ w,Calls Tryz.prog 141 #[.string ⟨(bare (bl s)).toArray⟩] w fun e w'=>e=.returned (.bool R)/\w'=w:=fun w=>by
   rw[HAL.out]
   exact near_any (⟨(bare (bl s)).toArray⟩:ByteArray) (by rw[size_mk];omega) w
  generalize (⟨(bare (bl s)).toArray⟩:ByteArray)=B at c2 c3
  obtain⟨pv,cap,rfl,-,-⟩:=hv
  clear hsc hbl HAL
  generalize ss.length=N at *
  go_enter Tryz.func123,Tryz.ntmps123
  go_wp2_with fail
  refine (c1 _).mono ?_
  rintro e w1 ⟨rfl,hb1⟩
  go_wp2_with fail
  refine (c2 _).mono ?_
  rintro e w2 ⟨rfl,hb2⟩
  go_wp2_with fail
  refine (c3 _).mono ?_
  rintro e w3 ⟨rfl,rfl⟩
  go_wp2_with fail
  go_ret
  exact⟨rfl,bel2 hb1 hb2⟩
end Go.Proofs.YtkiofbikkhhdfabGreatDoor.Ul
namespace Go.Proofs.YtkiofbikkhhdfabGreatDoor
open Go.RowKit
open Utf1 Pol8
set_option maxRecDepth 100000 in
set_option maxHeartbeats 16000000 in
theorem pvalue_any (v1 v2 v3 v4 v5:Value) (p:Pol) (l1 l2 l3 l4 l5:List ByteArray) (e n v:ByteArray) (w:World)(hv:PolV w v1 v2 v3 v4 v5 p l1 l2 l3 l4 l5)(hf:fits p)(he:e.size<=100000)(hn:n.size<=100000)(hz:v.size<=90000) :
  Calls Tryz.prog 95 #[pval p v1 v2 v3 v4 v5,.string e,.agg #[.string n,.string v]] w fun r w'=>r=.returned (.bool (Saf.valueB p (bl e) (bl n) (bl v)))/\Below w.heap.size w w':=by
 obtain⟨R,hR⟩:∃ R,R=Saf.valueB p (bl e) (bl n) (bl v):=⟨_,rfl⟩
 rw[<-hR]
 unfold Saf.valueB at hR
 have HR:=hide hR
 clear hR
 obtain⟨f1,-⟩:=fits_of hf (by simp) hv.e1
 obtain⟨f3,-⟩:=fits_of hf (by simp) hv.e3
 obtain⟨f4,-⟩:=fits_of hf (by simp) hv.e4
 obtain⟨f5,-⟩:=fits_of hf (by simp) hv.e5
 have HV:=hide hv
 obtain⟨o1,k1,rfl,-,-⟩:=hv.s1
 obtain⟨o2,k2,rfl,-,-⟩:=hv.s2
 obtain⟨o3,k3,rfl,-,-⟩:=hv.s3
 obtain⟨o4,k4,rfl,-,-⟩:=hv.s4
 obtain⟨o5,k5,rfl,-,-⟩:=hv.s5
 clear hv
 obtain⟨w1,hw1⟩:∃ w1,w1=(w.alloc (.cells #[.int .i64 p.ep,.slice o1 (List.length l1) k1,.slice o2 (List.length l2) k2,.slice o3 (List.length l3) k3,.slice o4 (List.length l4) k4,.slice o5 (List.length l5) k5,.int .i64 p.dp,.int .i64 p.nd,.int .i64 p.bt] 24)).alloc (.cells #[.string n,.string v] 108):=⟨_,rfl⟩
 have H1:Hid (BoxV w #[.int .i64 p.ep,.slice o1 (List.length l1) k1,.slice o2 (List.length l2) k2,.slice o3 (List.length l3) k3,.slice o4 (List.length l4) k4,.slice o5 (List.length l5) k5,.int .i64 p.dp,.int .i64 p.nd,.int .i64 p.bt] #[.string n,.string v] w1):=hide (by rw[hw1];exact BoxV.new _ _ _)
 have SK:Hid (∀ wx,BoxV w #[.int .i64 p.ep,.slice o1 (List.length l1) k1,.slice o2 (List.length l2) k2,.slice o3 (List.length l3) k3,.slice o4 (List.length l4) k4,.slice o5 (List.length l5) k5,.int .i64 p.dp,.int .i64 p.nd,.int .i64 p.bt] #[.string n,.string v] wx->wx.cell? ⟨w.heap.size,0,none⟩=some (.int .i64 p.ep)/\wx.cell? ⟨w.heap.size,1,none⟩=some (.slice o1 (List.length l1) k1)/\wx.cell? ⟨w.heap.size,2,none⟩=some (.slice o2 (List.length l2) k2)/\wx.cell? ⟨w.heap.size,3,none⟩=some (.slice o3 (List.length l3) k3)/\wx.cell? ⟨w.heap.size,4,none⟩=some (.slice o4 (List.length l4) k4)/\wx.cell? ⟨w.heap.size,5,none⟩=some (.slice o5 (List.length l5) k5)/\wx.cell? ⟨w.heap.size,6,none⟩=some (.int .i64 p.dp)/\wx.cell? ⟨w.heap.size,7,none⟩=some (.int .i64 p.nd)/\wx.cell? ⟨w.heap.size,8,none⟩=some (.int .i64 p.bt)/\wx.cell? ⟨w.heap.size+1,0,none⟩=some (.string n)/\wx.cell? ⟨w.heap.size+1,1,none⟩=some (.string v)/\Hid (BoxV w #[.int .i64 p.ep,.slice o1 (List.length l1) k1,.slice o2 (List.length l2) k2,.slice o3 (List.length l3) k3,.slice o4 (List.length l4) k4,.slice o5 (List.length l5) k5,.int .i64 p.dp,.int .i64 p.nd,.int .i64 p.bt] #[.string n,.string v] wx)):=hide (fun wx h=>⟨h.a 0 _ rfl,h.a 1 _ rfl,h.a 2 _ rfl,h.a 3 _ rfl,h.a 4 _ rfl,h.a 5 _ rfl,h.a 6 _ rfl,h.a 7 _ rfl,h.a 8 _ rfl,h.b 0 _ rfl,h.b 1 _ rfl,hide h⟩)
 have SB:Hid (∀ wx,(wx.cell? ⟨w.heap.size,0,none⟩=some (.int .i64 p.ep)/\wx.cell? ⟨w.heap.size,1,none⟩=some (.slice o1 (List.length l1) k1)/\wx.cell? ⟨w.heap.size,2,none⟩=some (.slice o2 (List.length l2) k2)/\wx.cell? ⟨w.heap.size,3,none⟩=some (.slice o3 (List.length l3) k3)/\wx.cell? ⟨w.heap.size,4,none⟩=some (.slice o4 (List.length l4) k4)/\wx.cell? ⟨w.heap.size,5,none⟩=some (.slice o5 (List.length l5) k5)/\wx.cell? ⟨w.heap.size,6,none⟩=some (.int .i64 p.dp)/\wx.cell? ⟨w.heap.size,7,none⟩=some (.int .i64 p.nd)/\wx.cell? ⟨w.heap.size,8,none⟩=some (.int .i64 p.bt)/\wx.cell? ⟨w.heap.size+1,0,none⟩=some (.string n)/\wx.cell? ⟨w.heap.size+1,1,none⟩=some (.string v)/\Hid (BoxV w #[.int .i64 p.ep,.slice o1 (List.length l1) k1,.slice o2 (List.length l2) k2,.slice o3 (List.length l3) k3,.slice o4 (List.length l4) k4,.slice o5 (List.length l5) k5,.int .i64 p.dp,.int .i64 p.nd,.int .i64 p.bt] #[.string n,.string v] wx))->BoxV w #[.int .i64 p.ep,.slice o1 (List.length l1) k1,.slice o2 (List.length l2) k2,.slice o3 (List.length l3) k3,.slice o4 (List.length l4) k4,.slice o5 (List.length l5) k5,.int .i64 p.dp,.int .i64 p.nd,.int .i64 p.bt] #[.string n,.string v] wx):=hide (fun wx h=>h.2.2.2.2.2.2.2.2.2.2.2.out)
 have C1:Hid (∀ wx,BoxV w #[.int .i64 p.ep,.slice o1 (List.length l1) k1,.slice o2 (List.length l2) k2,.slice o3 (List.length l3) k3,.slice o4 (List.length l4) k4,.slice o5 (List.length l5) k5,.int .i64 p.dp,.int .i64 p.nd,.int .i64 p.bt] #[.string n,.string v] wx->Calls Tryz.prog 29 #[.agg #[.int .i64 p.ep,.slice o1 (List.length l1) k1,.slice o2 (List.length l2) k2,.slice o3 (List.length l3) k3,.slice o4 (List.length l4) k4,.slice o5 (List.length l5) k5,.int .i64 p.dp,.int .i64 p.nd,.int .i64 p.bt],.string e] wx fun r w'=>r=.returned (.bool (decide (bl e∈p.el)))/\BoxV w #[.int .i64 p.ep,.slice o1 (List.length l1) k1,.slice o2 (List.length l2) k2,.slice o3 (List.length l3) k3,.slice o4 (List.length l4) k4,.slice o5 (List.length l5) k5,.int .i64 p.dp,.int .i64 p.nd,.int .i64 p.bt] #[.string n,.string v] w'):=hide (fun wx h=>(pelemC_any _ _ _ _ _ p _ _ _ _ _ e wx (HV.out.below h.2.2) hf he).mono fun _ w' ⟨h1,h2⟩=>⟨h1,h.keep h2⟩)
 have C2:Hid (∀ wx,BoxV w #[.int .i64 p.ep,.slice o1 (List.length l1) k1,.slice o2 (List.length l2) k2,.slice o3 (List.length l3) k3,.slice o4 (List.length l4) k4,.slice o5 (List.length l5) k5,.int .i64 p.dp,.int .i64 p.nd,.int .i64 p.bt] #[.string n,.string v] wx->Calls Tryz.prog 119 #[.string v,.slice o5 l5.length k5] wx fun r w'=>r=.returned (.string ⟨(Sty.filt p.pr (bl v)).toArray⟩)/\BoxV w #[.int .i64 p.ep,.slice o1 (List.length l1) k1,.slice o2 (List.length l2) k2,.slice o3 (List.length l3) k3,.slice o4 (List.length l4) k4,.slice o5 (List.length l5) k5,.int .i64 p.dp,.int .i64 p.nd,.int .i64 p.bt] #[.string n,.string v] w'):=hide (fun wx h=>by
  have:=Sy.filter_any v (.slice o5 l5.length k5) l5 hz f5 wx ((HV.out.below h.2.2).s5)
  rw[HV.out.e5] at this
  exact this.mono fun _ w' ⟨h1,h2⟩=>⟨h1,h.keep h2⟩)
 have C3:Hid (∀ wx,BoxV w #[.int .i64 p.ep,.slice o1 (List.length l1) k1,.slice o2 (List.length l2) k2,.slice o3 (List.length l3) k3,.slice o4 (List.length l4) k4,.slice o5 (List.length l5) k5,.int .i64 p.dp,.int .i64 p.nd,.int .i64 p.bt] #[.string n,.string v] wx->Calls Tryz.prog 120 #[.agg #[.int .i64 p.ep,.slice o1 (List.length l1) k1,.slice o2 (List.length l2) k2,.slice o3 (List.length l3) k3,.slice o4 (List.length l4) k4,.slice o5 (List.length l5) k5,.int .i64 p.dp,.int .i64 p.nd,.int .i64 p.bt],.string e,.string n] wx fun r w'=>r=.returned (.bool (attrB p (bl e) (bl n)))/\BoxV w #[.int .i64 p.ep,.slice o1 (List.length l1) k1,.slice o2 (List.length l2) k2,.slice o3 (List.length l3) k3,.slice o4 (List.length l4) k4,.slice o5 (List.length l5) k5,.int .i64 p.dp,.int .i64 p.nd,.int .i64 p.bt] #[.string n,.string v] w'):=hide (fun wx h=>(pattrB_any _ _ _ _ _ p _ _ _ _ _ e n wx (HV.out.below h.2.2) hf he hn).mono fun _ w' ⟨h1,h2⟩=>⟨h1,h.keep h2⟩)
 have C4:Hid (∀ wx,BoxV w #[.int .i64 p.ep,.slice o1 (List.length l1) k1,.slice o2 (List.length l2) k2,.slice o3 (List.length l3) k3,.slice o4 (List.length l4) k4,.slice o5 (List.length l5) k5,.int .i64 p.dp,.int .i64 p.nd,.int .i64 p.bt] #[.string n,.string v] wx->Calls Tryz.prog 121 #[.string v,.slice o4 l4.length k4] wx fun r w'=>r=.returned (.bool (decide (bl v≠[]) && Saf.classesB p.cl (bl v)))/\BoxV w #[.int .i64 p.ep,.slice o1 (List.length l1) k1,.slice o2 (List.length l2) k2,.slice o3 (List.length l3) k3,.slice o4 (List.length l4) k4,.slice o5 (List.length l5) k5,.int .i64 p.dp,.int .i64 p.nd,.int .i64 p.bt] #[.string n,.string v] w'):=hide (fun wx h=>by
  have:=pclasses_any v (.slice o4 l4.length k4) l4 hz f4 wx ((HV.out.below h.2.2).s4)
  rw[HV.out.e4] at this
  exact this.mono fun _ w' ⟨h1,h2⟩=>⟨h1,h.keep h2⟩)
 have C5:Hid (∀ wx,BoxV w #[.int .i64 p.ep,.slice o1 (List.length l1) k1,.slice o2 (List.length l2) k2,.slice o3 (List.length l3) k3,.slice o4 (List.length l4) k4,.slice o5 (List.length l5) k5,.int .i64 p.dp,.int .i64 p.nd,.int .i64 p.bt] #[.string n,.string v] wx->Calls Tryz.prog 122 #[.string n] wx fun r w'=>r=.returned (.bool (Saf.placeB (bl n)))/\BoxV w #[.int .i64 p.ep,.slice o1 (List.length l1) k1,.slice o2 (List.length l2) k2,.slice o3 (List.length l3) k3,.slice o4 (List.length l4) k4,.slice o5 (List.length l5) k5,.int .i64 p.dp,.int .i64 p.nd,.int .i64 p.bt] #[.string n,.string v] w'):=hide (fun wx h=>(pplace_any n wx).mono fun _ w' ⟨h1,h2⟩=>⟨h1,h.keep h2⟩)
 have C6:Hid (∀ wx,BoxV w #[.int .i64 p.ep,.slice o1 (List.length l1) k1,.slice o2 (List.length l2) k2,.slice o3 (List.length l3) k3,.slice o4 (List.length l4) k4,.slice o5 (List.length l5) k5,.int .i64 p.dp,.int .i64 p.nd,.int .i64 p.bt] #[.string n,.string v] wx->Calls Tryz.prog 123 #[.string v,.slice o3 l3.length k3] wx fun r w'=>r=.returned (.bool (allowed (bl v) p.sc))/\BoxV w #[.int .i64 p.ep,.slice o1 (List.length l1) k1,.slice o2 (List.length l2) k2,.slice o3 (List.length l3) k3,.slice o4 (List.length l4) k4,.slice o5 (List.length l5) k5,.int .i64 p.dp,.int .i64 p.nd,.int .i64 p.bt] #[.string n,.string v] w'):=hide (fun wx h=>by
  have:=Ul.allowed_any v (.slice o3 l3.length k3) l3 wx (by omega) f3 ((HV.out.below h.2.2).s3)
  rw[HV.out.e3] at this
  exact this.mono fun _ w' ⟨h1,h2⟩=>⟨h1,h.keep h2⟩)
 clear HV hf f1 f3 f4 f5
 generalize decide (bl e∈p.el)=r1 at C1 HR
 generalize attrB p (bl e) (bl n)=r3 at C3 HR
 generalize (decide (bl v≠[]) && Saf.classesB p.cl (bl v))=r4 at C4 HR
 generalize Saf.placeB (bl n)=r5 at C5 HR
 generalize allowed (bl v) p.sc=r6 at C6 HR
 obtain⟨F,hF⟩:∃ F:ByteArray,F=⟨(Sty.filt p.pr (bl v)).toArray⟩:=⟨_,rfl⟩
 have hFb:bl F=Sty.filt p.pr (bl v):=by rw[hF]
 rw[<-hF] at C2
 rw[<-hFb] at HR
 clear hF hFb
 have g1:=eq_lit n [114,101,108]
 have g2:=eq_lit n [115,116,121,108,101]
 have g3:=eq_lit n [99,108,97,115,115]
 have g4:=eq_lit e [97]
 have g5:=eq_lit v [110,111,102,111,108,108,111,119,32,110,111,111,112,101,110,101,114]
 have g6:=ne_empty v
 have g6':=empty_bl v
 have g7:=eq_two F v
 obtain⟨y0,y1,y2,y3,y4,y5,y6,y7,y8,z0,z1,-⟩:=SK.out w1 H1.out
 go_enter Tryz.func95,Tryz.ntmps95
 go_upto_region 1 with fail
 rw[<-hw1]
 clear hw1
 go_wp2_with fail
 refine (C1.out _ H1.out).mono ?_
 rintro r w2 ⟨rfl,h2⟩
 have H2:=hide h2
 clear h2 C1 H1 y0 y1 y2 y3 y4 y5 y6 y7 y8 z0 z1
 obtain⟨y0,y1,y2,y3,y4,y5,y6,y7,y8,z0,z1,-⟩:=SK.out w2 H2.out
 cases r1 with
 | false =>
  have HN:Hid (R=false):=hide (by rw[HR.out];rfl)
  clear HR
  go_wp2_with fail
  go_ret
  rw[HN.out]
  exact⟨rfl,H2.out.2.2⟩
 | true =>
  rw[Bool.true_and] at HR
  by_cases hrel:bl n=[114,101,108]
  ·rw[decide_eq_true hrel] at g1
   have HN:Hid (R=(decide (bl e=[97]) && decide (bl v=[110,111,102,111,108,108,111,119,32,110,111,111,112,101,110,101,114]))):=hide (by rw[HR.out,if_pos (show bl n=Saf.relN from hrel)];rfl)
   clear HR hrel
   generalize decide (bl e=[97])=t1 at g4 HN
   generalize decide (bl v=[110,111,102,111,108,108,111,119,32,110,111,111,112,101,110,101,114])=t2 at g5 HN
   cases t1 with
   | false =>
    go_wp2_with fail
    go_ret
    rw[HN.out]
    exact⟨rfl,H2.out.2.2⟩
   | true =>
    go_wp2_with fail
    go_ret
    rw[HN.out]
    exact⟨ret_bool (by simp),H2.out.2.2⟩
  ·rw[decide_eq_false hrel] at g1
   have HR2:=hide (HR.out.trans (if_neg hrel))
   clear HR hrel g4 g5
   by_cases hsty:bl n=[115,116,121,108,101]
   ·rw[decide_eq_true hsty] at g2
    have HN:Hid (R=(decide (bl v≠[]) && decide (bl F=bl v))):=hide (by rw[HR2.out,if_pos (show bl n=Saf.styN from hsty)])
    clear HR2 hsty
    by_cases hve:bl v=[]
    ·rw[decide_eq_false (fun h=>h hve)] at g6 HN
     rw[decide_eq_true hve] at g6'
     go_wp2_with fail
     clear y0 y1 y2 y3 y4 y5 y6 y7 y8 z0 z1
     refine wp_region_held_drew (S:=(fun wx=>wx.cell? ⟨w.heap.size,0,none⟩=some (.int .i64 p.ep)/\wx.cell? ⟨w.heap.size,1,none⟩=some (.slice o1 (List.length l1) k1)/\wx.cell? ⟨w.heap.size,2,none⟩=some (.slice o2 (List.length l2) k2)/\wx.cell? ⟨w.heap.size,3,none⟩=some (.slice o3 (List.length l3) k3)/\wx.cell? ⟨w.heap.size,4,none⟩=some (.slice o4 (List.length l4) k4)/\wx.cell? ⟨w.heap.size,5,none⟩=some (.slice o5 (List.length l5) k5)/\wx.cell? ⟨w.heap.size,6,none⟩=some (.int .i64 p.dp)/\wx.cell? ⟨w.heap.size,7,none⟩=some (.int .i64 p.nd)/\wx.cell? ⟨w.heap.size,8,none⟩=some (.int .i64 p.bt)/\wx.cell? ⟨w.heap.size+1,0,none⟩=some (.string n)/\wx.cell? ⟨w.heap.size+1,1,none⟩=some (.string v)/\Hid (BoxV w #[.int .i64 p.ep,.slice o1 (List.length l1) k1,.slice o2 (List.length l2) k2,.slice o3 (List.length l3) k3,.slice o4 (List.length l4) k4,.slice o5 (List.length l5) k5,.int .i64 p.dp,.int .i64 p.nd,.int .i64 p.bt] #[.string n,.string v] wx))) (by kernel_rfl) (SK.out _ (H2.out.keep ((Below.refl _ _).drew))) (fun hHeld=>?_)
     refine wpAnyH_at (i:=0) (v:=?ve0) (a1:=?xe0) rfl (by kernel_rfl) (by kernel_rfl) (by kernel_rfl) (fun _ _ _ h=>h) (Or.inl ⟨by rfl,?ye0⟩) (by assumption) ?he0 ?ze0
     case ye0=>(intro w hSw;(try dsimp only at hSw);go_simp;try (with_reducible rfl))
     case he0=>(go_simp;exact rfl)
     case ze0 =>
     refine wpAnyH_at (i:=1) (v:=?ve1) (a1:=?xe1) rfl (by kernel_rfl) (by kernel_rfl) (by kernel_rfl) (fun _ _ _ h=>h) (Or.inl ⟨by rfl,?ye1⟩) (by assumption) ?he1 ?ze1
     case ye1=>(intro w hSw;(try dsimp only at hSw);go_simp;try (with_reducible rfl))
     case he1=>(go_simp;exact rfl)
     case ze1 =>
     refine wpAnyH_at (i:=2) (v:=?ve2) (a1:=?xe2) rfl (by kernel_rfl) (by kernel_rfl) (by kernel_rfl) (fun _ _ _ h=>h) (Or.inl ⟨by rfl,?ye2⟩) (by assumption) ?he2 ?ze2
     case ye2=>(intro w hSw;(try dsimp only at hSw);go_simp;try (with_reducible rfl))
     case he2=>(go_simp;exact rfl)
     case ze2 =>
     refine wpAnyH_at (i:=3) (v:=?ve3) (a1:=?xe3) rfl (by kernel_rfl) (by kernel_rfl) (by kernel_rfl) (fun _ _ _ h=>h) (Or.inl ⟨by rfl,?ye3⟩) (by assumption) ?he3 ?ze3
     case ye3=>(intro w hSw;(try dsimp only at hSw);go_simp;try (with_reducible rfl))
     case he3=>(go_simp;exact rfl)
     case ze3 =>
     refine wpAnyH_at (i:=4) (v:=undef) (a1:=?xe4) rfl (by kernel_rfl) (by kernel_rfl) (by kernel_rfl) (fun _ _ _ h=>h) (Or.inr ⟨by rfl,rfl⟩) (by assumption) ?he4 ?ze4
     case he4=>(go_simp;exact rfl)
     case ze4 =>
     refine wpAnyH_at (i:=5) (v:=undef) (a1:=?xe5) rfl (by kernel_rfl) (by kernel_rfl) (by kernel_rfl) (fun _ _ _ h=>h) (Or.inr ⟨by rfl,rfl⟩) (by assumption) ?he5 ?ze5
     case he5=>(go_simp;exact rfl)
     case ze5 =>
     refine wpAnyH_at (i:=6) (v:=undef) (a1:=?xe6) rfl (by kernel_rfl) (by kernel_rfl) (by kernel_rfl) (fun _ _ _ h=>h) (Or.inr ⟨by rfl,rfl⟩) (by assumption) ?he6 ?ze6
     case he6=>(go_simp;exact rfl)
     case ze6 =>
     refine wpAnyH_at (i:=7) (v:=undef) (a1:=?xe7) rfl (by kernel_rfl) (by kernel_rfl) (by kernel_rfl) (fun _ _ _ h=>h) (Or.inr ⟨by rfl,rfl⟩) (by assumption) ?he7 ?ze7
     case he7=>(go_simp;exact rfl)
     case ze7 =>
     refine wpAnyH_at (i:=8) (v:=undef) (a1:=?xe8) rfl (by kernel_rfl) (by kernel_rfl) (by kernel_rfl) (fun _ _ _ h=>h) (Or.inr ⟨by rfl,rfl⟩) (by assumption) ?he8 ?ze8
     case he8=>(go_simp;exact rfl)
     case ze8 =>
     refine wpAnyH_at (i:=9) (v:=undef) (a1:=?xe9) rfl (by kernel_rfl) (by kernel_rfl) (by kernel_rfl) (fun _ _ _ h=>h) (Or.inr ⟨by rfl,rfl⟩) (by assumption) ?he9 ?ze9
     case he9=>(go_simp;exact rfl)
     case ze9 =>
     refine wpAnyH_at (i:=10) (v:=undef) (a1:=?xe10) rfl (by kernel_rfl) (by kernel_rfl) (by kernel_rfl) (fun _ _ _ h=>h) (Or.inr ⟨by rfl,rfl⟩) (by assumption) ?he10 ?ze10
     case he10=>(go_simp;exact rfl)
     case ze10 =>
     refine wpAnyH_at (i:=11) (v:=undef) (a1:=?xe11) rfl (by kernel_rfl) (by kernel_rfl) (by kernel_rfl) (fun _ _ _ h=>h) (Or.inr ⟨by rfl,rfl⟩) (by assumption) ?he11 ?ze11
     case he11=>(go_simp;exact rfl)
     case ze11 =>
     refine wpAnyH_at (i:=12) (v:=?ve12) (a1:=?xe12) rfl (by kernel_rfl) (by kernel_rfl) (by kernel_rfl) (fun _ _ _ h=>h) (Or.inl ⟨by rfl,?ye12⟩) (by assumption) ?he12 ?ze12
     case ye12=>(intro w hSw;(try dsimp only at hSw);go_simp;try (with_reducible rfl))
     case he12=>(go_simp;exact rfl)
     case ze12 =>
     refine wpAnyH_at (i:=13) (v:=?ve13) (a1:=?xe13) rfl (by kernel_rfl) (by kernel_rfl) (by kernel_rfl) (fun _ _ _ h=>h) (Or.inl ⟨by rfl,?ye13⟩) (by assumption) ?he13 ?ze13
     case ye13=>(intro w hSw;(try dsimp only at hSw);go_simp;try (with_reducible rfl))
     case he13=>(go_simp;exact rfl)
     case ze13 =>
     refine wpAnyH_done (by kernel_rfl) ?_ _
     have H7:=hide (SB.out _ (by assumption))
     go_wp2_with fail
     go_ret
     rw[HN.out]
     exact⟨rfl,H7.out.2.2⟩
    ·rw[decide_eq_true hve] at g6 HN
     rw[decide_eq_false hve] at g6'
     generalize decide (bl F=bl v)=t2 at g7 HN
     go_wp2_with fail
     clear y0 y1 y2 y3 y4 y5 y6 y7 y8 z0 z1
     refine wp_region_held_drew (S:=(fun wx=>wx.cell? ⟨w.heap.size,0,none⟩=some (.int .i64 p.ep)/\wx.cell? ⟨w.heap.size,1,none⟩=some (.slice o1 (List.length l1) k1)/\wx.cell? ⟨w.heap.size,2,none⟩=some (.slice o2 (List.length l2) k2)/\wx.cell? ⟨w.heap.size,3,none⟩=some (.slice o3 (List.length l3) k3)/\wx.cell? ⟨w.heap.size,4,none⟩=some (.slice o4 (List.length l4) k4)/\wx.cell? ⟨w.heap.size,5,none⟩=some (.slice o5 (List.length l5) k5)/\wx.cell? ⟨w.heap.size,6,none⟩=some (.int .i64 p.dp)/\wx.cell? ⟨w.heap.size,7,none⟩=some (.int .i64 p.nd)/\wx.cell? ⟨w.heap.size,8,none⟩=some (.int .i64 p.bt)/\wx.cell? ⟨w.heap.size+1,0,none⟩=some (.string n)/\wx.cell? ⟨w.heap.size+1,1,none⟩=some (.string v)/\Hid (BoxV w #[.int .i64 p.ep,.slice o1 (List.length l1) k1,.slice o2 (List.length l2) k2,.slice o3 (List.length l3) k3,.slice o4 (List.length l4) k4,.slice o5 (List.length l5) k5,.int .i64 p.dp,.int .i64 p.nd,.int .i64 p.bt] #[.string n,.string v] wx))) (by kernel_rfl) (SK.out _ (H2.out.keep ((Below.refl _ _).drew))) (fun hHeld=>?_)
     refine wpAnyH_at (i:=0) (v:=?vf0) (a1:=?xf0) rfl (by kernel_rfl) (by kernel_rfl) (by kernel_rfl) (fun _ _ _ h=>h) (Or.inl ⟨by rfl,?yf0⟩) (by assumption) ?hf0 ?zf0
     case yf0=>(intro w hSw;(try dsimp only at hSw);go_simp;try (with_reducible rfl))
     case hf0=>(go_simp;exact rfl)
     case zf0 =>
     refine wpAnyH_at (i:=1) (v:=?vf1) (a1:=?xf1) rfl (by kernel_rfl) (by kernel_rfl) (by kernel_rfl) (fun _ _ _ h=>h) (Or.inl ⟨by rfl,?yf1⟩) (by assumption) ?hf1 ?zf1
     case yf1=>(intro w hSw;(try dsimp only at hSw);go_simp;try (with_reducible rfl))
     case hf1=>(go_simp;exact rfl)
     case zf1 =>
     refine wpAnyH_at (i:=2) (v:=?vf2) (a1:=?xf2) rfl (by kernel_rfl) (by kernel_rfl) (by kernel_rfl) (fun _ _ _ h=>h) (Or.inl ⟨by rfl,?yf2⟩) (by assumption) ?hf2 ?zf2
     case yf2=>(intro w hSw;(try dsimp only at hSw);go_simp;try (with_reducible rfl))
     case hf2=>(go_simp;exact rfl)
     case zf2 =>
     refine wpAnyH_at (i:=3) (v:=?vf3) (a1:=?xf3) rfl (by kernel_rfl) (by kernel_rfl) (by kernel_rfl) (fun _ _ _ h=>h) (Or.inl ⟨by rfl,?yf3⟩) (by assumption) ?hf3 ?zf3
     case yf3=>(intro w hSw;(try dsimp only at hSw);go_simp;try (with_reducible rfl))
     case hf3=>(go_simp;exact rfl)
     case zf3 =>
     refine wpAnyH_at (i:=4) (v:=?vf4) (a1:=?xf4) rfl (by kernel_rfl) (by kernel_rfl) (by kernel_rfl) (fun _ _ _ h=>h) (Or.inl ⟨by rfl,?yf4⟩) (by assumption) ?hf4 ?zf4
     case yf4=>(intro w hSw;(try dsimp only at hSw);go_simp;try (with_reducible rfl))
     case hf4=>(go_simp;exact rfl)
     case zf4 =>
     refine wpAnyH_at (i:=5) (v:=?vf5) (a1:=?xf5) rfl (by kernel_rfl) (by kernel_rfl) (by kernel_rfl) (fun _ _ _ h=>h) (Or.inl ⟨by rfl,?yf5⟩) (by assumption) ?hf5 ?zf5
     case yf5=>(intro w hSw;(try dsimp only at hSw);go_simp;try (with_reducible rfl))
     case hf5=>(go_simp;exact rfl)
     case zf5 =>
     refine wpAnyH_at (i:=6) (v:=?vf6) (a1:=?xf6) rfl (by kernel_rfl) (by kernel_rfl) (by kernel_rfl) (fun _ _ _ h=>h) (Or.inl ⟨by rfl,?yf6⟩) (by assumption) ?hf6 ?zf6
     case yf6=>(intro w hSw;(try dsimp only at hSw);go_simp;try (with_reducible rfl))
     case hf6=>(go_simp;exact rfl)
     case zf6 =>
     refine wpAnyH_at (i:=7) (v:=?vf7) (a1:=?xf7) rfl (by kernel_rfl) (by kernel_rfl) (by kernel_rfl) (fun _ _ _ h=>h) (Or.inl ⟨by rfl,?yf7⟩) (by assumption) ?hf7 ?zf7
     case yf7=>(intro w hSw;(try dsimp only at hSw);go_simp;try (with_reducible rfl))
     case hf7=>(go_simp;exact rfl)
     case zf7 =>
     refine wpAnyH_at (i:=9) (v:=?vf9) (a1:=?xf9) rfl (by kernel_rfl) (by kernel_rfl) (by kernel_rfl) (fun _ _ _ h=>h) (Or.inl ⟨by rfl,?yf9⟩) (by assumption) ?hf9 ?zf9
     case yf9=>(intro w hSw;(try dsimp only at hSw);go_simp;try (with_reducible rfl))
     case hf9=>(go_simp;exact rfl)
     case zf9 =>
     refine wpAnyH_at (i:=10) (v:=?vf10) (a1:=?xf10) rfl (by kernel_rfl) (by kernel_rfl) (by kernel_rfl) (fun _ _ _ h=>h) (Or.inl ⟨by rfl,?yf10⟩) (by assumption) ?hf10 ?zf10
     case yf10=>(intro w hSw;(try dsimp only at hSw);go_simp;try (with_reducible rfl))
     case hf10=>(go_simp;exact rfl)
     case zf10 =>
     refine wpAnyH_ready (rs:=[8]) (by kernel_rfl) (by simp) ?_
     refine AllReadyH.cons rfl (fun K hK=>?_) AllReadyH.nil
     go_simp
     refine (C2.out _ (SB.out _ (by assumption))).mono ?_
     rintro r w6 ⟨rfl,h6⟩
     try go_wp2_with fail
     refine hK.out _ _ (SK.out _ (by assumption)) (fun hHeld2=>?_)
     clear hK K hHeld
     have hHeld:=hHeld2
     clear hHeld2
     refine wpAnyH_at (i:=11) (v:=?vf11) (a1:=?xf11) rfl (by kernel_rfl) (by kernel_rfl) (by kernel_rfl) (fun _ _ _ h=>h) (Or.inl ⟨by rfl,?yf11⟩) (by assumption) ?hf11 ?zf11
     case yf11=>(intro w hSw;(try dsimp only at hSw);go_simp;try (with_reducible rfl))
     case hf11=>(go_simp;exact rfl)
     case zf11 =>
     refine wpAnyH_at (i:=12) (v:=?vf12) (a1:=?xf12) rfl (by kernel_rfl) (by kernel_rfl) (by kernel_rfl) (fun _ _ _ h=>h) (Or.inl ⟨by rfl,?yf12⟩) (by assumption) ?hf12 ?zf12
     case yf12=>(intro w hSw;(try dsimp only at hSw);go_simp;try (with_reducible rfl))
     case hf12=>(go_simp;exact rfl)
     case zf12 =>
     refine wpAnyH_at (i:=13) (v:=?vf13) (a1:=?xf13) rfl (by kernel_rfl) (by kernel_rfl) (by kernel_rfl) (fun _ _ _ h=>h) (Or.inl ⟨by rfl,?yf13⟩) (by assumption) ?hf13 ?zf13
     case yf13=>(intro w hSw;(try dsimp only at hSw);go_simp;try (with_reducible rfl))
     case hf13=>(go_simp;exact rfl)
     case zf13 =>
     refine wpAnyH_done (by kernel_rfl) ?_ _
     have H7:=hide (SB.out _ (by assumption))
     go_wp2_with fail
     go_ret
     rw[HN.out]
     exact⟨ret_bool (by simp),H7.out.2.2⟩
   ·rw[decide_eq_false hsty] at g2
    have HR3:=hide (HR2.out.trans (if_neg hsty))
    clear HR2 hsty C2 g7 g6 g6'
    go_wp2_with fail
    refine (C3.out _ H2.out).mono ?_
    rintro r w3 ⟨rfl,h3⟩
    have H3:=hide h3
    clear h3 C3 H2 y0 y1 y2 y3 y4 y5 y6 y7 y8 z0 z1
    obtain⟨y0,y1,y2,y3,y4,y5,y6,y7,y8,z0,z1,-⟩:=SK.out w3 H3.out
    cases r3 with
    | false =>
     have HN:Hid (R=false):=hide (by rw[HR3.out];rfl)
     clear HR3
     go_wp2_with fail
     go_ret
     rw[HN.out]
     exact⟨rfl,H3.out.2.2⟩
    | true =>
     rw[Bool.true_and] at HR3
     by_cases hcl:bl n=[99,108,97,115,115]
     ·rw[decide_eq_true hcl] at g3
      have HN:Hid (R=r4):=hide (by rw[HR3.out,if_pos (show bl n=Saf.clsN from hcl)])
      clear HR3 hcl
      go_wp2_with fail
      refine (C4.out _ H3.out).mono ?_
      rintro r w4 ⟨rfl,h4⟩
      have H4:=hide h4
      clear h4 C4 H3 y0 y1 y2 y3 y4 y5 y6 y7 y8 z0 z1
      go_wp2_with fail
      go_ret
      rw[HN.out]
      exact⟨rfl,H4.out.2.2⟩
     ·rw[decide_eq_false hcl] at g3
      have HN:Hid (R=(!r5 || r6)):=hide (HR3.out.trans (if_neg hcl))
      clear HR3 hcl
      go_wp2_with fail
      refine (C5.out _ H3.out).mono ?_
      rintro r w4 ⟨rfl,h4⟩
      have H4:=hide h4
      clear h4 C5 H3 y0 y1 y2 y3 y4 y5 y6 y7 y8 z0 z1
      obtain⟨y0,y1,y2,y3,y4,y5,y6,y7,y8,z0,z1,-⟩:=SK.out w4 H4.out
      cases r5 with
      | false =>
       go_wp2_with fail
       go_ret
       rw[HN.out]
       exact⟨rfl,H4.out.2.2⟩
      | true =>
       go_wp2_with fail
       refine (C6.out _ H4.out).mono ?_
       rintro r w5 ⟨rfl,h5⟩
       have H5:=hide h5
       clear h5 C6 H4 y0 y1 y2 y3 y4 y5 y6 y7 y8 z0 z1
       go_wp2_with fail
       go_ret
       rw[HN.out]
       exact⟨ret_bool (by simp),H5.out.2.2⟩
end Go.Proofs.YtkiofbikkhhdfabGreatDoor
