import Derived.Test.YtkiofbikkhhdfabGreatDoorK04
import Derived.Test.YtkiofbikkhhdfabGreatDoorShelf
import Derived.Shelf.Abstract
import Derived.Lib.SlicesS
import Derived.Shelf.RegionOpenPlain
set_option maxRecDepth 100000
set_option maxHeartbeats 8000000
namespace Go.Proofs.YtkiofbikkhhdfabGreatDoor
open Go.RowKit
open Utf1 Pol8
theorem psmall_any (n:Nat)(hb:n < 256) (w:World) :
  Calls Tryz.prog 72 #[.int .u8 (n:Int)] w fun e w'=>e=.returned (.bool (decide (97<=n/\n<=122)))/\w'=w:=by
 obtain⟨R,hR⟩:∃ R,R=decide (97<=n/\n<=122):=⟨_,rfl⟩
 rw[<-hR]
 rcases (show n < 97\/(97<=n/\n<=122)\/122 < n from by omega) with h | h | h
 ·have HR:Hid (R=false):=hide (by rw[hR];exact decide_eq_false (by omega))
  have g97:decide ((97:Int)<=(n:Int))=false:=decide_eq_false (by omega)
  clear hR h hb
  go_enter Tryz.func72,Tryz.ntmps72
  go_wp2_with fail
  go_ret
  rw[HR.out]
  exact⟨rfl,rfl⟩
 ·have HR:Hid (R=true):=hide (by rw[hR];exact decide_eq_true (by omega))
  have g97:decide ((97:Int)<=(n:Int))=true:=decide_eq_true (by omega)
  have l122:decide ((n:Int)<=122)=true:=decide_eq_true (by omega)
  clear hR h hb
  go_enter Tryz.func72,Tryz.ntmps72
  go_wp2_with fail
  go_ret
  rw[HR.out]
  exact⟨rfl,rfl⟩
 ·have HR:Hid (R=false):=hide (by rw[hR];exact decide_eq_false (by omega))
  have g97:decide ((97:Int)<=(n:Int))=true:=decide_eq_true (by omega)
  have l122:decide ((n:Int)<=122)=false:=decide_eq_false (by omega)
  clear hR h hb
  go_enter Tryz.func72,Tryz.ntmps72
  go_wp2_with fail
  go_ret
  rw[HR.out]
  exact⟨rfl,rfl⟩
theorem word_short {l:L}(h:l.length < 1\/32 < l.length):isWord l=false:=by
 unfold isWord
 rw[decide_eq_false (by omega)]
 rfl
theorem word_first {l:L}{c:UInt8}(h:l[0]?=some c)(hc:sm c=false):isWord l=false:=by
 unfold isWord
 rw[List.head?_eq_getElem?,h]
 simp[hc]
theorem wc_bad {l:L}{k:Nat}{c:UInt8}(h:l[k]?=some c)(hc:wc c=false):isWord l=false:=by
 cases hw:isWord l
 ·rfl
 ·exact absurd (List.mem_of_getElem? h) (wc_no c hc hw)
theorem word_yes {l:L}{c:UInt8}(h1:1<=l.length)(h2:l.length<=32)(h:l[0]?=some c)(hc:sm c=true)(ha:∀ j d,j < l.length->l[j]?=some d->wc d=true):isWord l=true:=by
 unfold isWord
 rw[decide_eq_true ⟨h1,h2⟩,List.head?_eq_getElem?,h,Bool.true_and,Bool.and_eq_true,List.all_eq_true]
 refine⟨fun d hd=>?_,hc⟩
 obtain⟨j,hj,e⟩:=List.mem_iff_getElem.1 hd
 exact ha j d hj (by rw[List.getElem?_eq_getElem hj,e])
theorem pword_any (s:ByteArray)(hs:s.size<=9223372036854775807) (w:World) :
  Calls Tryz.prog 30 #[.string s] w fun e w'=>e=.returned (.bool (isWord (bl s)))/\w'=w:=by
 obtain⟨R,hR⟩:∃ R,R=isWord (bl s):=⟨_,rfl⟩
 rw[<-hR]
 have HAL:=hide hR
 clear hR
 by_cases h1:s.size < 1
 ·have HR:Hid (R=false):=hide (by rw[HAL.out];exact word_short (by rw[bl_len];omega))
  clear HAL
  go_enter Tryz.func30,Tryz.ntmps30
  go_wp2_with fail
  go_ret
  rw[HR.out]
  exact⟨rfl,rfl⟩
 by_cases h2:32 < s.size
 ·have HR:Hid (R=false):=hide (by rw[HAL.out];exact word_short (by rw[bl_len];omega))
  clear HAL
  go_enter Tryz.func30,Tryz.ntmps30
  go_wp2_with fail
  go_ret
  rw[HR.out]
  exact⟨rfl,rfl⟩
 obtain⟨c0,hc0⟩:=getK s 0 (by omega)
 have ip0:∀ w,(Instr.index 9 (.string s) (.int .i64 0)).run Tryz.prog w=.ok (.int .u8 (c0.toNat:Int)) w:=fun w=>idxK hc0 w
 have cs0:=fun w=>psmall_any c0.toNat c0.toNat_lt w
 have HF:Hid (decide (97<=c0.toNat/\c0.toNat<=122)=false->R=false):=hide (fun h=>by rw[HAL.out];exact word_first hc0 h)
 have HY:Hid (decide (97<=c0.toNat/\c0.toNat<=122)=true->(∀ j d,j < s.size->(bl s)[j]?=some d->wc d=true)->R=true):=hide (fun h ha=>by
  rw[HAL.out]
  exact word_yes (by rw[bl_len];omega) (by rw[bl_len];omega) hc0 h (by rw[bl_len];exact ha))
 generalize (c0.toNat:Nat)=n0 at ip0 cs0 HF HY
 clear hc0
 generalize decide (97<=n0/\n0<=122)=b0 at cs0 HF HY
 cases b0 with
 | false =>
  have HR:=hide (HF.out rfl)
  clear HF HY HAL
  go_enter Tryz.func30,Tryz.ntmps30
  go_wp2_with fail
  refine (cs0 _).mono ?_
  rintro e w1 ⟨rfl,rfl⟩
  go_wp2_with fail
  go_ret
  rw[HR.out]
  exact⟨rfl,rfl⟩
 | true =>
  have HY2:=hide (HY.out rfl)
  clear HF HY
  go_enter Tryz.func30,Tryz.ntmps30
  go_wp2_with fail
  refine (cs0 _).mono ?_
  rintro e w1 ⟨rfl,rfl⟩
  clear cs0 ip0
  go_wp2_with fail
  go_loopg [21] s.size (fun g v wx=>wx=w1/\∃ k:Nat,k+g=s.size/\v=.int .i64 (k:Int)/\Hid (∀ j c,j < k->(bl s)[j]?=some c->wc c=true))
  case atStart=>exact⟨rfl,0,by omega,rfl,hide (fun j c hj=>by omega)⟩
  case round =>
   obtain⟨rfl,k,hk,rfl,HU⟩:=hrel
   by_cases hlt:k < s.size
   ·obtain⟨c,hc⟩:=getK s k hlt
    have ip:=fun w=>idxK hc w
    have cs:=fun w=>psmall_any c.toNat c.toNat_lt w
    have HOK:Hid (decide ((97<=c.toNat/\c.toNat<=122)\/(48<=c.toNat/\c.toNat<=57)\/c.toNat=45)=true->∀ j d,j < k+1->(bl s)[j]?=some d->wc d=true):=hide (fun h j d hj hd=>by
     by_cases e:j=k
     ·subst e
      rw[hc] at hd
      cases hd
      exact h
     ·exact HU.out j d (by omega) hd)
    have HNO:Hid (decide ((97<=c.toNat/\c.toNat<=122)\/(48<=c.toNat/\c.toNat<=57)\/c.toNat=45)=false->R=false):=hide (fun h=>by rw[HAL.out];exact wc_bad hc h)
    have hb:=c.toNat_lt
    obtain⟨n,hn⟩:∃ n,n=c.toNat:=⟨_,rfl⟩
    rw[<-hn] at ip cs HOK HNO hb
    clear hc hn HU HAL
    rcases (show n < 45\/n=45\/(45 < n/\n < 48)\/(48<=n/\n<=57)\/(57 < n/\n < 97)\/(97<=n/\n<=122)\/122 < n from by omega) with h | h | h | h | h | h | h
    ·have HN:=hide (HNO.out (decide_eq_false (by omega)))
     have l48:decide ((n:Int) < 48)=true:=decide_eq_true (by omega)
     have e45:((n:Int) != 45)=true:=by simp;omega
     rw[decide_eq_false (show ¬ (97<=n/\n<=122) by omega)] at cs
     clear HOK HNO h hb
     go_wp2_with fail
     refine (cs _).mono ?_
     rintro e w2 ⟨rfl,rfl⟩
     go_wp2_with fail
     go_ret
     rw[HN.out]
     exact⟨rfl,rfl⟩
    ·subst h
     have HU:=hide (HOK.out (decide_eq_true (by omega)))
     have c45:((45:Nat):Int)=45:=rfl
     rw[c45] at ip cs
     rw[decide_eq_false (show ¬ (97<=45/\45<=122) by omega)] at cs
     clear HOK HNO hb
     go_wp2_with fail
     refine (cs _).mono ?_
     rintro e w2 ⟨rfl,rfl⟩
     go_wp2_with fail
     go_roundg (s.size - k - 1)
     case measure=>omega
     case rel=>exact⟨rfl,k+1,by omega,by first | rfl | simp,HU⟩
    ·have HN:=hide (HNO.out (decide_eq_false (by omega)))
     have l48:decide ((n:Int) < 48)=true:=decide_eq_true (by omega)
     have e45:((n:Int) != 45)=true:=by simp;omega
     rw[decide_eq_false (show ¬ (97<=n/\n<=122) by omega)] at cs
     clear HOK HNO h hb
     go_wp2_with fail
     refine (cs _).mono ?_
     rintro e w2 ⟨rfl,rfl⟩
     go_wp2_with fail
     go_ret
     rw[HN.out]
     exact⟨rfl,rfl⟩
    ·have HU:=hide (HOK.out (decide_eq_true (by omega)))
     have l48:decide ((n:Int) < 48)=false:=decide_eq_false (by omega)
     have g57:decide ((57:Int) < (n:Int))=false:=decide_eq_false (by omega)
     rw[decide_eq_false (show ¬ (97<=n/\n<=122) by omega)] at cs
     clear HOK HNO h hb
     go_wp2_with fail
     refine (cs _).mono ?_
     rintro e w2 ⟨rfl,rfl⟩
     go_wp2_with fail
     go_roundg (s.size - k - 1)
     case measure=>omega
     case rel=>exact⟨rfl,k+1,by omega,by first | rfl | simp,HU⟩
    ·have HN:=hide (HNO.out (decide_eq_false (by omega)))
     have l48:decide ((n:Int) < 48)=false:=decide_eq_false (by omega)
     have g57:decide ((57:Int) < (n:Int))=true:=decide_eq_true (by omega)
     have e45:((n:Int) != 45)=true:=by simp;omega
     rw[decide_eq_false (show ¬ (97<=n/\n<=122) by omega)] at cs
     clear HOK HNO h hb
     go_wp2_with fail
     refine (cs _).mono ?_
     rintro e w2 ⟨rfl,rfl⟩
     go_wp2_with fail
     go_ret
     rw[HN.out]
     exact⟨rfl,rfl⟩
    ·have HU:=hide (HOK.out (decide_eq_true (by omega)))
     rw[decide_eq_true (show (97<=n/\n<=122) by omega)] at cs
     clear HOK HNO h hb
     go_wp2_with fail
     refine (cs _).mono ?_
     rintro e w2 ⟨rfl,rfl⟩
     go_wp2_with fail
     go_roundg (s.size - k - 1)
     case measure=>omega
     case rel=>exact⟨rfl,k+1,by omega,by first | rfl | simp,HU⟩
    ·have HN:=hide (HNO.out (decide_eq_false (by omega)))
     have l48:decide ((n:Int) < 48)=false:=decide_eq_false (by omega)
     have g57:decide ((57:Int) < (n:Int))=true:=decide_eq_true (by omega)
     have e45:((n:Int) != 45)=true:=by simp;omega
     rw[decide_eq_false (show ¬ (97<=n/\n<=122) by omega)] at cs
     clear HOK HNO h hb
     go_wp2_with fail
     refine (cs _).mono ?_
     rintro e w2 ⟨rfl,rfl⟩
     go_wp2_with fail
     go_ret
     rw[HN.out]
     exact⟨rfl,rfl⟩
   ·have HR:Hid (R=true):=hide (HY2.out (fun j c hj=>HU.out j c (by omega)))
    clear HU HAL HY2
    go_wp2_with fail
    go_ret
    rw[HR.out]
    exact⟨rfl,rfl⟩
def Tells (g:Nat) (lb:Array Value) (p:L->Bool) (w:World):Prop :=
 ∀ (W:World) (x:ByteArray),x.size<=100000->Below w.heap.size w W->Calls Tryz.prog g (#[.string x]++lb) W fun e w'=>e=.returned (.bool (p (bl x)))/\Below W.heap.size W w'
theorem Tells.later {g:Nat}{lb:Array Value}{p:L->Bool}{w W:World}(h:Tells g lb p w)(hb:Below w.heap.size w W):Tells g lb p W :=
 fun W' x hx hb'=>h W' x hx (bel2 hb hb')
theorem peach_any (g:Nat) (lb:Array Value) (eg:∀ args w,(callFunc g args).run Tryz.prog w=.ok (.enter g args) w) (p:L->Bool) (v:Value) (ss:List ByteArray)(hl:ss.length<=100000)(hz:∀ x∈ss,x.size<=100000) (w:World)(hv:StrArg w v ss)(hp:Tells g lb p w) :
  Calls Tryz.prog 41 #[v,.func (.func g) #[] lb] w fun e w'=>e=.returned (.bool ((ss.map bl).all p))/\Below w.heap.size w w':=by
 obtain⟨R,hR⟩:∃ R,R=(ss.map bl).all p:=⟨_,rfl⟩
 rw[<-hR]
 have HAL:=hide hR
 have HV:=hide hv
 have HP:=hide hp
 have HZ:=hide hz
 obtain⟨q,cap,rfl,-,-⟩:=hv
 obtain⟨N,hN⟩:∃ N,N=ss.length:=⟨_,rfl⟩
 rw[<-hN] at hl HV ⊢
 have HN:=hide hN
 clear hR hp hz hN
 go_enter Tryz.func41,Tryz.ntmps41
 go_wp2_with fail
 go_loopg [9] N (fun gg v wx=>∃ i:Nat,i+gg=N/\v=.int .i64 (i:Int)/\Hid (Below w.heap.size w wx/\∀ j z,j < i->ss[j]?=some z->p (bl z)=true))
 case atStart=>exact⟨0,by omega,rfl,hide ⟨Below.refl _ _,fun j z hj=>by omega⟩⟩
 case round =>
  obtain⟨i,hi,rfl,HU⟩:=hrel
  by_cases hlt:i < N
  ·obtain⟨y,hy⟩:∃ y,ss[i]?=some y:=⟨_,List.getElem?_eq_getElem (by rw[<-HN.out];exact hlt)⟩
   obtain⟨b,off,rfl,c0⟩:∃ b off,q=some ⟨b,off,none⟩/\wr.cell? ⟨b,off+i,none⟩=some (.string y):=by
    obtain⟨p',cap',e,-,hc⟩:=HV.out.below HU.out.1
    injection e with e1 e2 e3
    obtain⟨b,off,e4,h⟩:=hc i y hy
    exact⟨b,off,e1.trans e4,h⟩
   have cS:Calls Tryz.prog g (#[.string y]++lb) wr _:=HP.out wr y (HZ.out y (List.mem_of_getElem? hy)) HU.out.1
   have HYES:Hid (p (bl y)=true->∀ j z,j < i+1->ss[j]?=some z->p (bl z)=true):=hide (fun h=>upto_next hy h HU.out.2)
   have HNO:Hid (p (bl y)=false->R=false):=hide (fun h=>by rw[HAL.out];exact all_false hy h)
   have HB:=hide HU.out.1
   clear hy HU HAL
   generalize p (bl y)=t at cS HYES HNO
   cases t with
   | true =>
    have HU2:=hide (HYES.out rfl)
    clear HYES HNO
    go_wp2_with (go_at_fn g;refine cS.mono ?_;rintro e W' ⟨rfl,hbc⟩)
    have HB2:=hide (bel2 HB.out (by assumption))
    go_roundg (gk - 1)
    case measure=>omega
    case rel=>exact⟨i+1,by omega,by first | rfl | simp,hide ⟨HB2.out,HU2.out⟩⟩
   | false =>
    have HR:=hide (HNO.out rfl)
    clear HYES HNO
    go_wp2_with (go_at_fn g;refine cS.mono ?_;rintro e W' ⟨rfl,hbc⟩)
    have HB2:=hide (bel2 HB.out (by assumption))
    go_ret
    rw[HR.out]
    exact⟨rfl,HB2.out⟩
  ·have HR:Hid (R=true):=hide (by rw[HAL.out];exact all_true (fun j z hj hz=>HU.out.2 j z (by rw[<-HN.out] at hj;omega) hz))
   clear HAL
   go_wp2_with fail
   go_ret
   rw[HR.out]
   exact⟨rfl,HU.out.1⟩
end Go.Proofs.YtkiofbikkhhdfabGreatDoor
namespace Go.Proofs.YtkiofbikkhhdfabGreatDoor
open Go.RowKit
open Utf1 Pol8
theorem ib_some:∀ (a b:L) (c:UInt8),c ∉ a->Lib.indexByte (a++c :: b) c=(a.length:Int)
 | [],b,c,_=>by simp[Lib.indexByte]
 | x :: a,b,c,h=>by
  have hx:(x==c)=false:=beq_eq_false_iff_ne.2 (fun e=>h (by simp[e]))
  have ih:=ib_some a b c (fun e=>h (by simp[e]))
  rw[List.cons_append,Lib.indexByte,hx,ih]
  have:((a.length:Int)==-1)=false:=beq_eq_false_iff_ne.2 (by omega)
  rw[this]
  simp
theorem ib_none:∀ (a:L) (c:UInt8),c ∉ a->Lib.indexByte a c=-1
 | [],c,_=>rfl
 | x :: a,c,h=>by
  have hx:(x==c)=false:=beq_eq_false_iff_ne.2 (fun e=>h (by simp[e]))
  have ih:=ib_none a c (fun e=>h (by simp[e]))
  rw[Lib.indexByte,hx,ih]
  rfl
theorem lcut_none (s:ByteArray) (c:UInt8)(h:c ∉ bl s) (w:World) :
  Calls Tryz.prog 70 #[.string s,.string ⟨#[c]⟩] w fun e w'=>e=.returned (.tuple #[.string s,.string ⟨#[]⟩,.bool false])/\w'=w:=by
 have c1:=fun w=>Tryz.stringslite_Index_one s c w
 rw[ib_none _ c h] at c1
 clear h
 go_enter Tryz.func70,Tryz.ntmps70
 go_wp2_with fail
 refine (c1 _).mono ?_
 rintro e w1 ⟨rfl,rfl⟩
 go_wp2_with fail
 go_ret3
 exact⟨rfl,rfl⟩
theorem lcut_some (s:ByteArray) (c:UInt8) (A B:ByteArray)(h:bl s=bl A++c :: bl B)(hc:c ∉ bl A)(hs:s.size<=100000) (w:World) :
  Calls Tryz.prog 70 #[.string s,.string ⟨#[c]⟩] w fun e w'=>e=.returned (.tuple #[.string A,.string B,.bool true])/\Below w.heap.size w w':=by
 have c1:=fun w=>Tryz.stringslite_Index_one s c w
 rw[show s.data.toList=_ from h,ib_some _ _ c hc,bl_len] at c1
 have hsz:s.size=A.size+1+B.size:=by
  have:=congrArg List.length h
  rw[bl_len,List.length_append,List.length_cons,bl_len,bl_len] at this
  omega
 have HA:Hid (s.extract 0 A.size=A):=hide (by
  apply ba_ext
  rw[extract_bl,h]
  have:A.size=(bl A).length:=(bl_len A).symm
  rw[this]
  simp)
 have HB:Hid (s.extract (A.size+1) s.size=B):=hide (by
  apply ba_ext
  rw[extract_bl,h,List.drop_append,bl_len]
  rw[List.drop_eq_nil_of_le (by rw[bl_len];omega)]
  rw[show A.size+1 - A.size=1 by omega]
  simp
  rw[List.take_of_length_le (by rw[bl_len];omega)])
 have k0:(0:Int)<=(A.size:Int):=by omega
 have k1:(A.size:Int)<=(s.size:Int):=by omega
 have k2:(0:Int)<=(A.size:Int)+1:=by omega
 have k3:(A.size:Int)+1<=(s.size:Int):=by omega
 have hAs:A.size<=100000:=by omega
 have HS:=hide hsz
 clear h hc hsz
 have hA:=HA.out
 have hB:=HB.out
 go_enter Tryz.func70,Tryz.ntmps70
 go_wp2_with fail
 refine (c1 _).mono ?_
 rintro e w1 ⟨rfl,rfl⟩
 go_wp2_with fail
 go_region
 go_wp2
 go_ret3
 exact⟨rfl,(Below.refl _ _).drew⟩
theorem cut_none (s:ByteArray) (c:UInt8)(h:c ∉ bl s) (w:World) :
  Calls Tryz.prog 28 #[.string s,.string ⟨#[c]⟩] w fun e w'=>e=.returned (.tuple #[.string s,.string ⟨#[]⟩,.bool false])/\Below w.heap.size w w':=by
 have c1:=fun w=>lcut_none s c h w
 clear h
 go_enter Tryz.func28,Tryz.ntmps28
 go_wp2_with fail
 refine (c1 _).mono ?_
 rintro e w1 ⟨rfl,rfl⟩
 go_wp2_with fail
 go_ret3
 exact⟨rfl,Below.refl _ _⟩
theorem cut_some (s:ByteArray) (c:UInt8) (A B:ByteArray)(h:bl s=bl A++c :: bl B)(hc:c ∉ bl A)(hs:s.size<=100000) (w:World) :
  Calls Tryz.prog 28 #[.string s,.string ⟨#[c]⟩] w fun e w'=>e=.returned (.tuple #[.string A,.string B,.bool true])/\Below w.heap.size w w':=by
 have c1:=fun w=>lcut_some s c A B h hc hs w
 clear h hc
 go_enter Tryz.func28,Tryz.ntmps28
 go_wp2_with fail
 refine (c1 _).mono ?_
 rintro e w1 ⟨rfl,hb⟩
 go_wp2_with fail
 go_ret3
 exact⟨rfl,hb⟩
def nevA (a:L):Bool:=isOn a || decide (a=srcdoc\/a=formaction\/a=style)
theorem may_is (a:L):may a=(isWord a && !nevA a):=by
 unfold may nevA
 congr 1
 rw[Bool.not_or]
 congr 1
 by_cases h:a=srcdoc\/a=formaction\/a=style
 ·rw[decide_eq_true h,decide_eq_false (by rintro ⟨h1,h2,h3⟩;rcases h with h | h | h;exact h1 h;exact h2 h;exact h3 h)]
  rfl
 ·rw[decide_eq_false h,decide_eq_true (by exact⟨fun e=>h (.inl e),fun e=>h (.inr (.inl e)),fun e=>h (.inr (.inr e))⟩)]
  rfl
theorem on_pref (l:L):Lib.hasPrefix l [111,110]=isOn l:=by
 unfold isOn
 rw[<-Lib.hasPrefix_of_take]
 by_cases h:l.take 2=[111,110]
 ·have h2:2<=l.length:=by
   have:=congrArg List.length h
   rw[List.length_take] at this
   simp at this
   omega
  rw[decide_eq_true h,decide_eq_true (by simpa using h2)]
  simpa using h
 ·rw[decide_eq_false h]
  exact Bool.and_eq_false_iff.2 (.inr (beq_eq_false_iff_ne.2 h))
theorem pnevA_any (s:ByteArray) (w:World) :
  Calls Tryz.prog 31 #[.string s] w fun e w'=>e=.returned (.bool (nevA (bl s)))/\w'=w:=by
 obtain⟨R,hR⟩:∃ R,R=(nevA (bl s)):=⟨_,rfl⟩
 rw[<-hR]
 have HAL:=hide hR
 clear hR
 have f0:=eq_lit s [115,114,99,100,111,99]
 by_cases h0:bl s=[115,114,99,100,111,99]
 ·rw[decide_eq_true h0] at f0
  have HR:Hid (R=true):=hide (by rw[HAL.out,h0];decide)
  clear HAL h0
  go_enter Tryz.func31,Tryz.ntmps31
  go_wp2_with fail
  go_ret
  rw[HR.out]
  exact⟨rfl,rfl⟩
 rw[decide_eq_false h0] at f0
 have f1:=eq_lit s [102,111,114,109,97,99,116,105,111,110]
 by_cases h1:bl s=[102,111,114,109,97,99,116,105,111,110]
 ·rw[decide_eq_true h1] at f1
  have HR:Hid (R=true):=hide (by rw[HAL.out,h1];decide)
  clear HAL h0 h1
  go_enter Tryz.func31,Tryz.ntmps31
  go_wp2_with fail
  go_ret
  rw[HR.out]
  exact⟨rfl,rfl⟩
 rw[decide_eq_false h1] at f1
 have f2:=eq_lit s [115,116,121,108,101]
 by_cases h2:bl s=[115,116,121,108,101]
 ·rw[decide_eq_true h2] at f2
  have HR:Hid (R=true):=hide (by rw[HAL.out,h2];decide)
  clear HAL h0 h1 h2
  go_enter Tryz.func31,Tryz.ntmps31
  go_wp2_with fail
  go_ret
  rw[HR.out]
  exact⟨rfl,rfl⟩
 rw[decide_eq_false h2] at f2
 have HR:Hid (R=isOn (bl s)):=hide (by
  rw[HAL.out]
  unfold nevA
  rw[decide_eq_false (by rintro (h | h | h);exact h0 h;exact h1 h;exact h2 h),Bool.or_false])
 have c1:=fun w=>Tryz.strings_HasPrefix s ⟨#[111,110]⟩ w
 rw[show Lib.hasPrefix s.data.toList (ByteArray.mk #[111,110]).data.toList=isOn (bl s) from on_pref _] at c1
 clear HAL h0 h1 h2
 go_enter Tryz.func31,Tryz.ntmps31
 go_wp2_with fail
 refine (c1 _).mono ?_
 rintro e w1 ⟨rfl,rfl⟩
 go_wp2_with fail
 go_ret
 rw[HR.out]
 exact⟨rfl,rfl⟩
theorem pscheme_any (s:ByteArray)(hs:s.size<=9223372036854775807) (w:World) :
  Calls Tryz.prog 37 #[.string s] w fun e w'=>e=.returned (.bool (isWord (bl s) && decide (bl s≠js/\bl s≠dat/\bl s≠vbs)))/\w'=w:=by
 obtain⟨R,hR⟩:∃ R,R=(isWord (bl s) && decide (bl s≠js/\bl s≠dat/\bl s≠vbs)):=⟨_,rfl⟩
 rw[<-hR]
 have HAL:=hide hR
 clear hR
 have f0:=eq_lit s [106,97,118,97,115,99,114,105,112,116]
 by_cases h0:bl s=[106,97,118,97,115,99,114,105,112,116]
 ·rw[decide_eq_true h0] at f0
  have HR:Hid (R=false):=hide (by rw[HAL.out,h0];decide)
  clear HAL h0
  go_enter Tryz.func37,Tryz.ntmps37
  go_wp2_with fail
  go_ret
  rw[HR.out]
  exact⟨rfl,rfl⟩
 rw[decide_eq_false h0] at f0
 have f1:=eq_lit s [100,97,116,97]
 by_cases h1:bl s=[100,97,116,97]
 ·rw[decide_eq_true h1] at f1
  have HR:Hid (R=false):=hide (by rw[HAL.out,h1];decide)
  clear HAL h0 h1
  go_enter Tryz.func37,Tryz.ntmps37
  go_wp2_with fail
  go_ret
  rw[HR.out]
  exact⟨rfl,rfl⟩
 rw[decide_eq_false h1] at f1
 have f2:=eq_lit s [118,98,115,99,114,105,112,116]
 by_cases h2:bl s=[118,98,115,99,114,105,112,116]
 ·rw[decide_eq_true h2] at f2
  have HR:Hid (R=false):=hide (by rw[HAL.out,h2];decide)
  clear HAL h0 h1 h2
  go_enter Tryz.func37,Tryz.ntmps37
  go_wp2_with fail
  go_ret
  rw[HR.out]
  exact⟨rfl,rfl⟩
 rw[decide_eq_false h2] at f2
 have HR:Hid (R=isWord (bl s)):=hide (by
  rw[HAL.out,decide_eq_true (by exact⟨h0,h1,h2⟩),Bool.and_true])
 have c1:=fun w=>pword_any s hs w
 clear HAL h0 h1 h2
 go_enter Tryz.func37,Tryz.ntmps37
 go_wp2_with fail
 refine (c1 _).mono ?_
 rintro e w1 ⟨rfl,rfl⟩
 go_wp2_with fail
 go_ret
 rw[HR.out]
 exact⟨rfl,rfl⟩
theorem pnever_any (s:ByteArray) (w:World) :
  Calls Tryz.prog 75 #[.string s] w fun e w'=>e=.returned (.bool (never (bl s)))/\w'=w:=by
 obtain⟨R,hR⟩:∃ R,R=(never (bl s)):=⟨_,rfl⟩
 rw[<-hR]
 have HAL:=hide hR
 clear hR
 have f0:=eq_lit s [98,97,115,101]
 by_cases h0:bl s=[98,97,115,101]
 ·rw[decide_eq_true h0] at f0
  have HR:Hid (R=true):=hide (by rw[HAL.out,h0];decide)
  clear HAL h0
  go_enter Tryz.func75,Tryz.ntmps75
  go_wp2_with fail
  go_ret
  rw[HR.out]
  exact⟨rfl,rfl⟩
 rw[decide_eq_false h0] at f0
 have f1:=eq_lit s [101,109,98,101,100]
 by_cases h1:bl s=[101,109,98,101,100]
 ·rw[decide_eq_true h1] at f1
  have HR:Hid (R=true):=hide (by rw[HAL.out,h1];decide)
  clear HAL h0 h1
  go_enter Tryz.func75,Tryz.ntmps75
  go_wp2_with fail
  go_ret
  rw[HR.out]
  exact⟨rfl,rfl⟩
 rw[decide_eq_false h1] at f1
 have f2:=eq_lit s [102,111,114,109]
 by_cases h2:bl s=[102,111,114,109]
 ·rw[decide_eq_true h2] at f2
  have HR:Hid (R=true):=hide (by rw[HAL.out,h2];decide)
  clear HAL h0 h1 h2
  go_enter Tryz.func75,Tryz.ntmps75
  go_wp2_with fail
  go_ret
  rw[HR.out]
  exact⟨rfl,rfl⟩
 rw[decide_eq_false h2] at f2
 have f3:=eq_lit s [105,110,112,117,116]
 by_cases h3:bl s=[105,110,112,117,116]
 ·rw[decide_eq_true h3] at f3
  have HR:Hid (R=true):=hide (by rw[HAL.out,h3];decide)
  clear HAL h0 h1 h2 h3
  go_enter Tryz.func75,Tryz.ntmps75
  go_wp2_with fail
  go_ret
  rw[HR.out]
  exact⟨rfl,rfl⟩
 rw[decide_eq_false h3] at f3
 have f4:=eq_lit s [108,105,110,107]
 by_cases h4:bl s=[108,105,110,107]
 ·rw[decide_eq_true h4] at f4
  have HR:Hid (R=true):=hide (by rw[HAL.out,h4];decide)
  clear HAL h0 h1 h2 h3 h4
  go_enter Tryz.func75,Tryz.ntmps75
  go_wp2_with fail
  go_ret
  rw[HR.out]
  exact⟨rfl,rfl⟩
 rw[decide_eq_false h4] at f4
 have f5:=eq_lit s [109,97,116,104]
 by_cases h5:bl s=[109,97,116,104]
 ·rw[decide_eq_true h5] at f5
  have HR:Hid (R=true):=hide (by rw[HAL.out,h5];decide)
  clear HAL h0 h1 h2 h3 h4 h5
  go_enter Tryz.func75,Tryz.ntmps75
  go_wp2_with fail
  go_ret
  rw[HR.out]
  exact⟨rfl,rfl⟩
 rw[decide_eq_false h5] at f5
 have f6:=eq_lit s [109,101,116,97]
 by_cases h6:bl s=[109,101,116,97]
 ·rw[decide_eq_true h6] at f6
  have HR:Hid (R=true):=hide (by rw[HAL.out,h6];decide)
  clear HAL h0 h1 h2 h3 h4 h5 h6
  go_enter Tryz.func75,Tryz.ntmps75
  go_wp2_with fail
  go_ret
  rw[HR.out]
  exact⟨rfl,rfl⟩
 rw[decide_eq_false h6] at f6
 have f7:=eq_lit s [111,98,106,101,99,116]
 by_cases h7:bl s=[111,98,106,101,99,116]
 ·rw[decide_eq_true h7] at f7
  have HR:Hid (R=true):=hide (by rw[HAL.out,h7];decide)
  clear HAL h0 h1 h2 h3 h4 h5 h6 h7
  go_enter Tryz.func75,Tryz.ntmps75
  go_wp2_with fail
  go_ret
  rw[HR.out]
  exact⟨rfl,rfl⟩
 rw[decide_eq_false h7] at f7
 have f8:=eq_lit s [112,97,114,97,109]
 by_cases h8:bl s=[112,97,114,97,109]
 ·rw[decide_eq_true h8] at f8
  have HR:Hid (R=true):=hide (by rw[HAL.out,h8];decide)
  clear HAL h0 h1 h2 h3 h4 h5 h6 h7 h8
  go_enter Tryz.func75,Tryz.ntmps75
  go_wp2_with fail
  go_ret
  rw[HR.out]
  exact⟨rfl,rfl⟩
 rw[decide_eq_false h8] at f8
 have f9:=eq_lit s [115,101,108,101,99,116]
 by_cases h9:bl s=[115,101,108,101,99,116]
 ·rw[decide_eq_true h9] at f9
  have HR:Hid (R=true):=hide (by rw[HAL.out,h9];decide)
  clear HAL h0 h1 h2 h3 h4 h5 h6 h7 h8 h9
  go_enter Tryz.func75,Tryz.ntmps75
  go_wp2_with fail
  go_ret
  rw[HR.out]
  exact⟨rfl,rfl⟩
 rw[decide_eq_false h9] at f9
 have f10:=eq_lit s [115,118,103]
 by_cases h10:bl s=[115,118,103]
 ·rw[decide_eq_true h10] at f10
  have HR:Hid (R=true):=hide (by rw[HAL.out,h10];decide)
  clear HAL h0 h1 h2 h3 h4 h5 h6 h7 h8 h9 h10
  go_enter Tryz.func75,Tryz.ntmps75
  go_wp2_with fail
  go_ret
  rw[HR.out]
  exact⟨rfl,rfl⟩
 rw[decide_eq_false h10] at f10
 have f11:=eq_lit s [116,101,109,112,108,97,116,101]
 by_cases h11:bl s=[116,101,109,112,108,97,116,101]
 ·rw[decide_eq_true h11] at f11
  have HR:Hid (R=true):=hide (by rw[HAL.out,h11];decide)
  clear HAL h0 h1 h2 h3 h4 h5 h6 h7 h8 h9 h10 h11
  go_enter Tryz.func75,Tryz.ntmps75
  go_wp2_with fail
  go_ret
  rw[HR.out]
  exact⟨rfl,rfl⟩
 rw[decide_eq_false h11] at f11
 have f12:=eq_lit s [110,111,115,99,114,105,112,116]
 by_cases h12:bl s=[110,111,115,99,114,105,112,116]
 ·rw[decide_eq_true h12] at f12
  have HR:Hid (R=true):=hide (by rw[HAL.out,h12];decide)
  clear HAL h0 h1 h2 h3 h4 h5 h6 h7 h8 h9 h10 h11 h12
  go_enter Tryz.func75,Tryz.ntmps75
  go_wp2_with fail
  go_ret
  rw[HR.out]
  exact⟨rfl,rfl⟩
 rw[decide_eq_false h12] at f12
 have f13:=eq_lit s [102,114,97,109,101]
 by_cases h13:bl s=[102,114,97,109,101]
 ·rw[decide_eq_true h13] at f13
  have HR:Hid (R=true):=hide (by rw[HAL.out,h13];decide)
  clear HAL h0 h1 h2 h3 h4 h5 h6 h7 h8 h9 h10 h11 h12 h13
  go_enter Tryz.func75,Tryz.ntmps75
  go_wp2_with fail
  go_ret
  rw[HR.out]
  exact⟨rfl,rfl⟩
 rw[decide_eq_false h13] at f13
 have f14:=eq_lit s [102,114,97,109,101,115,101,116]
 by_cases h14:bl s=[102,114,97,109,101,115,101,116]
 ·rw[decide_eq_true h14] at f14
  have HR:Hid (R=true):=hide (by rw[HAL.out,h14];decide)
  clear HAL h0 h1 h2 h3 h4 h5 h6 h7 h8 h9 h10 h11 h12 h13 h14
  go_enter Tryz.func75,Tryz.ntmps75
  go_wp2_with fail
  go_ret
  rw[HR.out]
  exact⟨rfl,rfl⟩
 rw[decide_eq_false h14] at f14
 have HR:Hid (R=isRaw (bl s)):=hide (by
  rw[HAL.out]
  unfold never
  rw[decide_eq_false (by
   simp only[neverL,List.mem_cons,List.not_mem_nil,or_false]
   rintro (h | h | h | h | h | h | h | h | h | h | h | h | h | h | h)
   all_goals contradiction),Bool.or_false])
 have c1:=fun w=>traw_any s w
 clear HAL h0 h1 h2 h3 h4 h5 h6 h7 h8 h9 h10 h11 h12 h13 h14
 generalize isRaw (bl s)=r at c1 HR
 go_enter Tryz.func75,Tryz.ntmps75
 go_wp2_with fail
 refine (c1 _).mono ?_
 rintro e w1 ⟨⟨x,rfl⟩,rfl⟩
 go_wp2_with fail
 go_ret
 rw[HR.out]
 exact⟨rfl,rfl⟩
theorem pelemOk_any (s:ByteArray)(hs:s.size<=9223372036854775807) (w:World) :
  Calls Tryz.prog 35 #[.string s] w fun e w'=>e=.returned (.bool (isWord (bl s) && !never (bl s)))/\w'=w:=by
 have c1:=fun w=>pword_any s hs w
 have c2:=fun w=>pnever_any s w
 generalize isWord (bl s)=r at c1 ⊢
 generalize never (bl s)=t at c2 ⊢
 cases r with
 | false =>
  go_enter Tryz.func35,Tryz.ntmps35
  go_wp2_with fail
  refine (c1 _).mono ?_
  rintro e w1 ⟨rfl,rfl⟩
  go_wp2_with fail
  go_ret
  exact⟨rfl,rfl⟩
 | true =>
  go_enter Tryz.func35,Tryz.ntmps35
  go_wp2_with fail
  refine (c1 _).mono ?_
  rintro e w1 ⟨rfl,rfl⟩
  go_wp2_with fail
  refine (c2 _).mono ?_
  rintro e w1 ⟨rfl,rfl⟩
  go_wp2_with fail
  go_ret
  exact⟨rfl,rfl⟩
theorem contains_any (X:ByteArray) (v:Value) (ss:List ByteArray)(hl:ss.length<=100000) (w:World)(hv:StrArg w v ss) :
  Calls Tryz.prog 71 #[v,.string X] w fun e w'=>e=.returned (.bool (decide (bl X∈ss.map bl)))/\w'=w:=by
 obtain⟨p,cap,rfl,-,hc⟩:=hv
 cases ss with
 | nil =>
  refine (Tryz.slices_Contains_string_empty p cap X w).mono ?_
  rintro e w' ⟨rfl,rfl⟩
  exact⟨by simp,rfl⟩
 | cons y r =>
  obtain⟨b,off,rfl,_⟩:=hc 0 y rfl
  have hcell:∀ j,j < (y :: r).length->w.cell? ⟨b,off+j,none⟩=some (.string ((y :: r).getD j ByteArray.empty)):=by
   intro j hj
   obtain⟨b',off',e,h⟩:=hc j ((y :: r)[j]) (List.getElem?_eq_getElem hj)
   injection e with e
   injection e with e1 e2
   subst e1
   subst e2
   rw[h,List.getD_eq_getElem?_getD,List.getElem?_eq_getElem hj]
   rfl
  refine (Tryz.slices_Contains_string b off (y :: r).length cap (y :: r) X w (Nat.le_refl _) (by omega) hcell).mono ?_
  rintro e w' ⟨rfl,rfl⟩
  refine⟨?_,rfl⟩
  congr 2
  rw[List.take_length]
  have h1:=Lib.containsS_iff (y :: r) X
  by_cases hm:X∈y :: r
  ·rw[h1.2 hm,decide_eq_true (List.mem_map_of_mem hm)]
  ·have:Lib.containsS (y :: r) X=false:=by
    cases h:Lib.containsS (y :: r) X
    ·rfl
    ·exact absurd (h1.1 h) hm
   rw[this,decide_eq_false]
   intro hx
   obtain⟨z,hz,e⟩:=List.mem_map.1 hx
   exact hm (by rw[<-ba_ext e];exact hz)
abbrev pvalL (a0:Int) (v1 v2 v3 v4 v5:Value) (a6 a7 a8:Int):Value:=.agg #[.int .i64 a0,v1,v2,v3,v4,v5,.int .i64 a6,.int .i64 a7,.int .i64 a8]
theorem pelem_any (a0:Int) (v1 v2 v3 v4 v5:Value) (a6 a7 a8:Int) (X:ByteArray) (ss:List ByteArray)(hl:ss.length<=100000) (w:World)(hv:StrArg w v1 ss) :
  Calls Tryz.prog 29 #[pvalL a0 v1 v2 v3 v4 v5 a6 a7 a8,.string X] w fun e w'=>e=.returned (.bool (decide (bl X∈ss.map bl)))/\Below w.heap.size w w':=by
 have C1:Hid (∀ wx,Below w.heap.size w wx->Calls Tryz.prog 71 #[v1,.string X] wx fun e w'=>e=.returned (.bool (decide (bl X∈ss.map bl)))/\w'=wx):=hide (fun wx h=>contains_any X v1 ss hl wx (hv.below h))
 generalize decide (bl X∈ss.map bl)=R at C1 ⊢
 obtain⟨w1,hw1⟩:∃ w1,w1=w.alloc (.cells #[.int .i64 a0,v1,v2,v3,v4,v5,.int .i64 a6,.int .i64 a7,.int .i64 a8] 24):=⟨_,rfl⟩
 have hb1:Below w.heap.size w w1:=by rw[hw1];exact bel_alloc (Below.refl _ _) _
 have hbx:w1.heap[w.heap.size]?=some (.cells #[.int .i64 a0,v1,v2,v3,v4,v5,.int .i64 a6,.int .i64 a7,.int .i64 a8] 24 (0,0)):=by rw[hw1];exact new_block _ _ _
 have y1:=tag_cell hbx 1 _ rfl
 have C2:=hide (C1.out w1 hb1)
 have HB:=hide hb1
 clear hbx hb1 C1 hv
 go_enter Tryz.func29,Tryz.ntmps29
 go_upto_region 1 with fail
 rw[<-hw1]
 clear hw1
 go_wp2_with fail
 refine C2.out.mono ?_
 rintro e w2 ⟨rfl,rfl⟩
 go_wp2_with fail
 go_ret
 exact⟨rfl,HB.out⟩
end Go.Proofs.YtkiofbikkhhdfabGreatDoor
namespace Go.Proofs.YtkiofbikkhhdfabGreatDoor
open Go.RowKit
open Utf1 Pol8
theorem prights_any (g:Nat) (lb:Array Value) (eg:∀ args w,(callFunc g args).run Tryz.prog w=.ok (.enter g args) w) (p:L->Bool) (v:Value) (ss:List ByteArray)(hl:ss.length<=100000)(hz:∀ x∈ss,x.size<=100000) (w:World)(hv:StrArg w v ss)(hp:Tells g lb p w) :
  Calls Tryz.prog 34 #[v,.func (.func g) #[] lb] w fun e w'=>e=.returned (.bool (rises (ss.map bl) && (ss.map bl).all p))/\Below w.heap.size w w':=by
 have CE:=hide (fun wx (hx:Below w.heap.size w wx)=>peach_any g lb eg p v ss hl hz wx (hv.below hx) (hp.later hx))
 obtain⟨R,hR⟩:∃ R,R=(rises (ss.map bl) && (ss.map bl).all p):=⟨_,rfl⟩
 rw[<-hR]
 have HAL:=hide hR
 have HV:=hide hv
 clear hp hz hR eg
 obtain⟨q,cap,rfl,-,-⟩:=hv
 obtain⟨N,hN⟩:∃ N,N=ss.length:=⟨_,rfl⟩
 rw[<-hN] at hl HV CE ⊢
 have HN:=hide hN
 clear hN
 by_cases h64:64 < N
 ·have HR:Hid (R=false):=hide (by
   rw[HAL.out]
   unfold rises
   rw[decide_eq_false (by rw[List.length_map,<-HN.out];omega),Bool.and_false,Bool.false_and])
  clear HAL CE HV
  go_enter Tryz.func34,Tryz.ntmps34
  go_wp2_with fail
  go_ret
  rw[HR.out]
  exact⟨rfl,Below.refl _ _⟩
 go_enter Tryz.func34,Tryz.ntmps34
 go_wp2_with fail
 go_loopg [5] (N+1) (fun g v wx=>∃ i:Nat,1<=i/\N+1<=i+g/\i<=N+1/\v=.int .i64 (i:Int)/\Hid (Below w.heap.size w wx/\∀ j a b,j+1 < i->ss[j]?=some a->ss[j+1]?=some b->lt (bl a) (bl b)=true))
 case atStart=>exact⟨1,by omega,by omega,by omega,rfl,hide ⟨Below.refl _ _,fun j a b hj=>by omega⟩⟩
 case round =>
  obtain⟨i,h1,hg,hiN,rfl,HU⟩:=hrel
  by_cases hlt:i < N
  ·obtain⟨k,rfl⟩:∃ k,i=k+1:=⟨i - 1,by omega⟩
   obtain⟨x,hx⟩:∃ y,ss[k]?=some y:=⟨_,List.getElem?_eq_getElem (by rw[<-HN.out];omega)⟩
   obtain⟨y,hy⟩:∃ y,ss[k+1]?=some y:=⟨_,List.getElem?_eq_getElem (by rw[<-HN.out];exact hlt)⟩
   obtain⟨b,off,rfl,c0,c1⟩:∃ b off,q=some ⟨b,off,none⟩/\wr.cell? ⟨b,off+k,none⟩=some (.string x)/\wr.cell? ⟨b,off+(k+1),none⟩=some (.string y):=by
    obtain⟨p',cap',e,-,hc⟩:=HV.out.below HU.out.1
    injection e with e1 e2 e3
    obtain⟨b,off,e4,h⟩:=hc k x hx
    obtain⟨b',off',e5,h'⟩:=hc (k+1) y hy
    rw[e4] at e5
    injection e5 with e5
    injection e5 with e6 e7
    subst e6
    subst e7
    exact⟨b,off,e1.trans e4,h,h'⟩
   have hkc:((k+1:Nat):Int) - 1=(k:Int):=by omega
   have HB:Hid (Below w.heap.size w wr.drew):=hide HU.out.1.drew
   have HYES:Hid (lt (bl x) (bl y)=true->∀ j a b,j+1 < k+2->ss[j]?=some a->ss[j+1]?=some b->lt (bl a) (bl b)=true):=hide (fun h j a b hj ha hb=>by
    by_cases e:j=k
    ·subst e
     rw[hx] at ha
     rw[hy] at hb
     cases ha
     cases hb
     exact h
    ·exact HU.out.2 j a b (by omega) ha hb)
   have HNO:Hid (lt (bl x) (bl y)=false->R=false):=hide (fun h=>by
    rw[HAL.out]
    unfold rises
    rw[Bool.and_eq_false_iff,Bool.and_eq_false_iff]
    left
    left
    cases hc:chain (ss.map bl)
    ·rfl
    ·have:=(chain_iff _).1 hc k (bl x) (bl y) (by rw[List.getElem?_map,hx];rfl) (by rw[List.getElem?_map,hy];rfl)
     rw[h] at this
     cases this)
   clear hx hy HU
   cases hxy:lt (bl x) (bl y) with
   | true =>
    have HU2:=hide (HYES.out hxy)
    have hgq2:=less_is x y
    rw[hxy] at hgq2
    clear HYES HNO hxy
    go_wp2_with fail
    go_region
    go_wp2_with fail
    go_roundg (gk - 1)
    case measure=>omega
    case rel=>exact⟨k+2,by omega,by omega,by omega,by first | rfl | simp | (congr 1),hide ⟨HB.out,HU2.out⟩⟩
   | false =>
    have HR:=hide (HNO.out hxy)
    have hgq2:=less_is x y
    rw[hxy] at hgq2
    clear HYES HNO hxy
    go_wp2_with fail
    go_region
    go_wp2_with fail
    go_ret
    rw[HR.out]
    exact⟨rfl,HB.out⟩
  ·have HC:Hid (chain (ss.map bl)=true):=hide (by
    rw[chain_iff]
    intro j a b ha hb
    rw[List.getElem?_map] at ha hb
    cases hx:ss[j]? with
    | none=>rw[hx] at ha;cases ha
    | some x =>
     cases hy:ss[j+1]? with
     | none=>rw[hy] at hb;cases hb
     | some y =>
      rw[hx] at ha
      rw[hy] at hb
      cases ha
      cases hb
      have:=(List.getElem?_eq_some_iff.1 hy).1
      exact HU.out.2 j x y (by have:=HN.out;omega) hx hy)
   have HR:Hid (R=(ss.map bl).all p):=hide (by
    rw[HAL.out]
    unfold rises
    rw[HC.out,decide_eq_true (by rw[List.length_map,<-HN.out];omega),Bool.true_and,Bool.true_and])
   have CE2:=hide (CE.out wr HU.out.1)
   have HB:=hide HU.out.1
   clear HAL HC CE HU
   rw[<-HR.out] at CE2
   clear HR
   go_wp2_with fail
   refine CE2.out.mono ?_
   rintro e w3 ⟨rfl,hb3⟩
   have HB3:=hide (bel2 HB.out hb3)
   clear hb3
   go_wp2_with fail
   go_ret
   exact⟨rfl,HB3.out⟩
theorem attrOk_none {el:List L}{s:L}(h:(46:UInt8) ∉ s):attrOk el s=false:=by
 unfold attrOk
 rw[dot_none s h]
theorem attrOk_some {el:List L}{a b:L}(h:(46:UInt8) ∉ a):attrOk el (a++46 :: b)=(decide (a=[42]\/a∈el) && may b):=by
 unfold attrOk
 rw[dot_some a b h]
def BoxR (B:Nat) (A:Array Value) (wx:World):Prop:=wx.heap[B]?=some (.cells A 24 (0,0))
theorem BoxR.keep {B:Nat}{A:Array Value}{wx wy:World}(h:BoxR B A wx)(hb:Below wx.heap.size wx wy):BoxR B A wy :=
 (hb.block _ (Array.getElem?_eq_some_iff.1 h).1).trans h
theorem pattr_any (B:Nat) (a0:Int) (v1 v2 v3 v4 v5:Value) (a6 a7 a8:Int) (ss:List ByteArray)(hl:ss.length<=100000) (x:ByteArray)(hx:x.size<=100000) (w:World)(hbx:BoxR B #[.int .i64 a0,v1,v2,v3,v4,v5,.int .i64 a6,.int .i64 a7,.int .i64 a8] w)(hv:StrArg w v1 ss) :
  Calls Tryz.prog 27 #[.string x,.pointer (some ⟨B,0,none⟩)] w fun e w'=>e=.returned (.bool (attrOk (ss.map bl) (bl x)))/\Below w.heap.size w w':=by
 by_cases hd:(46:UInt8)∈bl x
 ·obtain⟨n,a,hna,hn,hsz,-,-,-⟩:=split_ba x 46 hd
  have c1:=fun w=>cut_some x 46 n a hna hn hx w
  rw[hna,attrOk_some hn,may_is]
  have HE:Hid (∀ wx,Below w.heap.size w wx->Calls Tryz.prog 29 #[pvalL a0 v1 v2 v3 v4 v5 a6 a7 a8,.string n] wx fun e w'=>e=.returned (.bool (decide (bl n∈ss.map bl)))/\Below wx.heap.size wx w'):=hide (fun wx h=>pelem_any a0 v1 v2 v3 v4 v5 a6 a7 a8 n ss hl wx (hv.below h))
  have c3:=fun w=>pword_any a (by omega) w
  have c4:=fun w=>pnevA_any a w
  have f0:=eq_lit n [42]
  have HD:Hid (decide (bl n=[42]\/bl n∈ss.map bl)=(decide (bl n=[42]) || decide (bl n∈ss.map bl))):=hide (Bool.decide_or _ _)
  rw[HD.out]
  have HY:Hid (∀ wx,Below w.heap.size w wx->wx.cell? ⟨B,0,none⟩=some (.int .i64 a0)/\wx.cell? ⟨B,1,none⟩=some v1/\wx.cell? ⟨B,2,none⟩=some v2/\wx.cell? ⟨B,3,none⟩=some v3/\wx.cell? ⟨B,4,none⟩=some v4/\wx.cell? ⟨B,5,none⟩=some v5/\wx.cell? ⟨B,6,none⟩=some (.int .i64 a6)/\wx.cell? ⟨B,7,none⟩=some (.int .i64 a7)/\wx.cell? ⟨B,8,none⟩=some (.int .i64 a8)):=hide (fun wx h=>by
   have:=hbx.keep h
   exact⟨tag_cell this 0 _ rfl,tag_cell this 1 _ rfl,tag_cell this 2 _ rfl,tag_cell this 3 _ rfl,tag_cell this 4 _ rfl,tag_cell this 5 _ rfl,tag_cell this 6 _ rfl,tag_cell this 7 _ rfl,tag_cell this 8 _ rfl⟩)
  clear hna hn hsz hd hv hbx HD
  generalize decide (bl n∈ss.map bl)=t2 at HE ⊢
  generalize isWord (bl a)=t3 at c3 ⊢
  generalize nevA (bl a)=t4 at c4 ⊢
  generalize decide (bl n=[42])=t1 at f0 ⊢
  cases t1 with
  | true =>
   cases t3 with
   | false =>
    go_enter Tryz.func27,Tryz.ntmps27
    go_wp2_with fail
    refine (c1 _).mono ?_
    rintro e w1 ⟨rfl,hb1⟩
    go_wp2_with fail
    refine (c3 _).mono ?_
    rintro e w2 ⟨rfl,rfl⟩
    go_wp2_with fail
    go_ret
    exact⟨rfl,hb1⟩
   | true =>
    go_enter Tryz.func27,Tryz.ntmps27
    go_wp2_with fail
    refine (c1 _).mono ?_
    rintro e w1 ⟨rfl,hb1⟩
    go_wp2_with fail
    refine (c3 _).mono ?_
    rintro e w2 ⟨rfl,rfl⟩
    go_wp2_with fail
    refine (c4 _).mono ?_
    rintro e w2 ⟨rfl,rfl⟩
    go_wp2_with fail
    go_ret
    exact⟨by simp,hb1⟩
  | false =>
   cases t2 with
   | false =>
    go_enter Tryz.func27,Tryz.ntmps27
    go_wp2_with fail
    refine (c1 _).mono ?_
    rintro e w1 ⟨rfl,hb1⟩
    obtain⟨y0,y1,y2,y3,y4,y5,y6,y7,y8⟩:=HY.out _ hb1
    go_wp2_with fail
    refine (HE.out _ hb1).mono ?_
    rintro e w2 ⟨rfl,hb2⟩
    have HB:=hide (bel2 hb1 hb2)
    clear hb2 hb1 y0 y1 y2 y3 y4 y5 y6 y7 y8
    go_wp2_with fail
    go_ret
    exact⟨rfl,HB.out⟩
   | true =>
    cases t3 with
    | false =>
     go_enter Tryz.func27,Tryz.ntmps27
     go_wp2_with fail
     refine (c1 _).mono ?_
     rintro e w1 ⟨rfl,hb1⟩
     obtain⟨y0,y1,y2,y3,y4,y5,y6,y7,y8⟩:=HY.out _ hb1
     go_wp2_with fail
     refine (HE.out _ hb1).mono ?_
     rintro e w2 ⟨rfl,hb2⟩
     have HB:=hide (bel2 hb1 hb2)
     clear hb2 hb1 y0 y1 y2 y3 y4 y5 y6 y7 y8
     go_wp2_with fail
     refine (c3 _).mono ?_
     rintro e w2 ⟨rfl,rfl⟩
     go_wp2_with fail
     go_ret
     exact⟨rfl,HB.out⟩
    | true =>
     go_enter Tryz.func27,Tryz.ntmps27
     go_wp2_with fail
     refine (c1 _).mono ?_
     rintro e w1 ⟨rfl,hb1⟩
     obtain⟨y0,y1,y2,y3,y4,y5,y6,y7,y8⟩:=HY.out _ hb1
     go_wp2_with fail
     refine (HE.out _ hb1).mono ?_
     rintro e w2 ⟨rfl,hb2⟩
     have HB:=hide (bel2 hb1 hb2)
     clear hb2 hb1 y0 y1 y2 y3 y4 y5 y6 y7 y8
     go_wp2_with fail
     refine (c3 _).mono ?_
     rintro e w2 ⟨rfl,rfl⟩
     go_wp2_with fail
     refine (c4 _).mono ?_
     rintro e w2 ⟨rfl,rfl⟩
     go_wp2_with fail
     go_ret
     exact⟨by simp,HB.out⟩
 ·have c1:=fun w=>cut_none x 46 hd w
  rw[attrOk_none hd]
  clear hd hv hbx
  go_enter Tryz.func27,Tryz.ntmps27
  go_wp2_with fail
  refine (c1 _).mono ?_
  rintro e w1 ⟨rfl,hb1⟩
  go_wp2_with fail
  go_ret
  exact⟨rfl,hb1⟩
end Go.Proofs.YtkiofbikkhhdfabGreatDoor
