import Derived.Test.YtkiofbikkhhdfaaGreatDoorK07
import Derived.Test.YtkiofbikkhhdfaaGreatDoorK04
import Derived.Shelf.Strings.SlTrimAscii
import Derived.Shelf.RegionOpenPlain
import Derived.Deep.CutBlock
import Derived.KernelRfl
import Derived.Maps.Own
import Derived.Maps.OwnOps
import Derived.Maps.Views
import Derived.OneCell
import Derived.Laws.OwnMore
import Derived.Lib.SlicesS
import Derived.Test.YtkiofbikkhhdfaaGreatDoorK05
import Derived.Deep.WholeRow
import Derived.Laws.Tables
import Derived.OwnWalk
namespace Go.Proofs.YtkiofbikkhhdfaaGreatDoor.Sy
open Go.RowKit
open Utf1 Sty
def okn (n:Nat):Bool:=decide ((97<=n/\n<=122)\/(48<=n/\n<=57)\/n=32\/n=35\/n=37\/n=46\/n=44\/n=45)
set_option maxHeartbeats 4000000 in
theorem may_any (n:Nat)(hn:n < 256) (w:World) :
  Calls Tryz.prog 206 #[.int .u8 (n:Int)] w fun e w'=>e=.returned (.bool (okn n))/\w'=w:=by
 rcases (show n=32\/n=35\/n=37\/n=46\/n=44\/n=45\/((0<=n/\n<=47)/\n≠32/\n≠35/\n≠37/\n≠46/\n≠44/\n≠45)\/((48<=n/\n<=57)/\n≠32/\n≠35/\n≠37/\n≠46/\n≠44/\n≠45)\/((58<=n/\n<=96)/\n≠32/\n≠35/\n≠37/\n≠46/\n≠44/\n≠45)\/((97<=n/\n<=122)/\n≠32/\n≠35/\n≠37/\n≠46/\n≠44/\n≠45)\/((123<=n/\n<=255)/\n≠32/\n≠35/\n≠37/\n≠46/\n≠44/\n≠45) from by omega) with h | h | h | h | h | h | h | h | h | h | h
 ·subst h
  have HN:Hid (okn 32=true):=hide (by decide)
  have ck:((32:Nat):Int)=32:=rfl
  rw[ck]
  clear ck hn
  go_enter Tryz.func206,Tryz.ntmps206
  go_wp2_with fail
  go_ret
  rw[HN.out]
  exact⟨rfl,rfl⟩
 ·subst h
  have HN:Hid (okn 35=true):=hide (by decide)
  have ck:((35:Nat):Int)=35:=rfl
  rw[ck]
  clear ck hn
  go_enter Tryz.func206,Tryz.ntmps206
  go_wp2_with fail
  go_ret
  rw[HN.out]
  exact⟨rfl,rfl⟩
 ·subst h
  have HN:Hid (okn 37=true):=hide (by decide)
  have ck:((37:Nat):Int)=37:=rfl
  rw[ck]
  clear ck hn
  go_enter Tryz.func206,Tryz.ntmps206
  go_wp2_with fail
  go_ret
  rw[HN.out]
  exact⟨rfl,rfl⟩
 ·subst h
  have HN:Hid (okn 46=true):=hide (by decide)
  have ck:((46:Nat):Int)=46:=rfl
  rw[ck]
  clear ck hn
  go_enter Tryz.func206,Tryz.ntmps206
  go_wp2_with fail
  go_ret
  rw[HN.out]
  exact⟨rfl,rfl⟩
 ·subst h
  have HN:Hid (okn 44=true):=hide (by decide)
  have ck:((44:Nat):Int)=44:=rfl
  rw[ck]
  clear ck hn
  go_enter Tryz.func206,Tryz.ntmps206
  go_wp2_with fail
  go_ret
  rw[HN.out]
  exact⟨rfl,rfl⟩
 ·subst h
  have HN:Hid (okn 45=true):=hide (by decide)
  have ck:((45:Nat):Int)=45:=rfl
  rw[ck]
  clear ck hn
  go_enter Tryz.func206,Tryz.ntmps206
  go_wp2_with fail
  go_ret
  rw[HN.out]
  exact⟨rfl,rfl⟩
 ·have HN:Hid (okn n=false):=hide (decide_eq_false (by omega))
  have e32:((n:Int)==32)=false:=beq_eq_false_iff_ne.2 (by omega)
  have e35:((n:Int)==35)=false:=beq_eq_false_iff_ne.2 (by omega)
  have e37:((n:Int)==37)=false:=beq_eq_false_iff_ne.2 (by omega)
  have e46:((n:Int)==46)=false:=beq_eq_false_iff_ne.2 (by omega)
  have e44:((n:Int)==44)=false:=beq_eq_false_iff_ne.2 (by omega)
  have e45:((n:Int)==45)=false:=beq_eq_false_iff_ne.2 (by omega)
  have g97:decide ((97:Int)<=(n:Int))=false:=decide_eq_false (by omega)
  have g48:decide ((48:Int)<=(n:Int))=false:=decide_eq_false (by omega)
  have l122:decide ((n:Int)<=122)=true:=decide_eq_true (by omega)
  have l57:decide ((n:Int)<=57)=true:=decide_eq_true (by omega)
  clear h hn
  go_enter Tryz.func206,Tryz.ntmps206
  go_wp2_with fail
  go_ret
  rw[HN.out]
  exact⟨rfl,rfl⟩
 ·have HN:Hid (okn n=true):=hide (decide_eq_true (by omega))
  have e32:((n:Int)==32)=false:=beq_eq_false_iff_ne.2 (by omega)
  have e35:((n:Int)==35)=false:=beq_eq_false_iff_ne.2 (by omega)
  have e37:((n:Int)==37)=false:=beq_eq_false_iff_ne.2 (by omega)
  have e46:((n:Int)==46)=false:=beq_eq_false_iff_ne.2 (by omega)
  have e44:((n:Int)==44)=false:=beq_eq_false_iff_ne.2 (by omega)
  have e45:((n:Int)==45)=false:=beq_eq_false_iff_ne.2 (by omega)
  have g97:decide ((97:Int)<=(n:Int))=false:=decide_eq_false (by omega)
  have g48:decide ((48:Int)<=(n:Int))=true:=decide_eq_true (by omega)
  have l122:decide ((n:Int)<=122)=true:=decide_eq_true (by omega)
  have l57:decide ((n:Int)<=57)=true:=decide_eq_true (by omega)
  clear h hn
  go_enter Tryz.func206,Tryz.ntmps206
  go_wp2_with fail
  go_ret
  rw[HN.out]
  exact⟨rfl,rfl⟩
 ·have HN:Hid (okn n=false):=hide (decide_eq_false (by omega))
  have e32:((n:Int)==32)=false:=beq_eq_false_iff_ne.2 (by omega)
  have e35:((n:Int)==35)=false:=beq_eq_false_iff_ne.2 (by omega)
  have e37:((n:Int)==37)=false:=beq_eq_false_iff_ne.2 (by omega)
  have e46:((n:Int)==46)=false:=beq_eq_false_iff_ne.2 (by omega)
  have e44:((n:Int)==44)=false:=beq_eq_false_iff_ne.2 (by omega)
  have e45:((n:Int)==45)=false:=beq_eq_false_iff_ne.2 (by omega)
  have g97:decide ((97:Int)<=(n:Int))=false:=decide_eq_false (by omega)
  have g48:decide ((48:Int)<=(n:Int))=true:=decide_eq_true (by omega)
  have l122:decide ((n:Int)<=122)=true:=decide_eq_true (by omega)
  have l57:decide ((n:Int)<=57)=false:=decide_eq_false (by omega)
  clear h hn
  go_enter Tryz.func206,Tryz.ntmps206
  go_wp2_with fail
  go_ret
  rw[HN.out]
  exact⟨rfl,rfl⟩
 ·have HN:Hid (okn n=true):=hide (decide_eq_true (by omega))
  have e32:((n:Int)==32)=false:=beq_eq_false_iff_ne.2 (by omega)
  have e35:((n:Int)==35)=false:=beq_eq_false_iff_ne.2 (by omega)
  have e37:((n:Int)==37)=false:=beq_eq_false_iff_ne.2 (by omega)
  have e46:((n:Int)==46)=false:=beq_eq_false_iff_ne.2 (by omega)
  have e44:((n:Int)==44)=false:=beq_eq_false_iff_ne.2 (by omega)
  have e45:((n:Int)==45)=false:=beq_eq_false_iff_ne.2 (by omega)
  have g97:decide ((97:Int)<=(n:Int))=true:=decide_eq_true (by omega)
  have g48:decide ((48:Int)<=(n:Int))=true:=decide_eq_true (by omega)
  have l122:decide ((n:Int)<=122)=true:=decide_eq_true (by omega)
  have l57:decide ((n:Int)<=57)=false:=decide_eq_false (by omega)
  clear h hn
  go_enter Tryz.func206,Tryz.ntmps206
  go_wp2_with fail
  go_ret
  rw[HN.out]
  exact⟨rfl,rfl⟩
 ·have HN:Hid (okn n=false):=hide (decide_eq_false (by omega))
  have e32:((n:Int)==32)=false:=beq_eq_false_iff_ne.2 (by omega)
  have e35:((n:Int)==35)=false:=beq_eq_false_iff_ne.2 (by omega)
  have e37:((n:Int)==37)=false:=beq_eq_false_iff_ne.2 (by omega)
  have e46:((n:Int)==46)=false:=beq_eq_false_iff_ne.2 (by omega)
  have e44:((n:Int)==44)=false:=beq_eq_false_iff_ne.2 (by omega)
  have e45:((n:Int)==45)=false:=beq_eq_false_iff_ne.2 (by omega)
  have g97:decide ((97:Int)<=(n:Int))=true:=decide_eq_true (by omega)
  have g48:decide ((48:Int)<=(n:Int))=true:=decide_eq_true (by omega)
  have l122:decide ((n:Int)<=122)=false:=decide_eq_false (by omega)
  have l57:decide ((n:Int)<=57)=false:=decide_eq_false (by omega)
  clear h hn
  go_enter Tryz.func206,Tryz.ntmps206
  go_wp2_with fail
  go_ret
  rw[HN.out]
  exact⟨rfl,rfl⟩
theorem okv_small {l:L}(h:l.length < 1):okv l=false:=by
 unfold okv
 rw[decide_eq_false (by omega)]
 rfl
theorem okv_big {l:L}(h:100 < l.length):okv l=false:=by
 unfold okv
 rw[decide_eq_false (by omega)]
 rfl
theorem okv_head {l:L}(h:l[0]?=some 32):okv l=false:=by
 unfold okv
 rw[decide_eq_false (by
  rintro ⟨_,_,h1,_⟩
  exact h1 (by rw[List.head?_eq_getElem?];exact h))]
 rfl
theorem okv_last {l:L}(h:l[l.length - 1]?=some 32):okv l=false:=by
 unfold okv
 rw[decide_eq_false (by
  rintro ⟨_,_,_,h1⟩
  exact h1 (by rw[List.getLast?_eq_getElem?];exact h))]
 rfl
theorem okv_bad {l:L}{k:Nat}{c:UInt8}(h:l[k]?=some c)(hc:okc c=false):okv l=false:=by
 unfold okv
 rw[Bool.and_eq_false_iff]
 right
 rw[List.all_eq_false]
 exact⟨c,List.mem_of_getElem? h,by rw[hc];decide⟩
theorem okv_good {l:L}{a b:UInt8}(h1:1<=l.length)(h2:l.length<=100)(ha:l[0]?=some a)(ha':a≠32)(hb:l[l.length - 1]?=some b)(hb':b≠32)(h:∀ j c,j < l.length->l[j]?=some c->okc c=true):okv l=true:=by
 unfold okv
 rw[Bool.and_eq_true,decide_eq_true_eq,List.all_eq_true]
 refine⟨⟨h1,h2,?_,?_⟩,?_⟩
 ·rw[List.head?_eq_getElem?,ha]
  intro e
  exact ha' (Option.some.inj e)
 ·rw[List.getLast?_eq_getElem?,hb]
  intro e
  exact hb' (Option.some.inj e)
 ·intro c hc
  obtain⟨j,hj,e⟩:=List.mem_iff_getElem.1 hc
  exact h j c hj (by rw[List.getElem?_eq_getElem hj,e])
theorem upto_more {l:L}{p:Nat}{c:UInt8}(h:l[p]?=some c)(hc:okc c=true)(hu:∀ j d,j < p->l[j]?=some d->okc d=true):∀ j d,j < p+1->l[j]?=some d->okc d=true:=by
 intro j d hj hd
 by_cases e:j=p
 ·subst e
  rw[h] at hd
  cases hd
  exact hc
 ·exact hu j d (by omega) hd
set_option maxHeartbeats 8000000 in
theorem value_any (s:ByteArray)(hs:s.size<=9223372036854775807) (w:World) :
  Calls Tryz.prog 194 #[.string s] w fun e w'=>e=.returned (.bool (okv (bl s)))/\w'=w:=by
 obtain⟨R,hR⟩:∃ R,R=okv (bl s):=⟨_,rfl⟩
 rw[<-hR]
 have HAL:=hide hR
 clear hR
 by_cases h1:s.size < 1
 ·have HN:Hid (R=false):=hide (by rw[HAL.out];exact okv_small (by rw[bl_len];exact h1))
  have d1:decide ((s.size:Int) < 1)=true:=decide_eq_true (by omega)
  clear HAL h1
  go_enter Tryz.func194,Tryz.ntmps194
  go_wp2_with fail
  go_ret
  rw[HN.out]
  exact⟨rfl,rfl⟩
 by_cases h2:100 < s.size
 ·have HN:Hid (R=false):=hide (by rw[HAL.out];exact okv_big (by rw[bl_len];exact h2))
  have d1:decide ((s.size:Int) < 1)=false:=decide_eq_false (by omega)
  have d2:decide ((100:Int) < (s.size:Int))=true:=decide_eq_true (by omega)
  clear HAL
  go_enter Tryz.func194,Tryz.ntmps194
  go_wp2_with fail
  go_ret
  rw[HN.out]
  exact⟨rfl,rfl⟩
 obtain⟨a,ha⟩:=getK s 0 (by omega)
 obtain⟨b,hb⟩:=getK s (s.size - 1) (by omega)
 have i0:∀ w,(Instr.index 9 (.string s) (.int .i64 (0:Int))).run Tryz.prog w=.ok (.int .u8 (a.toNat:Int)) w:=fun w=>idxK ha w
 have i1:∀ w,(Instr.index 9 (.string s) (.int .i64 ((s.size:Int) - 1))).run Tryz.prog w=.ok (.int .u8 (b.toNat:Int)) w:=fun w=>by
  have:=idxK hb w
  rw[show ((s.size - 1:Nat):Int)=(s.size:Int) - 1 by omega] at this
  exact this
 have d1:decide ((s.size:Int) < 1)=false:=decide_eq_false (by omega)
 have d2:decide ((100:Int) < (s.size:Int))=false:=decide_eq_false (by omega)
 have k0:((a.toNat:Int)==32)=decide (a=32):=beqK a 32 (by decide)
 have k1:((b.toNat:Int)==32)=decide (b=32):=beqK b 32 (by decide)
 have HA:=hide ha
 have HB:=hide hb
 clear ha hb
 by_cases e0:a=32
 ·rw[decide_eq_true e0] at k0
  have HN:Hid (R=false):=hide (by rw[HAL.out];exact okv_head (by rw[HA.out,e0]))
  generalize (a.toNat:Int)=z at i0 k0
  clear HAL HA HB i1 k1 e0
  go_enter Tryz.func194,Tryz.ntmps194
  go_wp2_with fail
  go_ret
  rw[HN.out]
  exact⟨rfl,rfl⟩
 rw[decide_eq_false e0] at k0
 by_cases e1:b=32
 ·rw[decide_eq_true e1] at k1
  have HN:Hid (R=false):=hide (by rw[HAL.out];exact okv_last (by rw[bl_len,HB.out,e1]))
  generalize (a.toNat:Int)=z at i0 k0
  generalize (b.toNat:Int)=y at i1 k1
  clear HAL HA HB e0 e1
  go_enter Tryz.func194,Tryz.ntmps194
  go_wp2_with fail
  go_ret
  rw[HN.out]
  exact⟨rfl,rfl⟩
 rw[decide_eq_false e1] at k1
 have HGOOD:Hid ((∀ j c,j < s.size->(bl s)[j]?=some c->okc c=true)->R=true):=hide (fun h=>by
  rw[HAL.out]
  exact okv_good (by rw[bl_len];omega) (by rw[bl_len];omega) HA.out e0 (by rw[bl_len];exact HB.out) e1 (by rw[bl_len];exact h))
 have HBAD:Hid (∀ j c,(bl s)[j]?=some c->okc c=false->R=false):=hide (fun j c h hc=>by
  rw[HAL.out]
  exact okv_bad h hc)
 generalize (a.toNat:Int)=z at i0 k0
 generalize (b.toNat:Int)=y at i1 k1
 clear HAL HA HB e0 e1
 go_enter Tryz.func194,Tryz.ntmps194
 go_wp2_with fail
 clear i0 i1 k0 k1 d1 d2
 go_loopg [27] s.size (fun g v wx=>wx=w/\∃ p:Nat,p+g=s.size/\v=.int .i64 (p:Int)/\Hid (∀ j c,j < p->(bl s)[j]?=some c->okc c=true))
 case atStart=>exact⟨rfl,0,by omega,rfl,hide (fun j z hj=>by omega)⟩
 case round =>
  obtain⟨rfl,p,hp,rfl,HU⟩:=hrel
  by_cases hlt:p < s.size
  ·obtain⟨c,hc⟩:=getK s p hlt
   have ip:=fun w=>idxK hc w
   have HOK:Hid (okc c=true->∀ j d,j < p+1->(bl s)[j]?=some d->okc d=true):=hide (fun h=>upto_more hc h HU.out)
   have HNO:Hid (okc c=false->R=false):=hide (HBAD.out p c hc)
   clear HBAD HU HGOOD hc
   have cm:=fun w=>may_any c.toNat c.toNat_lt w
   have HE:Hid (okc c=okn c.toNat):=hide rfl
   generalize (c.toNat:Int)=zc at ip cm
   cases hk:okn c.toNat with
   | true =>
    rw[hk] at cm
    have HU:=hide (HOK.out (by rw[HE.out];exact hk))
    clear HOK HNO HE hk
    go_wp2_with fail
    refine (cm _).mono ?_
    rintro e w1 ⟨rfl,rfl⟩
    go_wp2_with fail
    go_roundg (gk - 1)
    case measure=>omega
    case rel=>exact⟨rfl,p+1,by omega,by first | rfl | simp,HU⟩
   | false =>
    rw[hk] at cm
    have HN:=hide (HNO.out (by rw[HE.out];exact hk))
    clear HOK HNO HE hk
    go_wp2_with fail
    refine (cm _).mono ?_
    rintro e w1 ⟨rfl,rfl⟩
    go_wp2_with fail
    go_ret
    rw[HN.out]
    exact⟨rfl,rfl⟩
  ·have HN:Hid (R=true):=hide (HGOOD.out fun j c hj=>HU.out j c (by omega))
   clear HU HGOOD HBAD
   go_wp2_with fail
   go_ret
   rw[HN.out]
   exact⟨rfl,rfl⟩
end Go.Proofs.YtkiofbikkhhdfaaGreatDoor.Sy
namespace Go.Proofs.YtkiofbikkhhdfaaGreatDoor.Sy
open Go.RowKit
open Utf1 Sty
theorem trim_any (s:ByteArray)(hs:s.size<=9223372036854775807) (w:World) :
  Calls Tryz.prog 218 #[.string s,.string ⟨#[9,10,12,13,32]⟩] w fun e w'=>e=.returned (.string ⟨(Lib.trimS (bl s) cutset).toArray⟩)/\Below w.heap.size w w' :=
 Any.strings_Trim_laid Tryz.lays160 (by kernel_rfl) s ⟨#[9,10,12,13,32]⟩ w hs (by decide) (ascii_of_all (by decide))
theorem plain_any (s:ByteArray)(hs:s.size<=9223372036854775807) (w:World) :
  Calls Tryz.prog 205 #[.string s] w fun e w'=>e=.returned (.string ⟨(pl (bl s)).toArray⟩)/\Below w.heap.size w w':=by
 have c1:=fun w=>trim_any s hs w
 have c2:=fun w=>lower_any ⟨(Lib.trimS (bl s) cutset).toArray⟩ w
 have HE:Hid (pl (bl s)=lower (bl ⟨(Lib.trimS (bl s) cutset).toArray⟩)):=hide rfl
 rw[HE.out]
 generalize (⟨(lower (bl ⟨(Lib.trimS (bl s) cutset).toArray⟩)).toArray⟩:ByteArray)=B at c2
 generalize (⟨(Lib.trimS (bl s) cutset).toArray⟩:ByteArray)=A at c1 c2
 clear HE
 go_enter Tryz.func205,Tryz.ntmps205
 go_wp2_with fail
 refine (c1 _).mono ?_
 rintro e w1 ⟨rfl,hb1⟩
 go_wp2_with fail
 refine (c2 _).mono ?_
 rintro e w2 ⟨rfl,hb2⟩
 go_wp2_with fail
 go_ret
 exact⟨rfl,hb1.trans (hb2.mono hb1.size)⟩
theorem ib_some:∀ (a b:L) (c:UInt8),c ∉ a->Lib.indexByte (a++c :: b) c=(a.length:Int)
 | [],b,c,_=>by simp[Lib.indexByte]
 | x :: a,b,c,h=>by
  have hx:(x==c)=false:=beq_eq_false_iff_ne.2 (fun e=>h (by simp[e]))
  have ih:=ib_some a b c (fun e=>h (by simp[e]))
  rw[List.cons_append,Lib.indexByte,hx,ih]
  have:((a.length:Int)==-1)=false:=beq_eq_false_iff_ne.2 (by omega)
  rw[this]
  simp
theorem ib_none:∀ (a:L) (c:UInt8),c ∉ a->Lib.indexByte a c=-1
 | [],c,_=>rfl
 | x :: a,c,h=>by
  have hx:(x==c)=false:=beq_eq_false_iff_ne.2 (fun e=>h (by simp[e]))
  have ih:=ib_none a c (fun e=>h (by simp[e]))
  rw[Lib.indexByte,hx,ih]
  rfl
set_option maxHeartbeats 2000000 in
theorem lcut_none (s:ByteArray) (c:UInt8)(h:c ∉ bl s) (w:World) :
  Calls Tryz.prog 100 #[.string s,.string ⟨#[c]⟩] w fun e w'=>e=.returned (.tuple #[.string s,.string ⟨#[]⟩,.bool false])/\w'=w:=by
 have c1:=fun w=>Tryz.stringslite_Index_one s c w
 rw[ib_none _ c h] at c1
 clear h
 go_enter Tryz.func100,Tryz.ntmps100
 go_wp2_with fail
 refine (c1 _).mono ?_
 rintro e w1 ⟨rfl,rfl⟩
 go_wp2_with fail
 go_ret3
 exact⟨rfl,rfl⟩
set_option maxHeartbeats 2000000 in
theorem lcut_some (s:ByteArray) (c:UInt8) (A B:ByteArray)(h:bl s=bl A++c :: bl B)(hc:c ∉ bl A)(hs:s.size<=100000) (w:World) :
  Calls Tryz.prog 100 #[.string s,.string ⟨#[c]⟩] w fun e w'=>e=.returned (.tuple #[.string A,.string B,.bool true])/\Below w.heap.size w w':=by
 have c1:=fun w=>Tryz.stringslite_Index_one s c w
 rw[show s.data.toList=_ from h,ib_some _ _ c hc,bl_len] at c1
 have hsz:s.size=A.size+1+B.size:=by
  have:=congrArg List.length h
  rw[bl_len,List.length_append,List.length_cons,bl_len,bl_len] at this
  omega
 have HA:Hid (s.extract 0 A.size=A):=hide (by
  apply ba_ext
  rw[extract_bl,h]
  have:A.size=(bl A).length:=(bl_len A).symm
  rw[this]
  simp)
 have HB:Hid (s.extract (A.size+1) s.size=B):=hide (by
  apply ba_ext
  rw[extract_bl,h,List.drop_append,bl_len]
  rw[List.drop_eq_nil_of_le (by rw[bl_len];omega)]
  rw[show A.size+1 - A.size=1 by omega]
  simp
  rw[List.take_of_length_le (by rw[bl_len];omega)])
 have k0:(0:Int)<=(A.size:Int):=by omega
 have k1:(A.size:Int)<=(s.size:Int):=by omega
 have k2:(0:Int)<=(A.size:Int)+1:=by omega
 have k3:(A.size:Int)+1<=(s.size:Int):=by omega
 have hAs:A.size<=100000:=by omega
 have HS:=hide hsz
 clear h hc hsz
 have hA:=HA.out
 have hB:=HB.out
 go_enter Tryz.func100,Tryz.ntmps100
 go_wp2_with fail
 refine (c1 _).mono ?_
 rintro e w1 ⟨rfl,rfl⟩
 go_wp2_with fail
 go_region
 go_wp2
 go_ret3
 exact⟨rfl,(Below.refl _ _).drew⟩
set_option maxHeartbeats 2000000 in
theorem cut_none (s:ByteArray) (c:UInt8)(h:c ∉ bl s) (w:World) :
  Calls Tryz.prog 46 #[.string s,.string ⟨#[c]⟩] w fun e w'=>e=.returned (.tuple #[.string s,.string ⟨#[]⟩,.bool false])/\Below w.heap.size w w':=by
 have c1:=fun w=>lcut_none s c h w
 clear h
 go_enter Tryz.func46,Tryz.ntmps46
 go_wp2_with fail
 refine (c1 _).mono ?_
 rintro e w1 ⟨rfl,rfl⟩
 go_wp2_with fail
 go_ret3
 exact⟨rfl,Below.refl _ _⟩
set_option maxHeartbeats 2000000 in
theorem cut_some (s:ByteArray) (c:UInt8) (A B:ByteArray)(h:bl s=bl A++c :: bl B)(hc:c ∉ bl A)(hs:s.size<=100000) (w:World) :
  Calls Tryz.prog 46 #[.string s,.string ⟨#[c]⟩] w fun e w'=>e=.returned (.tuple #[.string A,.string B,.bool true])/\Below w.heap.size w w':=by
 have c1:=fun w=>lcut_some s c A B h hc hs w
 clear h hc
 go_enter Tryz.func46,Tryz.ntmps46
 go_wp2_with fail
 refine (c1 _).mono ?_
 rintro e w1 ⟨rfl,hb⟩
 go_wp2_with fail
 go_ret3
 exact⟨rfl,hb⟩
theorem split_at:∀ (l:L) (c:UInt8),c∈l->∃ a b,l=a++c :: b/\c ∉ a
 | [],c,h=>by simp at h
 | x :: l,c,h=>by
  by_cases e:x=c
  ·exact⟨[],l,by simp[e],by simp⟩
  ·rcases List.mem_cons.1 h with h | h
   ·exact absurd h.symm e
   ·obtain⟨a,b,rfl,hn⟩:=split_at l c h
    exact⟨x :: a,b,by simp,by simp[hn,Ne.symm e]⟩
theorem split_ba (s:ByteArray) (c:UInt8)(h:c∈bl s):∃ A B:ByteArray,bl s=bl A++c :: bl B/\c ∉ bl A:=by
 obtain⟨a,b,e,hn⟩:=split_at (bl s) c h
 exact⟨⟨a.toArray⟩,⟨b.toArray⟩,by simpa using e,by simpa using hn⟩
end Go.Proofs.YtkiofbikkhhdfaaGreatDoor.Sy
namespace Go.Proofs.YtkiofbikkhhdfaaGreatDoor.Sy
open Go.RowKit Go.WideMaps
open Utf1 Sty
theorem contains_any (X:ByteArray) (v:Value) (ss:List ByteArray)(hl:ss.length<=100000) (w:World)(hv:StrArg w v ss) :
  Calls Tryz.prog 101 #[v,.string X] w fun e w'=>e=.returned (.bool (decide (bl X∈ss.map bl)))/\w'=w:=by
 obtain⟨p,cap,rfl,-,hc⟩:=hv
 cases ss with
 | nil =>
  refine (Tryz.slices_Contains_string_empty p cap X w).mono ?_
  rintro e w' ⟨rfl,rfl⟩
  exact⟨by simp,rfl⟩
 | cons y r =>
  obtain⟨b,off,rfl,_⟩:=hc 0 y rfl
  have hcell:∀ j,j < (y :: r).length->w.cell? ⟨b,off+j,none⟩=some (.string ((y :: r).getD j ByteArray.empty)):=by
   intro j hj
   obtain⟨b',off',e,h⟩:=hc j ((y :: r)[j]) (List.getElem?_eq_getElem hj)
   injection e with e
   injection e with e1 e2
   subst e1
   subst e2
   rw[h,List.getD_eq_getElem?_getD,List.getElem?_eq_getElem hj]
   rfl
  refine (Tryz.slices_Contains_string b off (y :: r).length cap (y :: r) X w (Nat.le_refl _) (by omega) hcell).mono ?_
  rintro e w' ⟨rfl,rfl⟩
  refine⟨?_,rfl⟩
  congr 2
  rw[List.take_length]
  have h1:=Lib.containsS_iff (y :: r) X
  by_cases hm:X∈y :: r
  ·rw[h1.2 hm,decide_eq_true (List.mem_map_of_mem hm)]
  ·have:Lib.containsS (y :: r) X=false:=by
    cases h:Lib.containsS (y :: r) X
    ·rfl
    ·exact absurd (h1.1 h) hm
   rw[this,decide_eq_false]
   intro hx
   obtain⟨z,hz,e⟩:=List.mem_map.1 hx
   exact hm (by rw[<-ba_ext e];exact hz)
def rowV:List NV->List Value
 | []=>[]
 | x :: r=>.string ⟨x.1.toArray⟩ :: .string ⟨x.2.toArray⟩ :: rowV r
theorem rowV_app:∀ a b:List NV,rowV (a++b)=rowV a++rowV b
 | [],b=>rfl
 | x :: a,b=>by rw[List.cons_append,rowV,rowV,rowV_app a b];rfl
theorem rowV_at:∀ (a:List NV) (i:Nat) (x:NV),a[i]?=some x->(rowV a)[2*i]?=some (.string ⟨x.1.toArray⟩)/\(rowV a)[2*i+1]?=some (.string ⟨x.2.toArray⟩)
 | [],i,x,h=>by simp at h
 | y :: a,0,x,h=>by
  have:y=x:=by simpa using h
  subst this
  exact⟨rfl,rfl⟩
 | y :: a,i+1,x,h=>by
  have h':a[i]?=some x:=by simpa using h
  obtain⟨h1,h2⟩:=rowV_at a i x h'
  rw[rowV]
  refine⟨?_,?_⟩
  ·rw[show 2*(i+1)=2*i+1+1 by omega,List.getElem?_cons_succ,List.getElem?_cons_succ]
   exact h1
  ·rw[show 2*(i+1)+1=2*i+1+1+1 by omega,List.getElem?_cons_succ,List.getElem?_cons_succ]
   exact h2
def DOk (D:DataW Unit) (st:List NV):Prop:=∀ (i:Nat) (x:NV),st[i]?=some x->∃ j:Nat,D.atKey (.string x.1) (.lit (.int .i64 0))=.lit (.int .i64 (j:Int))/\i<=j/\∃ y,st[j]?=some y/\y.1=x.1
theorem DOk.nil (D:DataW Unit):DOk D []:=fun i x h=>by simp at h
theorem DOk.put {D:DataW Unit}{st:List NV}(h:DOk D st)(hD:Maps.IsMap D) (x:NV):DOk (D.put (.string x.1) (.lit (.int .i64 (st.length:Int)))) (st++[x]):=by
 have hx:(st++[x])[st.length]?=some x:=by simp
 intro i y hy
 by_cases e:y.1=x.1
 ·refine⟨st.length,?_,?_,x,hx,e.symm⟩
  ·rw[e]
   exact Maps.atKey_put_same hD (by simp[WideAt.IsKeyLit]) _ _
  ·have:=(List.getElem?_eq_some_iff.1 hy).1
   simp at this
   omega
 ·have hi:i < st.length:=by
   have:=(List.getElem?_eq_some_iff.1 hy).1
   simp at this
   rcases Nat.lt_or_ge i st.length with h1 | h1
   ·exact h1
   ·have:i=st.length:=by omega
    subst this
    rw[hx] at hy
    cases hy
    exact absurd rfl e
  rw[List.getElem?_append_left hi] at hy
  obtain⟨j,h1,h2,z,h3,h4⟩:=h i y hy
  refine⟨j,?_,h2,z,?_,h4⟩
  ·rw[Maps.atKey_put_other (fun e'=>e (by injection e')) _ _]
   exact h1
  ·rw[List.getElem?_append_left (List.getElem?_eq_some_iff.1 h3).1]
   exact h3
structure Inv (Hb:Nat) (v:Value) (st:List NV) (w:World):Prop where
 pb:w.heap[Hb]?=some (.cells #[v] 22 (0,0))
 sb:∃ u,w.heap[Hb+1]?=some (.cells #[u] 181 (0,0))/\w.ownsRow (Hb+4) 184 2 u st.length (rowV st)
 mb:w.heap[Hb+3]?=some (.cells #[.map (some (Hb+2))] 129 (0,0))
 mp:∃ D:DataW Unit,w.ownsMap Tryz.prog 9 (plainElem Tryz.prog 3) (Hb+2) st.length D/\Maps.IsMap D/\DOk D st
theorem Inv.lt {Hb:Nat}{v:Value}{st:List NV}{w:World}(h:Inv Hb v st w):Hb+4<=w.heap.size:=by have:=lt_of_block h.mb;omega
theorem Inv.keep {Hb:Nat}{v:Value}{st:List NV}{w w':World}(h:Inv Hb v st w)(hb:Below w.heap.size w w'):Inv Hb v st w':=by
 obtain⟨h1,⟨u,h2,h3⟩,h4,D,h5,h6⟩:=h
 exact⟨(hb.block _ (lt_of_block h1)).trans h1,⟨u,(hb.block _ (lt_of_block h2)).trans h2,h3.kept (row:=none) (below_grown hb) (Classical.em _)⟩,(hb.block _ (lt_of_block h4)).trans h4,D,h5.kept (below_grown hb) (by simp),h6⟩
theorem ownsMap_setCell_other {H:Type}{w:World}{P:Program}{k:TypeId}{R:Value->Option (DataW H × List MemPlace)}{b n:Nat}{D:DataW H}(h:w.ownsMap P k R b n D) {a:Addr}(ha:b≠a.block) (u:Value):(w.setCell a u).ownsMap P k R b n D:=by
 obtain⟨es,clock,hb,r⟩:=h
 exact⟨es,clock,by rw[Below.heap_setCell _ _ _ _ ha];exact hb,r⟩
end Go.Proofs.YtkiofbikkhhdfaaGreatDoor.Sy
namespace Go.Proofs.YtkiofbikkhhdfaaGreatDoor
open Go.RowKit
open Utf1 Pol8
abbrev plS:List ByteArray:=[⟨#[104,114,101,102]⟩,⟨#[115,114,99]⟩,⟨#[99,105,116,101]⟩,⟨#[97,99,116,105,111,110]⟩,⟨#[98,97,99,107,103,114,111,117,110,100]⟩,⟨#[108,111,110,103,100,101,115,99]⟩,⟨#[112,105,110,103]⟩,⟨#[112,111,115,116,101,114]⟩,⟨#[115,114,99,115,101,116]⟩,⟨#[117,115,101,109,97,112]⟩]
def plCells:Array Value:=#[.string ⟨#[104,114,101,102]⟩,.string ⟨#[115,114,99]⟩,.string ⟨#[99,105,116,101]⟩,.string ⟨#[97,99,116,105,111,110]⟩,.string ⟨#[98,97,99,107,103,114,111,117,110,100]⟩,.string ⟨#[108,111,110,103,100,101,115,99]⟩,.string ⟨#[112,105,110,103]⟩,.string ⟨#[112,111,115,116,101,114]⟩,.string ⟨#[115,114,99,115,101,116]⟩,.string ⟨#[117,115,101,109,97,112]⟩]
theorem wpList_loadV {P:Program}{ops:Array Oper}{rest:List Oper}{o:Oper}{a:Act}{w w':World}{Q:Exit->Act->World->Prop}(hg:o.guard=none) (t:TypeId) (x:Operand)(ho:o.op=.load t x) (v:Value)
  (hx:(Instr.loadAt t (a.eval x)).run P w=.ok v w')(h:wpList P ops Q rest (a.put o.dst v) w'):wpList P ops Q (o :: rest) a w :=
 wpList_plain hg fun K hK=>by
  unfold Oper.wp execOp
  simp only[ho,Sem.run_bind,hx,Result.andThen_ok]
  exact hK _ _ h
theorem pl_load (w:World):(Instr.loadAt 187 (.pointer (some ⟨w.heap.size,0,none⟩))).run Tryz.prog (w.alloc (.cells plCells 187))=.ok (.agg plCells) (w.alloc (.cells plCells 187)):=run_loadAt_new w 187 plCells 10 9 Tryz.underlying187 (by kernel_rfl)
theorem pl_index:∀ (k:Nat) (x:ByteArray) (_:plS[k]?=some x) (w:World),(Instr.index 187 (.agg plCells) (.int .i64 (k:Int))).run Tryz.prog w=.ok (.string x) w
 | 0,x,h,w=>by cases h;kernel_rfl
 | 1,x,h,w=>by cases h;kernel_rfl
 | 2,x,h,w=>by cases h;kernel_rfl
 | 3,x,h,w=>by cases h;kernel_rfl
 | 4,x,h,w=>by cases h;kernel_rfl
 | 5,x,h,w=>by cases h;kernel_rfl
 | 6,x,h,w=>by cases h;kernel_rfl
 | 7,x,h,w=>by cases h;kernel_rfl
 | 8,x,h,w=>by cases h;kernel_rfl
 | 9,x,h,w=>by cases h;kernel_rfl
 | k+10,x,h,_=>by simp at h
set_option maxHeartbeats 4000000 in
set_option maxRecDepth 100000 in
theorem pplace_any (n:ByteArray) (w:World) :
  Calls Tryz.prog 171 #[.string n] w fun e w'=>e=.returned (.bool (decide (bl n∈plS.map bl)))/\Below w.heap.size w w':=by
 obtain⟨R,hR⟩:∃ R,R=decide (bl n∈plS.map bl):=⟨_,rfl⟩
 rw[<-hR]
 have HR:=hide hR
 clear hR
 go_enter Tryz.func171,Tryz.ntmps171
 go_upto_region 2 with fail
 have hix:=pl_index
 have hld:=pl_load w
 obtain⟨N,hN⟩:∃ N:Array Value,N=plCells:=⟨_,rfl⟩
 have hN':N=#[.string ⟨#[104,114,101,102]⟩,.string ⟨#[115,114,99]⟩,.string ⟨#[99,105,116,101]⟩,.string ⟨#[97,99,116,105,111,110]⟩,.string ⟨#[98,97,99,107,103,114,111,117,110,100]⟩,.string ⟨#[108,111,110,103,100,101,115,99]⟩,.string ⟨#[112,105,110,103]⟩,.string ⟨#[112,111,115,116,101,114]⟩,.string ⟨#[115,114,99,115,101,116]⟩,.string ⟨#[117,115,101,109,97,112]⟩]:=hN
 rw[<-hN']
 rw[<-hN] at hix hld
 clear hN hN'
 obtain⟨W,hW⟩:∃ W,W=w.alloc (.cells N 187):=⟨_,rfl⟩
 have HB:Hid (Below w.heap.size w W):=hide (by rw[hW];exact bel_alloc (Below.refl _ _) _)
 rw[<-hW] at hld ⊢
 clear hW
 go_step
 refine wpList_loadV rfl 187 (Operand.tmp 3) rfl (.agg N) hld ?_
 simp only[Act.put]
 clear hld
 go_wp2_with fail
 go_loopg [8] 10 (fun g v wx=>wx=W/\∃ k:Nat,k+g=10/\v=.int .i64 (k:Int)/\Hid (∀ j x,j < k->plS[j]?=some x->bl n≠bl x))
 case atStart=>exact⟨rfl,0,by omega,rfl,hide (fun j x hj=>by omega)⟩
 case round =>
  obtain⟨rfl,k,hk,rfl,HU⟩:=hrel
  by_cases hlt:k < 10
  ·obtain⟨x,hx⟩:∃ x,plS[k]?=some x:=⟨_,List.getElem?_eq_getElem hlt⟩
   have hi:=fun w=>hix k x hx w
   have HX:=hide hx
   have heq:=eq_two x n
   clear hix hx
   by_cases e:bl x=bl n
   ·rw[decide_eq_true e] at heq
    have HN:Hid (R=true):=hide (by rw[HR.out];exact decide_eq_true (by rw[<-e];exact List.mem_map_of_mem (List.mem_of_getElem? HX.out)))
    clear e HR HU HX
    go_wp2_with fail
    go_ret
    rw[HN.out]
    exact⟨rfl,HB.out⟩
   ·rw[decide_eq_false e] at heq
    have HNE:=hide e
    clear e
    go_wp2_with fail
    go_roundg (10 - k - 1)
    case measure=>omega
    case rel=>exact⟨rfl,k+1,by omega,by first | rfl | simp,hide (fun j y hj hy=>by
     by_cases e:j=k
     ·subst e
      rw[HX.out] at hy
      cases hy
      exact fun h=>HNE.out h.symm
     ·exact HU.out j y (by omega) hy)⟩
  ·have HN:Hid (R=false):=hide (by
    rw[HR.out]
    refine decide_eq_false (fun h=>?_)
    obtain⟨y,hy,e⟩:=List.mem_map.1 h
    obtain⟨j,hj⟩:=List.getElem?_of_mem hy
    exact HU.out j y (by have:j < 10:=(List.getElem?_eq_some_iff.1 hj).1;omega) hj e.symm)
   clear HR HU hix
   go_wp2_with fail
   go_ret
   rw[HN.out]
   exact⟨rfl,HB.out⟩
end Go.Proofs.YtkiofbikkhhdfaaGreatDoor
namespace Go.Proofs.YtkiofbikkhhdfaaGreatDoor.Sy
open Go.RowKit Go.WideMaps
open Utf1 Sty
theorem infoSet:(Tryz.prog.info? 184).map (fun i=>(i.zero,i.size,i.bytes))=some (some (.agg #[.string ⟨#[]⟩,.string ⟨#[]⟩]),2,32):=by kernel_rfl
theorem two_new (w:World) (a b:Value) (t:TypeId):∀ j u,[a,b][j]?=some u->(w.alloc (.cells #[a,b] t)).cell? ((⟨w.heap.size,0,none⟩:Addr).add j)=some u:=by
 intro j u h
 rw[add_plain,Nat.zero_add]
 match j,h with
 | 0,h=>simp at h;subst h;simp
 | 1,h=>simp at h;subst h;simp
 | j+2,h=>simp at h
theorem inv_push {Hb:Nat}{v u u':Value}{st:List NV}{D:DataW Unit}{w w1 w2:World}(x:NV) (tmp:Obj)
  (hpb:w.heap[Hb]?=some (.cells #[v] 22 (0,0)))(hmb:w.heap[Hb+3]?=some (.cells #[.map (some (Hb+2))] 129 (0,0)))
  (hsb:w.heap[Hb+1]?=some (.cells #[u] 181 (0,0)))(hown:w.ownsRow (Hb+4) 184 2 u st.length (rowV st))
  (hD:Maps.IsMap D)(hok:DOk D st)
  (hmap1:w1.ownsMap Tryz.prog 9 (plainElem Tryz.prog 3) (Hb+2) (st.length+1) (D.put (.string x.1) (.lit (.int .i64 (st.length:Int)))))(hg1:w.grownBy w1 (some (Hb+2)))
  (hown2:w2.ownsRow (Hb+4) 184 2 u' (st.length+1) (rowV st++[.string ⟨x.1.toArray⟩,.string ⟨x.2.toArray⟩]))(hg2:(w1.alloc tmp).grownBy w2 u.ownBlock) :
  (∃ g c,u'=.slice (some ⟨g,0,none⟩) (st.length+1) c)/\w2.cell? ⟨Hb+1,0,none⟩=some u/\w2.frozen? ⟨Hb+1,0,none⟩=false/\Inv Hb v (st++[x]) (w2.setCell ⟨Hb+1,0,none⟩ u')/\Below Hb w (w2.setCell ⟨Hb+1,0,none⟩ u'):=by
 have hlt:=lt_of_block hmb
 have hne:∀ k,k < Hb+4->some k≠u.ownBlock:=fun k hk e=>by
  rcases hown.2 with⟨rfl,_⟩ | ⟨g,cap,cur,rfl,hg,hh,_⟩
  ·simp[Value.ownBlock] at e
  ·simp only[Value.ownBlock,Option.some.injEq] at e
   omega
 have keep1:∀ k,k < w.heap.size->k≠Hb+2->w1.heap[k]?=w.heap[k]?:=fun k hk h=>hg1.block k hk (by intro e;injection e with e;exact h e)
 have hs1:=hg1.size
 have keep2:∀ k,k < Hb+4->k < w1.heap.size->w2.heap[k]?=w1.heap[k]?:=fun k hk hk' =>
  (hg2.block k (by simp;omega) (hne k hk)).trans (Below.heap_alloc _ _ _ hk')
 have hpb2:w2.heap[Hb]?=some (.cells #[v] 22 (0,0)):=(keep2 Hb (by omega) (by omega)).trans ((keep1 Hb (by omega) (by omega)).trans hpb)
 have hsb2:w2.heap[Hb+1]?=some (.cells #[u] 181 (0,0)):=(keep2 (Hb+1) (by omega) (by omega)).trans ((keep1 (Hb+1) (by omega) (by omega)).trans hsb)
 have hmb2:w2.heap[Hb+3]?=some (.cells #[.map (some (Hb+2))] 129 (0,0)):=(keep2 (Hb+3) (by omega) (by omega)).trans ((keep1 (Hb+3) (by omega) (by omega)).trans hmb)
 have hne':u'.ownBlock≠some (Hb+1):=fun e=>by
  rcases hown2.2 with⟨rfl,_⟩ | ⟨g,cap,cur,rfl,hg,hh,_⟩
  ·simp[Value.ownBlock] at e
  ·simp only[Value.ownBlock,Option.some.injEq] at e
   omega
 have hex:∃ g c,u'=.slice (some ⟨g,0,none⟩) (st.length+1) c:=by
  rcases hown2.2 with⟨_,h0⟩ | ⟨g',cap',_,h,_⟩
  ·omega
  ·exact⟨g',cap',h⟩
 refine⟨hex,cell_of_one hsb2,free_of_one hsb2,⟨?_,⟨u',one_setCell hsb2,?_⟩,?_,?_⟩,?_⟩
 ·exact (Below.heap_setCell _ _ _ _ (by show Hb≠Hb+1;omega)).trans hpb2
 ·have:=ownsRow_setCell_other hown2 (a:=⟨Hb+1,0,none⟩) hne' u'
  rw[rowV_app,List.length_append]
  exact this
 ·exact (Below.heap_setCell _ _ _ _ (by show Hb+3≠Hb+1;omega)).trans hmb2
 ·refine⟨_,?_,hD.put _ _,hok.put hD x⟩
  rw[List.length_append]
  exact ownsMap_setCell_other ((hmap1.alloc tmp).kept hg2 (hne (Hb+2) (by omega))) (by show Hb+2≠Hb+1;omega) _
 ·have b1:Below Hb w w1:=(Below.refl Hb w).grown hg1 (by omega) (fun j hj=>by injection hj with hj;omega)
  exact ((b1.alloc (by omega) tmp).grown hg2 (by simp;omega) (fun k hk=>by
   rcases Nat.lt_or_ge k (Hb+4) with h | h
   ·exact absurd hk.symm (hne k h)
   ·omega)).setCell (by show Hb<=Hb+1;omega) _
set_option maxRecDepth 100000 in
set_option maxHeartbeats 4000000 in
theorem tell_any (Hb:Nat) (v:Value) (ss:List ByteArray) (st:List NV) (N V:ByteArray) (w:World)(hi:Inv Hb v st w)(hv:StrArg w v ss)(hN:N.size<=100000)(hV:V.size<=100000)(hst:st.length<=100000)(hl:ss.length<=100000) :
  Calls Tryz.prog 193 #[.string N,.string V,.pointer (some ⟨Hb,0,none⟩),.pointer (some ⟨Hb+1,0,none⟩),.pointer (some ⟨Hb+3,0,none⟩)] w fun e w'=>e=.returned (.tuple #[])/\Inv Hb v (st++[(bl N,bl V)].filter (keep (ss.map bl))) w'/\Below Hb w w':=by
 have c1:=fun w=>value_any V (by omega) w
 have c2:∀ wx,wx=w->Calls Tryz.prog 101 #[v,.string N] wx fun e w'=>e=.returned (.bool (decide (bl N∈ss.map bl)))/\w'=wx:=fun wx hx=>by subst hx;exact contains_any N v ss hl _ hv
 obtain⟨R1,hR1⟩:∃ R,R=okv (bl V):=⟨_,rfl⟩
 obtain⟨R2,hR2⟩:∃ R,R=decide (bl N∈ss.map bl):=⟨_,rfl⟩
 rw[<-hR1] at c1
 rw[<-hR2] at c2
 have HK:Hid (keep (ss.map bl) (bl N,bl V)=(R2 && R1)):=hide (by unfold keep;rw[hR1,hR2])
 clear hR1 hR2
 have HC2:=hide c2
 clear c2
 have hi0:=hi
 obtain⟨hpb,⟨u,hsb,hown⟩,hmb,D,hmap,hD,hok⟩:=hi
 have cP:=cell_of_one hpb
 have cS:=cell_of_one hsb
 have cM:=cell_of_one hmb
 have HI:=hide hi0
 clear hi0
 cases R1 with
 | false =>
  have HF:Hid (st++[(bl N,bl V)].filter (keep (ss.map bl))=st):=hide (by rw[List.filter_cons,HK.out];simp)
  clear HK HC2 hpb hsb hmb hmap hD hok hown
  rw[HF.out]
  go_enter Tryz.func193,Tryz.ntmps193
  go_wp2_with fail
  refine (c1 _).mono ?_
  rintro e w1 ⟨rfl,rfl⟩
  go_wp2_with fail
  go_end0
  exact⟨rfl,HI.out,Below.refl _ _⟩
 | true =>
  cases R2 with
  | false =>
   have HF:Hid (st++[(bl N,bl V)].filter (keep (ss.map bl))=st):=hide (by rw[List.filter_cons,HK.out];simp)
   clear HK hpb hsb hmb hmap hD hok hown
   rw[HF.out]
   go_enter Tryz.func193,Tryz.ntmps193
   go_wp2_with fail
   refine (c1 _).mono ?_
   rintro e w1 ⟨rfl,rfl⟩
   go_wp2_with fail
   refine (HC2.out _ rfl).mono ?_
   rintro e w1 ⟨rfl,rfl⟩
   go_wp2_with fail
   go_end0
   exact⟨rfl,HI.out,Below.refl _ _⟩
  | true =>
   have HF:Hid (st++[(bl N,bl V)].filter (keep (ss.map bl))=st++[(bl N,bl V)]):=hide (by rw[List.filter_cons,HK.out];simp)
   rw[HF.out]
   clear HF HK HI
   have hkey:keyOf Tryz.prog 9 (.string N)=some (.string (bl N)):=keyOf_string_mk Tryz.underlying9 (by unfold maxLen;omega)
   obtain⟨i0,hi,hz0,hz1,hz2⟩:=info_parts infoSet
   obtain⟨sp,sc,rfl⟩:∃ sp sc,u=.slice sp st.length sc:=by
    rcases hown.2 with⟨rfl,h0⟩ | ⟨g,cap,cur,rfl,_⟩
    ·exact⟨none,0,by rw[h0]⟩
    ·exact⟨_,_,rfl⟩
   have HPB:=hide hpb
   have HSB:=hide hsb
   have HMB:=hide hmb
   have HOW:=hide hown
   have HD:=hide hD
   have HOK:=hide hok
   obtain⟨n,hn⟩:∃ n,n=st.length:=⟨_,rfl⟩
   have HN:=hide hn
   rw[<-hn] at hst cS hmap
   have HMAP:=hide hmap
   clear hpb hsb hmb hown hD hok hn hmap
   go_enter Tryz.func193,Tryz.ntmps193
   go_wp2_with fail
   refine (c1 _).mono ?_
   rintro e w1 ⟨rfl,rfl⟩
   go_wp2_with fail
   refine (HC2.out _ rfl).mono ?_
   rintro e w1 ⟨rfl,rfl⟩
   clear HC2 c1
   go_wp2_with (at_mapUpdate;refine wpList_mapUpdate_own _ rfl _ _ _ 129 rfl 9 3 (Maps.string_keyed Tryz.underlying9) Tryz.underlying129 _ (Hb+2) n _ rfl HMAP.out (by unfold maxLen;omega) _ _ _ rfl rfl hkey _ [] (plainElem_int Tryz.underlying3 (WalkArith.wf_i64 (by omega))) ?_)
   intro w2 hmap1 hg1
   have HM1:=hide hmap1
   have HG1:=hide hg1
   have cS1:w2.cell? ⟨Hb+1,0,none⟩=some (.slice sp n sc):=by
    rw[HN.out]
    exact cell_of_one ((hg1.block (Hb+1) (lt_of_block HSB.out) (fun e=>by have:=Option.some.inj e;omega)).trans HSB.out)
   clear hmap1 hg1 cS cM cP hkey HMAP
   have HOW1:Hid ((w2.alloc (.cells #[.string N,.string V] 184)).ownsRow (Hb+4) 184 2 (.slice sp n sc) n (rowV st)):=hide (by
    rw[HN.out]
    refine (HOW.out.kept HG1.out ?_).alloc _
    rcases HOW.out.2 with⟨e,_⟩ | ⟨g,cap,cur,e,hg,_⟩
    ·left;rw[e];rfl
    ·right;rw[e];intro h;simp only[Value.ownBlock,Option.some.injEq] at h;omega)
   have HSZ:Hid (Hb+4<=(w2.alloc (.cells #[.string N,.string V] 184)).heap.size):=hide (by
    have h1:=lt_of_block HMB.out
    have h2:=HG1.out.size
    simp
    omega)
   go_wp2_with (at_builtin;refine wpList_append_own _ rfl _ _ 181 rfl (Hb+4) 184 i0 _ 2 32 Tryz.underlying181 hi hz0 hz1 hz2 rfl (by decide) (.slice sp n sc) n (rowV st) rfl HOW1.out ⟨w2.heap.size,0,none⟩ 1 1 [.string N,.string V] rfl rfl (two_new _ _ _ _) (by simp[Value.oneCell']) (by unfold maxLen;omega) (by omega) HSZ.out ?_)
   intro u' w3 hown3 hg3 _
   have HP:=hide (inv_push (v:=v) (bl N,bl V) _ HPB.out HMB.out HSB.out HOW.out HD.out HOK.out (by rw[<-HN.out];exact HM1.out) HG1.out (u':=u') (w2:=w3) (by rw[<-HN.out];exact hown3) (by rw[<-HN.out];exact hg3))
   clear hown3 hg3
   obtain⟨⟨g,c,hu⟩,cS3,fS3,-⟩:=HP.out
   rw[<-HN.out] at hu cS3
   subst hu
   go_wp2_with fail
   go_end0
   exact⟨rfl,HP.out.2.2.2⟩
end Go.Proofs.YtkiofbikkhhdfaaGreatDoor.Sy
namespace Go.Proofs.YtkiofbikkhhdfaaGreatDoor
open Go.RowKit
open Utf1 Pol8
end Go.Proofs.YtkiofbikkhhdfaaGreatDoor
