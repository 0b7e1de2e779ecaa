import Derived.Test.YtkiofbikkhhdfabGreatDoorK07
import Derived.Test.YtkiofbikkhhdfabGreatDoorK02
set_option maxHeartbeats 8000000
namespace Go.Proofs.YtkiofbikkhhdfabGreatDoor.Sy
open Go.RowKit
open Utf1 Sty
def okn (n:Nat):Bool:=decide ((97<=n/\n<=122)\/(48<=n/\n<=57)\/n=32\/n=35\/n=37\/n=46\/n=44\/n=45)
theorem may_any (n:Nat)(hn:n < 256) (w:World) :
  Calls Tryz.prog 148 #[.int .u8 (n:Int)] w fun e w'=>e=.returned (.bool (okn n))/\w'=w:=by
 rcases (show n=32\/n=35\/n=37\/n=46\/n=44\/n=45\/((0<=n/\n<=47)/\n≠32/\n≠35/\n≠37/\n≠46/\n≠44/\n≠45)\/((48<=n/\n<=57)/\n≠32/\n≠35/\n≠37/\n≠46/\n≠44/\n≠45)\/((58<=n/\n<=96)/\n≠32/\n≠35/\n≠37/\n≠46/\n≠44/\n≠45)\/((97<=n/\n<=122)/\n≠32/\n≠35/\n≠37/\n≠46/\n≠44/\n≠45)\/((123<=n/\n<=255)/\n≠32/\n≠35/\n≠37/\n≠46/\n≠44/\n≠45) from by omega) with h | h | h | h | h | h | h | h | h | h | h
 ·subst h
  have HN:Hid (okn 32=true):=hide (by decide)
  have ck:((32:Nat):Int)=32:=rfl
  rw[ck]
  clear ck hn
  go_enter Tryz.func148,Tryz.ntmps148
  go_wp2_with fail
  go_ret
  rw[HN.out]
  exact⟨rfl,rfl⟩
 ·subst h
  have HN:Hid (okn 35=true):=hide (by decide)
  have ck:((35:Nat):Int)=35:=rfl
  rw[ck]
  clear ck hn
  go_enter Tryz.func148,Tryz.ntmps148
  go_wp2_with fail
  go_ret
  rw[HN.out]
  exact⟨rfl,rfl⟩
 ·subst h
  have HN:Hid (okn 37=true):=hide (by decide)
  have ck:((37:Nat):Int)=37:=rfl
  rw[ck]
  clear ck hn
  go_enter Tryz.func148,Tryz.ntmps148
  go_wp2_with fail
  go_ret
  rw[HN.out]
  exact⟨rfl,rfl⟩
 ·subst h
  have HN:Hid (okn 46=true):=hide (by decide)
  have ck:((46:Nat):Int)=46:=rfl
  rw[ck]
  clear ck hn
  go_enter Tryz.func148,Tryz.ntmps148
  go_wp2_with fail
  go_ret
  rw[HN.out]
  exact⟨rfl,rfl⟩
 ·subst h
  have HN:Hid (okn 44=true):=hide (by decide)
  have ck:((44:Nat):Int)=44:=rfl
  rw[ck]
  clear ck hn
  go_enter Tryz.func148,Tryz.ntmps148
  go_wp2_with fail
  go_ret
  rw[HN.out]
  exact⟨rfl,rfl⟩
 ·subst h
  have HN:Hid (okn 45=true):=hide (by decide)
  have ck:((45:Nat):Int)=45:=rfl
  rw[ck]
  clear ck hn
  go_enter Tryz.func148,Tryz.ntmps148
  go_wp2_with fail
  go_ret
  rw[HN.out]
  exact⟨rfl,rfl⟩
 ·have HN:Hid (okn n=false):=hide (decide_eq_false (by omega))
  have e32:((n:Int)==32)=false:=beq_eq_false_iff_ne.2 (by omega)
  have e35:((n:Int)==35)=false:=beq_eq_false_iff_ne.2 (by omega)
  have e37:((n:Int)==37)=false:=beq_eq_false_iff_ne.2 (by omega)
  have e46:((n:Int)==46)=false:=beq_eq_false_iff_ne.2 (by omega)
  have e44:((n:Int)==44)=false:=beq_eq_false_iff_ne.2 (by omega)
  have e45:((n:Int)==45)=false:=beq_eq_false_iff_ne.2 (by omega)
  have g97:decide ((97:Int)<=(n:Int))=false:=decide_eq_false (by omega)
  have g48:decide ((48:Int)<=(n:Int))=false:=decide_eq_false (by omega)
  have l122:decide ((n:Int)<=122)=true:=decide_eq_true (by omega)
  have l57:decide ((n:Int)<=57)=true:=decide_eq_true (by omega)
  clear h hn
  go_enter Tryz.func148,Tryz.ntmps148
  go_wp2_with fail
  go_ret
  rw[HN.out]
  exact⟨rfl,rfl⟩
 ·have HN:Hid (okn n=true):=hide (decide_eq_true (by omega))
  have e32:((n:Int)==32)=false:=beq_eq_false_iff_ne.2 (by omega)
  have e35:((n:Int)==35)=false:=beq_eq_false_iff_ne.2 (by omega)
  have e37:((n:Int)==37)=false:=beq_eq_false_iff_ne.2 (by omega)
  have e46:((n:Int)==46)=false:=beq_eq_false_iff_ne.2 (by omega)
  have e44:((n:Int)==44)=false:=beq_eq_false_iff_ne.2 (by omega)
  have e45:((n:Int)==45)=false:=beq_eq_false_iff_ne.2 (by omega)
  have g97:decide ((97:Int)<=(n:Int))=false:=decide_eq_false (by omega)
  have g48:decide ((48:Int)<=(n:Int))=true:=decide_eq_true (by omega)
  have l122:decide ((n:Int)<=122)=true:=decide_eq_true (by omega)
  have l57:decide ((n:Int)<=57)=true:=decide_eq_true (by omega)
  clear h hn
  go_enter Tryz.func148,Tryz.ntmps148
  go_wp2_with fail
  go_ret
  rw[HN.out]
  exact⟨rfl,rfl⟩
 ·have HN:Hid (okn n=false):=hide (decide_eq_false (by omega))
  have e32:((n:Int)==32)=false:=beq_eq_false_iff_ne.2 (by omega)
  have e35:((n:Int)==35)=false:=beq_eq_false_iff_ne.2 (by omega)
  have e37:((n:Int)==37)=false:=beq_eq_false_iff_ne.2 (by omega)
  have e46:((n:Int)==46)=false:=beq_eq_false_iff_ne.2 (by omega)
  have e44:((n:Int)==44)=false:=beq_eq_false_iff_ne.2 (by omega)
  have e45:((n:Int)==45)=false:=beq_eq_false_iff_ne.2 (by omega)
  have g97:decide ((97:Int)<=(n:Int))=false:=decide_eq_false (by omega)
  have g48:decide ((48:Int)<=(n:Int))=true:=decide_eq_true (by omega)
  have l122:decide ((n:Int)<=122)=true:=decide_eq_true (by omega)
  have l57:decide ((n:Int)<=57)=false:=decide_eq_false (by omega)
  clear h hn
  go_enter Tryz.func148,Tryz.ntmps148
  go_wp2_with fail
  go_ret
  rw[HN.out]
  exact⟨rfl,rfl⟩
 ·have HN:Hid (okn n=true):=hide (decide_eq_true (by omega))
  have e32:((n:Int)==32)=false:=beq_eq_false_iff_ne.2 (by omega)
  have e35:((n:Int)==35)=false:=beq_eq_false_iff_ne.2 (by omega)
  have e37:((n:Int)==37)=false:=beq_eq_false_iff_ne.2 (by omega)
  have e46:((n:Int)==46)=false:=beq_eq_false_iff_ne.2 (by omega)
  have e44:((n:Int)==44)=false:=beq_eq_false_iff_ne.2 (by omega)
  have e45:((n:Int)==45)=false:=beq_eq_false_iff_ne.2 (by omega)
  have g97:decide ((97:Int)<=(n:Int))=true:=decide_eq_true (by omega)
  have g48:decide ((48:Int)<=(n:Int))=true:=decide_eq_true (by omega)
  have l122:decide ((n:Int)<=122)=true:=decide_eq_true (by omega)
  have l57:decide ((n:Int)<=57)=false:=decide_eq_false (by omega)
  clear h hn
  go_enter Tryz.func148,Tryz.ntmps148
  go_wp2_with fail
  go_ret
  rw[HN.out]
  exact⟨rfl,rfl⟩
 ·have HN:Hid (okn n=false):=hide (decide_eq_false (by omega))
  have e32:((n:Int)==32)=false:=beq_eq_false_iff_ne.2 (by omega)
  have e35:((n:Int)==35)=false:=beq_eq_false_iff_ne.2 (by omega)
  have e37:((n:Int)==37)=false:=beq_eq_false_iff_ne.2 (by omega)
  have e46:((n:Int)==46)=false:=beq_eq_false_iff_ne.2 (by omega)
  have e44:((n:Int)==44)=false:=beq_eq_false_iff_ne.2 (by omega)
  have e45:((n:Int)==45)=false:=beq_eq_false_iff_ne.2 (by omega)
  have g97:decide ((97:Int)<=(n:Int))=true:=decide_eq_true (by omega)
  have g48:decide ((48:Int)<=(n:Int))=true:=decide_eq_true (by omega)
  have l122:decide ((n:Int)<=122)=false:=decide_eq_false (by omega)
  have l57:decide ((n:Int)<=57)=false:=decide_eq_false (by omega)
  clear h hn
  go_enter Tryz.func148,Tryz.ntmps148
  go_wp2_with fail
  go_ret
  rw[HN.out]
  exact⟨rfl,rfl⟩
theorem okv_small {l:L}(h:l.length < 1):okv l=false:=by
 unfold okv
 rw[decide_eq_false (by omega)]
 rfl
theorem okv_big {l:L}(h:100 < l.length):okv l=false:=by
 unfold okv
 rw[decide_eq_false (by omega)]
 rfl
theorem okv_head {l:L}(h:l[0]?=some 32):okv l=false:=by
 unfold okv
 rw[decide_eq_false (by
  rintro ⟨_,_,h1,_⟩
  exact h1 (by rw[List.head?_eq_getElem?];exact h))]
 rfl
theorem okv_last {l:L}(h:l[l.length - 1]?=some 32):okv l=false:=by
 unfold okv
 rw[decide_eq_false (by
  rintro ⟨_,_,_,h1⟩
  exact h1 (by rw[List.getLast?_eq_getElem?];exact h))]
 rfl
theorem okv_bad {l:L}{k:Nat}{c:UInt8}(h:l[k]?=some c)(hc:okc c=false):okv l=false:=by
 unfold okv
 rw[Bool.and_eq_false_iff]
 right
 rw[List.all_eq_false]
 exact⟨c,List.mem_of_getElem? h,by rw[hc];decide⟩
theorem okv_good {l:L}{a b:UInt8}(h1:1<=l.length)(h2:l.length<=100)(ha:l[0]?=some a)(ha':a≠32)(hb:l[l.length - 1]?=some b)(hb':b≠32)(h:∀ j c,j < l.length->l[j]?=some c->okc c=true):okv l=true:=by
 unfold okv
 rw[Bool.and_eq_true,decide_eq_true_eq,List.all_eq_true]
 refine⟨⟨h1,h2,?_,?_⟩,?_⟩
 ·rw[List.head?_eq_getElem?,ha]
  intro e
  exact ha' (Option.some.inj e)
 ·rw[List.getLast?_eq_getElem?,hb]
  intro e
  exact hb' (Option.some.inj e)
 ·intro c hc
  obtain⟨j,hj,e⟩:=List.mem_iff_getElem.1 hc
  exact h j c hj (by rw[List.getElem?_eq_getElem hj,e])
theorem upto_more {l:L}{p:Nat}{c:UInt8}(h:l[p]?=some c)(hc:okc c=true)(hu:∀ j d,j < p->l[j]?=some d->okc d=true):∀ j d,j < p+1->l[j]?=some d->okc d=true:=by
 intro j d hj hd
 by_cases e:j=p
 ·subst e
  rw[h] at hd
  cases hd
  exact hc
 ·exact hu j d (by omega) hd
theorem value_any (s:ByteArray)(hs:s.size<=9223372036854775807) (w:World) :
  Calls Tryz.prog 138 #[.string s] w fun e w'=>e=.returned (.bool (okv (bl s)))/\w'=w:=by
 obtain⟨R,hR⟩:∃ R,R=okv (bl s):=⟨_,rfl⟩
 rw[<-hR]
 have HAL:=hide hR
 clear hR
 by_cases h1:s.size < 1
 ·have HN:Hid (R=false):=hide (by rw[HAL.out];exact okv_small (by rw[bl_len];exact h1))
  have d1:decide ((s.size:Int) < 1)=true:=decide_eq_true (by omega)
  clear HAL h1
  go_enter Tryz.func138,Tryz.ntmps138
  go_wp2_with fail
  go_ret
  rw[HN.out]
  exact⟨rfl,rfl⟩
 by_cases h2:100 < s.size
 ·have HN:Hid (R=false):=hide (by rw[HAL.out];exact okv_big (by rw[bl_len];exact h2))
  have d1:decide ((s.size:Int) < 1)=false:=decide_eq_false (by omega)
  have d2:decide ((100:Int) < (s.size:Int))=true:=decide_eq_true (by omega)
  clear HAL
  go_enter Tryz.func138,Tryz.ntmps138
  go_wp2_with fail
  go_ret
  rw[HN.out]
  exact⟨rfl,rfl⟩
 obtain⟨a,ha⟩:=getK s 0 (by omega)
 obtain⟨b,hb⟩:=getK s (s.size - 1) (by omega)
 have i0:∀ w,(Instr.index 9 (.string s) (.int .i64 (0:Int))).run Tryz.prog w=.ok (.int .u8 (a.toNat:Int)) w:=fun w=>idxK ha w
 have i1:∀ w,(Instr.index 9 (.string s) (.int .i64 ((s.size:Int) - 1))).run Tryz.prog w=.ok (.int .u8 (b.toNat:Int)) w:=fun w=>by
  have:=idxK hb w
  rw[show ((s.size - 1:Nat):Int)=(s.size:Int) - 1 by omega] at this
  exact this
 have d1:decide ((s.size:Int) < 1)=false:=decide_eq_false (by omega)
 have d2:decide ((100:Int) < (s.size:Int))=false:=decide_eq_false (by omega)
 have k0:((a.toNat:Int)==32)=decide (a=32):=beqK a 32 (by decide)
 have k1:((b.toNat:Int)==32)=decide (b=32):=beqK b 32 (by decide)
 have HA:=hide ha
 have HB:=hide hb
 clear ha hb
 by_cases e0:a=32
 ·rw[decide_eq_true e0] at k0
  have HN:Hid (R=false):=hide (by rw[HAL.out];exact okv_head (by rw[HA.out,e0]))
  generalize (a.toNat:Int)=z at i0 k0
  clear HAL HA HB i1 k1 e0
  go_enter Tryz.func138,Tryz.ntmps138
  go_wp2_with fail
  go_ret
  rw[HN.out]
  exact⟨rfl,rfl⟩
 rw[decide_eq_false e0] at k0
 by_cases e1:b=32
 ·rw[decide_eq_true e1] at k1
  have HN:Hid (R=false):=hide (by rw[HAL.out];exact okv_last (by rw[bl_len,HB.out,e1]))
  generalize (a.toNat:Int)=z at i0 k0
  generalize (b.toNat:Int)=y at i1 k1
  clear HAL HA HB e0 e1
  go_enter Tryz.func138,Tryz.ntmps138
  go_wp2_with fail
  go_ret
  rw[HN.out]
  exact⟨rfl,rfl⟩
 rw[decide_eq_false e1] at k1
 have HGOOD:Hid ((∀ j c,j < s.size->(bl s)[j]?=some c->okc c=true)->R=true):=hide (fun h=>by
  rw[HAL.out]
  exact okv_good (by rw[bl_len];omega) (by rw[bl_len];omega) HA.out e0 (by rw[bl_len];exact HB.out) e1 (by rw[bl_len];exact h))
 have HBAD:Hid (∀ j c,(bl s)[j]?=some c->okc c=false->R=false):=hide (fun j c h hc=>by
  rw[HAL.out]
  exact okv_bad h hc)
 generalize (a.toNat:Int)=z at i0 k0
 generalize (b.toNat:Int)=y at i1 k1
 clear HAL HA HB e0 e1
 go_enter Tryz.func138,Tryz.ntmps138
 go_wp2_with fail
 clear i0 i1 k0 k1 d1 d2
 go_loopg [27] s.size (fun g v wx=>wx=w/\∃ p:Nat,p+g=s.size/\v=.int .i64 (p:Int)/\Hid (∀ j c,j < p->(bl s)[j]?=some c->okc c=true))
 case atStart=>exact⟨rfl,0,by omega,rfl,hide (fun j z hj=>by omega)⟩
 case round =>
  obtain⟨rfl,p,hp,rfl,HU⟩:=hrel
  by_cases hlt:p < s.size
  ·obtain⟨c,hc⟩:=getK s p hlt
   have ip:=fun w=>idxK hc w
   have HOK:Hid (okc c=true->∀ j d,j < p+1->(bl s)[j]?=some d->okc d=true):=hide (fun h=>upto_more hc h HU.out)
   have HNO:Hid (okc c=false->R=false):=hide (HBAD.out p c hc)
   clear HBAD HU HGOOD hc
   have cm:=fun w=>may_any c.toNat c.toNat_lt w
   have HE:Hid (okc c=okn c.toNat):=hide rfl
   generalize (c.toNat:Int)=zc at ip cm
   cases hk:okn c.toNat with
   | true =>
    rw[hk] at cm
    have HU:=hide (HOK.out (by rw[HE.out];exact hk))
    clear HOK HNO HE hk
    go_wp2_with fail
    refine (cm _).mono ?_
    rintro e w1 ⟨rfl,rfl⟩
    go_wp2_with fail
    go_roundg (gk - 1)
    case measure=>omega
    case rel=>exact⟨rfl,p+1,by omega,by first | rfl | simp,HU⟩
   | false =>
    rw[hk] at cm
    have HN:=hide (HNO.out (by rw[HE.out];exact hk))
    clear HOK HNO HE hk
    go_wp2_with fail
    refine (cm _).mono ?_
    rintro e w1 ⟨rfl,rfl⟩
    go_wp2_with fail
    go_ret
    rw[HN.out]
    exact⟨rfl,rfl⟩
  ·have HN:Hid (R=true):=hide (HGOOD.out fun j c hj=>HU.out j c (by omega))
   clear HU HGOOD HBAD
   go_wp2_with fail
   go_ret
   rw[HN.out]
   exact⟨rfl,rfl⟩
end Go.Proofs.YtkiofbikkhhdfabGreatDoor.Sy
