import Derived.Test.YtkiofbikkhhdfabGreatDoorK18
import Derived.Test.YtkiofbikkhhdfabGreatDoorK13
import Derived.OneCell
import Derived.Test.YtkiofbikkhhdfabGreatDoorK19
import Derived.Test.YtkiofbikkhhdfabGreatDoorK06
import Derived.Test.YtkiofbikkhhdfabGreatDoorN10
set_option maxRecDepth 100000
set_option maxHeartbeats 16000000
namespace Go.Proofs.YtkiofbikkhhdfabGreatDoor
open Go.RowKit
open Utf1 Pol8
theorem pfind1_any (B:Nat) (n k x:ByteArray) (w:World)(hb:w.heap[B]?=some (.cells #[.string n] 9 (0,0))) :
  Calls Tryz.prog 125 #[.agg #[.string k,.string x],.pointer (some ⟨B,0,none⟩)] w fun e w'=>e=.returned (.bool (decide (bl k=bl n)))/\Below w.heap.size w w':=by
 obtain⟨w1,hw1⟩:∃ w1,w1=w.alloc (.cells #[.string k,.string x] 108):=⟨_,rfl⟩
 have hbel:Below w.heap.size w w1:=by rw[hw1];exact bel_alloc (Below.refl _ _) _
 have y0:w1.cell? ⟨w.heap.size,0,none⟩=some (.string k):=by rw[hw1];exact tag_cell (new_block _ _ _) 0 _ rfl
 have yB:w1.cell? ⟨B,0,none⟩=some (.string n):=cell_keep (tag_cell hb 0 _ rfl) hbel
 have HB:=hide hbel
 have heq:=eq_two k n
 generalize decide (bl k=bl n)=r at heq
 clear hbel hb
 go_enter Tryz.func125,Tryz.ntmps125
 go_upto_region 1 with fail
 rw[<-hw1]
 clear hw1
 go_wp2_with fail
 go_ret
 exact⟨rfl,HB.out⟩
def TellsA (g:Nat) (lb:Array Value) (n:L) (w:World):Prop :=
 ∀ (W:World) (k x:ByteArray),Below w.heap.size w W->Calls Tryz.prog g (#[.agg #[.string k,.string x]]++lb) W fun e w'=>e=.returned (.bool (decide (bl k=n)))/\Below W.heap.size W w'
theorem pindex_any (g:Nat) (lb:Array Value) (eg:∀ args w,(callFunc g args).run Tryz.prog w=.ok (.enter g args) w) (n:L) (ap:Option Addr) (am ac:Nat) (at':Saf.At) (w:World)(har:Dm.ARow w ap am at')(hp:TellsA g lb n w) :
  Calls Tryz.prog 124 #[.slice ap am ac,.func (.func g) #[] lb] w fun e w'=>e=.returned (.int .i64 (Saf.fi n at'))/\Below w.heap.size w w':=by
 obtain⟨R,hR⟩:∃ R,R=Saf.fi n at':=⟨_,rfl⟩
 rw[<-hR]
 have HAL:=hide hR
 have HAR:=hide har
 have HP:=hide hp
 have hm:=har.1.2
 have HML:=hide har.1.1
 clear hR hp har
 go_enter Tryz.func124,Tryz.ntmps124
 go_wp2_with fail
 go_loopg [8] am (fun gg v wx=>∃ i:Nat,i+gg=am/\v=.int .i64 (i:Int)/\Hid (Below w.heap.size w wx/\∀ (j:Nat) (x:L × L),j < i->at'[j]?=some x->x.1≠n))
 case atStart=>exact⟨0,by omega,rfl,hide ⟨Below.refl _ _,fun j z hj=>by omega⟩⟩
 case round =>
  obtain⟨i,hi,rfl,HU⟩:=hrel
  by_cases hlt:i < am
  ·obtain⟨kv,hkv⟩:∃ kv,at'[i]?=some kv:=⟨_,List.getElem?_eq_getElem (by have:=HML.out;omega)⟩
   obtain⟨b,off,rfl,c0,c1,-,-⟩:=HAR.out.2 i kv hkv
   have c0:=cell_keep c0 HU.out.1
   have c1:=cell_keep c1 HU.out.1
   obtain⟨X1,hX1⟩:∃ X:ByteArray,X=⟨kv.1.toArray⟩:=⟨_,rfl⟩
   obtain⟨X2,hX2⟩:∃ X:ByteArray,X=⟨kv.2.toArray⟩:=⟨_,rfl⟩
   rw[<-hX1] at c0
   rw[<-hX2] at c1
   have hb1:bl X1=kv.1:=by rw[hX1]
   have cS:=HP.out wr X1 X2 HU.out.1
   rw[hb1] at cS
   have HKV:=hide hkv
   have HB:=hide HU.out.1
   clear hX1 hX2 hb1 hkv
   by_cases he:kv.1=n
   ·have HN:Hid (R=(i:Int)):=hide (by rw[HAL.out];exact Saf.fi_at at' n i kv HKV.out he HU.out.2)
    rw[decide_eq_true he] at cS
    clear he HU HAL HKV
    go_wp2_with (go_at_fn g;refine cS.mono ?_;rintro e W' ⟨rfl,hbc⟩)
    have HB2:=hide (bel2 HB.out (by assumption))
    go_ret
    rw[HN.out]
    exact⟨rfl,HB2.out⟩
   ·have HU2:Hid (∀ (j:Nat) (x:L × L),j < i+1->at'[j]?=some x->x.1≠n):=hide (fun j x hj hx=>by
     by_cases e:j=i
     ·subst e
      rw[HKV.out] at hx
      cases hx
      exact he
     ·exact HU.out.2 j x (by omega) hx)
    rw[decide_eq_false he] at cS
    clear he HU HAL HKV
    go_wp2_with (go_at_fn g;refine cS.mono ?_;rintro e W' ⟨rfl,hbc⟩)
    have HB2:=hide (bel2 HB.out (by assumption))
    go_roundg (gk - 1)
    case measure=>omega
    case rel=>exact⟨i+1,by omega,by first | rfl | simp,hide ⟨HB2.out,HU2.out⟩⟩
  ·have HN:Hid (R=-1):=hide (by
    rw[HAL.out]
    refine Saf.fi_none at' n ?_
    unfold Saf.hasB
    rw[List.any_eq_false]
    intro kv hkv
    obtain⟨j,hj⟩:=List.getElem?_of_mem hkv
    have:=HU.out.2 j kv (by have:=(List.getElem?_eq_some_iff.1 hj).1;have:=HML.out;omega) hj
    rw[decide_eq_false this]
    decide)
   have HB:=hide HU.out.1
   clear HAL HU
   go_wp2_with fail
   go_ret
   rw[HN.out]
   exact⟨rfl,HB.out⟩
theorem ent_find:∀ args w,(callFunc 125 args).run Tryz.prog w=.ok (.enter 125 args) w:=enters_of Tryz.func125 (by kernel_rfl) rfl
theorem pfind_any (ap:Option Addr) (am ac:Nat) (at':Saf.At) (n:ByteArray) (w:World)(har:Dm.ARow w ap am at') :
  Calls Tryz.prog 96 #[.slice ap am ac,.string n] w fun e w'=>e=.returned (.int .i64 (Saf.fi (bl n) at'))/\Below w.heap.size w w':=by
 have hmf:∀ (fn:Fn) (first cap:Array Value) (w:World),(Instr.makeFunc fn first cap).run Tryz.prog w=.ok (.func fn first cap) w:=fun _ _ _ _=>rfl
 obtain⟨w1,hw1⟩:∃ w1,w1=w.alloc (.cells #[.string n] 9):=⟨_,rfl⟩
 have hbel:Below w.heap.size w w1:=by rw[hw1];exact bel_alloc (Below.refl _ _) _
 have hblk:w1.heap[w.heap.size]?=some (.cells #[.string n] 9 (0,0)):=by rw[hw1];exact new_block _ _ _
 have C1:=hide (pindex_any 125 #[.pointer (some ⟨w.heap.size,0,none⟩)] ent_find (bl n) ap am ac at' w1 (har.below hbel) (fun W k x hW=>pfind1_any w.heap.size n k x W ((hW.block _ (lt_of_block hblk)).trans hblk)))
 have HB:=hide hbel
 generalize Saf.fi (bl n) at'=r at C1
 clear hbel hblk har
 go_enter Tryz.func96,Tryz.ntmps96
 go_upto_region 1 with fail
 rw[<-hw1]
 clear hw1
 go_wp2_with fail
 refine C1.out.mono ?_
 rintro e w2 ⟨rfl,h2⟩
 have HB2:=hide (bel2 HB.out h2)
 clear h2 C1
 go_wp2_with fail
 go_ret
 exact⟨rfl,HB2.out⟩
end Go.Proofs.YtkiofbikkhhdfabGreatDoor
namespace Go.Proofs.YtkiofbikkhhdfabGreatDoor
open Go.RowKit
open Utf1 Pol8
theorem prel_any (XN XT:ByteArray) (ap kp:Option Addr) (am ac km kc:Nat) (at':Saf.At) (w:World)(har:Dm.ARow w ap am at') :
  Calls Tryz.prog 57 #[.agg #[.string XN,.slice ap am ac,.string XT,.slice kp km kc]] w fun e w'=>e=.returned (.bool (!decide (bl XN=[97]) || Saf.relB at'))/\Below w.heap.size w w':=by
 obtain⟨R,hR⟩:∃ R,R=(!decide (bl XN=[97]) || Saf.relB at'):=⟨_,rfl⟩
 rw[<-hR]
 unfold Saf.relB at hR
 have hm:=har.1.2
 rw[<-har.1.1] at hR
 have HR:=hide hR
 have HAR:=hide har
 obtain⟨w1,hw1⟩:∃ w1,w1=w.alloc (.cells #[.string XN,.slice ap am ac,.string XT,.slice kp km kc] 80):=⟨_,rfl⟩
 have H1:Hid (BoxN w #[.string XN,.slice ap am ac,.string XT,.slice kp km kc] w1):=hide (by rw[hw1];exact BoxN.new _ _)
 have CH:Hid (∀ (n:ByteArray) wx,BoxN w #[.string XN,.slice ap am ac,.string XT,.slice kp km kc] wx->Calls Tryz.prog 96 #[.slice ap am ac,.string n] wx fun e w'=>e=.returned (.int .i64 (Saf.fi (bl n) at'))/\BoxN w #[.string XN,.slice ap am ac,.string XT,.slice kp km kc] w'):=hide (fun n wx h=>(pfind_any ap am ac at' n wx (HAR.out.below h.2)).mono fun _ w' ⟨h1,h2⟩=>⟨h1,h.keep h2⟩)
 have HY:Hid (∀ wx,BoxN w #[.string XN,.slice ap am ac,.string XT,.slice kp km kc] wx->wx.cell? ⟨w.heap.size,0,none⟩=some (.string XN)/\wx.cell? ⟨w.heap.size,1,none⟩=some (.slice ap am ac)/\wx.cell? ⟨w.heap.size,2,none⟩=some (.string XT)/\wx.cell? ⟨w.heap.size,3,none⟩=some (.slice kp km kc)):=hide (fun wx h=>⟨h.cell 0 _ rfl,h.cell 1 _ rfl,h.cell 2 _ rfl,h.cell 3 _ rfl⟩)
 have K1:=hide (CH.out ⟨#[104,114,101,102]⟩)
 have K2:=hide (CH.out ⟨#[114,101,108]⟩)
 rw[show bl (⟨#[104,114,101,102]⟩:ByteArray)=Saf.href from rfl] at K1
 rw[show bl (⟨#[114,101,108]⟩:ByteArray)=Saf.relN from rfl] at K2
 generalize Saf.fi Saf.href at'=r1 at K1 HR
 generalize Saf.fi Saf.relN at'=r2 at K2 HR
 have heq:=eq_lit XN [97]
 have hne:(XN.toList != [97])=!decide (bl XN=[97]):=by rw[<-heq];rfl
 generalize decide (bl XN=[97])=ta at heq hne HR
 clear har hR CH
 obtain⟨y0,y1,y2,y3⟩:=HY.out w1 H1.out
 go_enter Tryz.func57,Tryz.ntmps57
 go_upto_region 1 with fail
 rw[<-hw1]
 clear hw1
 cases ta with
 | false =>
  have HN:Hid (R=true):=hide (by rw[HR.out];rfl)
  clear HR
  go_wp2_with fail
  go_ret
  rw[HN.out]
  exact⟨rfl,H1.out.2⟩
 | true =>
  have HR:Hid (R=if r1 < 0 then decide (r2 < 0) else decide (r2=(am:Int) - 1)):=hide (by rw[HR.out];rfl)
  go_wp2_with fail
  refine (K2.out _ H1.out).mono ?_
  rintro e w2 ⟨rfl,h2⟩
  have H2:=hide h2
  clear h2 K2 H1 y0 y1 y2 y3
  obtain⟨y0,y1,y2,y3⟩:=HY.out w2 H2.out
  go_wp2_with fail
  refine (K1.out _ H2.out).mono ?_
  rintro e w3 ⟨rfl,h3⟩
  have H3:=hide h3
  clear h3 K1 H2 y0 y1 y2 y3
  obtain⟨y0,y1,y2,y3⟩:=HY.out w3 H3.out
  by_cases hr:r1 < 0
  ·have HN:Hid (R=decide (r2 < 0)):=hide (by rw[HR.out,if_pos hr])
   have hd:decide (r1 < 0)=true:=decide_eq_true hr
   clear HR
   go_wp2_with fail
   go_ret
   rw[HN.out]
   exact⟨rfl,H3.out.2⟩
  ·have HN:Hid (R=decide (r2=(am:Int) - 1)):=hide (by rw[HR.out,if_neg hr])
   have hd:decide (r1 < 0)=false:=decide_eq_false hr
   have hwk:IntKind.i64.wrap ((am:Int) - 1)=(am:Int) - 1:=IntWalk.i64_in _ (by omega)
   clear HR
   go_wp2_with fail
   go_ret
   rw[HN.out]
   exact⟨ret_bool (by first | rfl | (by_cases h:r2=(am:Int) - 1 <;> simp[h])),H3.out.2⟩
def BoxM (w:World) (A B:Array Value) (wx:World):Prop:=wx.heap[w.heap.size]?=some (.cells A 24 (0,0))/\wx.heap[w.heap.size+1]?=some (.cells B 80 (0,0))/\Below w.heap.size w wx
theorem BoxM.keep {w wx wy:World}{A B:Array Value}(h:BoxM w A B wx)(hb:Below wx.heap.size wx wy):BoxM w A B wy :=
 ⟨(hb.block _ (Array.getElem?_eq_some_iff.1 h.1).1).trans h.1,(hb.block _ (Array.getElem?_eq_some_iff.1 h.2.1).1).trans h.2.1,h.2.2.trans (hb.mono h.2.2.size)⟩
theorem BoxM.a {w wx:World}{A B:Array Value}(h:BoxM w A B wx) (i:Nat) (v:Value)(hv:A[i]?=some v):wx.cell? ⟨w.heap.size,i,none⟩=some v:=tag_cell h.1 i v hv
theorem BoxM.b {w wx:World}{A B:Array Value}(h:BoxM w A B wx) (i:Nat) (v:Value)(hv:B[i]?=some v):wx.cell? ⟨w.heap.size+1,i,none⟩=some v:=tag_cell h.2.1 i v hv
theorem BoxM.new (w:World) (A B:Array Value):BoxM w A B ((w.alloc (.cells A 24)).alloc (.cells B 80)):=by
 have s1:(w.alloc (.cells A 24)).heap.size=w.heap.size+1:=by simp
 have k2:=new_block (w.alloc (.cells A 24)) B 80
 rw[s1] at k2
 refine⟨?_,k2,bel_alloc (bel_alloc (Below.refl _ _) _) _⟩
 rw[Below.heap_alloc _ _ _ (by rw[s1];omega)]
 exact new_block _ _ _
theorem pstay_any (v1 v2 v3 v4 v5:Value) (p:Pol) (l1 l2 l3 l4 l5:List ByteArray)(hf:fits p) (XN XT:ByteArray) (ap kp:Option Addr) (am ac km kc:Nat) (at':Saf.At) (w:World)(hv:PolV w v1 v2 v3 v4 v5 p l1 l2 l3 l4 l5)(har:Dm.ARow w ap am at')(hXN:XN.size<=100000)(hz:∀ kv∈at',kv.1.length<=100000/\kv.2.length<=90000) :
  Calls Tryz.prog 56 #[pval p v1 v2 v3 v4 v5,.agg #[.string XN,.slice ap am ac,.string XT,.slice kp km kc]] w fun e w'=>e=.returned (.bool (at'.all fun kv=>Saf.valueB p (bl XN) kv.1 kv.2))/\Below w.heap.size w w':=by
 obtain⟨R,hR⟩:∃ R,R=(at'.all fun kv=>Saf.valueB p (bl XN) kv.1 kv.2):=⟨_,rfl⟩
 rw[<-hR]
 have HR:=hide hR
 have HAR:=hide har
 have HV:=hide hv
 have HF:=hide hf
 have HZ:=hide hz
 have HX:=hide hXN
 have hm:=har.1.2
 have HML:=hide har.1.1
 obtain⟨o1,k1,rfl,-,-⟩:=hv.s1
 obtain⟨o2,k2,rfl,-,-⟩:=hv.s2
 obtain⟨o3,k3,rfl,-,-⟩:=hv.s3
 obtain⟨o4,k4,rfl,-,-⟩:=hv.s4
 obtain⟨o5,k5,rfl,-,-⟩:=hv.s5
 clear hv hR har hf hz hXN
 obtain⟨w1,hw1⟩:∃ w1,w1=(w.alloc (.cells #[.int .i64 p.ep,.slice o1 (List.length l1) k1,.slice o2 (List.length l2) k2,.slice o3 (List.length l3) k3,.slice o4 (List.length l4) k4,.slice o5 (List.length l5) k5,.int .i64 p.dp,.int .i64 p.nd,.int .i64 p.bt] 24)).alloc (.cells #[.string XN,.slice ap am ac,.string XT,.slice kp km kc] 80):=⟨_,rfl⟩
 have H1:Hid (BoxM w #[.int .i64 p.ep,.slice o1 (List.length l1) k1,.slice o2 (List.length l2) k2,.slice o3 (List.length l3) k3,.slice o4 (List.length l4) k4,.slice o5 (List.length l5) k5,.int .i64 p.dp,.int .i64 p.nd,.int .i64 p.bt] #[.string XN,.slice ap am ac,.string XT,.slice kp km kc] w1):=hide (by rw[hw1];exact BoxM.new _ _ _)
 have SK:Hid (∀ wx,BoxM w #[.int .i64 p.ep,.slice o1 (List.length l1) k1,.slice o2 (List.length l2) k2,.slice o3 (List.length l3) k3,.slice o4 (List.length l4) k4,.slice o5 (List.length l5) k5,.int .i64 p.dp,.int .i64 p.nd,.int .i64 p.bt] #[.string XN,.slice ap am ac,.string XT,.slice kp km kc] wx->wx.cell? ⟨w.heap.size,0,none⟩=some (.int .i64 p.ep)/\wx.cell? ⟨w.heap.size,1,none⟩=some (.slice o1 (List.length l1) k1)/\wx.cell? ⟨w.heap.size,2,none⟩=some (.slice o2 (List.length l2) k2)/\wx.cell? ⟨w.heap.size,3,none⟩=some (.slice o3 (List.length l3) k3)/\wx.cell? ⟨w.heap.size,4,none⟩=some (.slice o4 (List.length l4) k4)/\wx.cell? ⟨w.heap.size,5,none⟩=some (.slice o5 (List.length l5) k5)/\wx.cell? ⟨w.heap.size,6,none⟩=some (.int .i64 p.dp)/\wx.cell? ⟨w.heap.size,7,none⟩=some (.int .i64 p.nd)/\wx.cell? ⟨w.heap.size,8,none⟩=some (.int .i64 p.bt)/\wx.cell? ⟨w.heap.size+1,0,none⟩=some (.string XN)/\wx.cell? ⟨w.heap.size+1,1,none⟩=some (.slice ap am ac)/\wx.cell? ⟨w.heap.size+1,2,none⟩=some (.string XT)/\wx.cell? ⟨w.heap.size+1,3,none⟩=some (.slice kp km kc)):=hide (fun wx h=>⟨h.a 0 _ rfl,h.a 1 _ rfl,h.a 2 _ rfl,h.a 3 _ rfl,h.a 4 _ rfl,h.a 5 _ rfl,h.a 6 _ rfl,h.a 7 _ rfl,h.a 8 _ rfl,h.b 0 _ rfl,h.b 1 _ rfl,h.b 2 _ rfl,h.b 3 _ rfl⟩)
 go_enter Tryz.func56,Tryz.ntmps56
 go_upto_region 1 with fail
 rw[<-hw1]
 clear hw1
 have z1:=H1.out.b 1 _ rfl
 go_wp2_with fail
 clear z1
 go_loopg [10] am (fun g v wx=>∃ i:Nat,i+g=am/\v=.int .i64 (i:Int)/\Hid (BoxM w #[.int .i64 p.ep,.slice o1 (List.length l1) k1,.slice o2 (List.length l2) k2,.slice o3 (List.length l3) k3,.slice o4 (List.length l4) k4,.slice o5 (List.length l5) k5,.int .i64 p.dp,.int .i64 p.nd,.int .i64 p.bt] #[.string XN,.slice ap am ac,.string XT,.slice kp km kc] wx/\∀ (j:Nat) (kv:L × L),j < i->at'[j]?=some kv->Saf.valueB p (bl XN) kv.1 kv.2=true))
 case atStart=>exact⟨0,by omega,rfl,hide ⟨H1.out,fun j kv hj=>by omega⟩⟩
 case round =>
  obtain⟨i,hi,rfl,HU⟩:=hrel
  clear H1
  obtain⟨wz,hwz⟩:∃ wz,wz=wr:=⟨_,rfl⟩
  subst hwz
  by_cases hlt:i < am
  ·obtain⟨kv,hkv⟩:∃ kv,at'[i]?=some kv:=⟨_,List.getElem?_eq_getElem (by have:=HML.out;omega)⟩
   obtain⟨b,off,hap,c0,c1,-,-⟩:=HAR.out.2 i kv hkv
   have c0:=cell_keep c0 HU.out.1.2.2
   have c1:=cell_keep c1 HU.out.1.2.2
   obtain⟨X1,hX1⟩:∃ X:ByteArray,X=⟨kv.1.toArray⟩:=⟨_,rfl⟩
   obtain⟨X2,hX2⟩:∃ X:ByteArray,X=⟨kv.2.toArray⟩:=⟨_,rfl⟩
   rw[<-hX1] at c0
   rw[<-hX2] at c1
   have hb1:bl X1=kv.1:=by rw[hX1]
   have hb2:bl X2=kv.2:=by rw[hX2]
   have hzs:X1.size<=100000/\X2.size<=90000:=by
    rw[<-bl_len,<-bl_len,hb1,hb2]
    exact HZ.out kv (List.mem_of_getElem? hkv)
   have CV:Hid (∀ wx,BoxM w #[.int .i64 p.ep,.slice o1 (List.length l1) k1,.slice o2 (List.length l2) k2,.slice o3 (List.length l3) k3,.slice o4 (List.length l4) k4,.slice o5 (List.length l5) k5,.int .i64 p.dp,.int .i64 p.nd,.int .i64 p.bt] #[.string XN,.slice ap am ac,.string XT,.slice kp km kc] wx->Calls Tryz.prog 95 #[.agg #[.int .i64 p.ep,.slice o1 (List.length l1) k1,.slice o2 (List.length l2) k2,.slice o3 (List.length l3) k3,.slice o4 (List.length l4) k4,.slice o5 (List.length l5) k5,.int .i64 p.dp,.int .i64 p.nd,.int .i64 p.bt],.string XN,.agg #[.string X1,.string X2]] wx fun r w'=>r=.returned (.bool (Saf.valueB p (bl XN) kv.1 kv.2))/\BoxM w #[.int .i64 p.ep,.slice o1 (List.length l1) k1,.slice o2 (List.length l2) k2,.slice o3 (List.length l3) k3,.slice o4 (List.length l4) k4,.slice o5 (List.length l5) k5,.int .i64 p.dp,.int .i64 p.nd,.int .i64 p.bt] #[.string XN,.slice ap am ac,.string XT,.slice kp km kc] w'):=hide (fun wx h=>by
    have:=pvalue_any _ _ _ _ _ p _ _ _ _ _ XN X1 X2 wx (HV.out.below h.2.2) HF.out HX.out hzs.1 hzs.2
    rw[hb1,hb2] at this
    exact this.mono fun _ w' ⟨h1,h2⟩=>⟨h1,h.keep h2⟩)
   have HKV:=hide hkv
   clear hX1 hX2 hb1 hb2 hzs hkv
   obtain⟨w2,hw2⟩:∃ w2,w2=wz.alloc (.cells #[.string X1,.string X2] 108):=⟨_,rfl⟩
   have hbl:Below wz.heap.size wz w2:=by rw[hw2];exact bel_alloc (Below.refl _ _) _
   have H2:Hid (BoxM w #[.int .i64 p.ep,.slice o1 (List.length l1) k1,.slice o2 (List.length l2) k2,.slice o3 (List.length l3) k3,.slice o4 (List.length l4) k4,.slice o5 (List.length l5) k5,.int .i64 p.dp,.int .i64 p.nd,.int .i64 p.bt] #[.string XN,.slice ap am ac,.string XT,.slice kp km kc] w2):=hide (HU.out.1.keep hbl)
   have u0:w2.cell? ⟨wz.heap.size,0,none⟩=some (.string X1):=by rw[hw2];exact tag_cell (new_block _ _ _) 0 _ rfl
   have u1:w2.cell? ⟨wz.heap.size,1,none⟩=some (.string X2):=by rw[hw2];exact tag_cell (new_block _ _ _) 1 _ rfl
   have HUP:=hide HU.out.2
   clear hbl HU
   subst hap
   go_upto_region 4 with fail
   rw[<-hw2]
   clear hw2 c0 c1
   obtain⟨y0,q1,q2,q3,q4,q5,y6,y7,y8,z0,z1,z2,z3⟩:=SK.out _ H2.out
   cases hvb:Saf.valueB p (bl XN) kv.1 kv.2 with
   | false =>
    have HN:Hid (R=false):=hide (by
     rw[HR.out,List.all_eq_false]
     exact⟨kv,List.mem_of_getElem? HKV.out,by rw[hvb];decide⟩)
    rw[hvb] at CV
    clear hvb HR HKV HUP
    go_wp2_with fail
    refine (CV.out _ H2.out).mono ?_
    rintro r w3 ⟨rfl,h3⟩
    have H3:=hide h3
    clear h3 CV H2 y0 q1 q2 q3 q4 q5 y6 y7 y8 z0 z1 z2 z3 u0 u1
    go_wp2_with fail
    go_ret
    rw[HN.out]
    exact⟨rfl,H3.out.2.2⟩
   | true =>
    have HUP2:Hid (∀ (j:Nat) (kv:L × L),j < i+1->at'[j]?=some kv->Saf.valueB p (bl XN) kv.1 kv.2=true):=hide (fun j x hj hjx=>by
     by_cases e:j=i
     ·subst e
      rw[HKV.out] at hjx
      cases hjx
      exact hvb
     ·exact HUP.out j x (by omega) hjx)
    rw[hvb] at CV
    clear hvb HKV HUP
    go_wp2_with fail
    refine (CV.out _ H2.out).mono ?_
    rintro r w3 ⟨rfl,h3⟩
    have H3:=hide h3
    clear h3 CV H2 y0 q1 q2 q3 q4 q5 y6 y7 y8 z0 z1 z2 z3 u0 u1
    go_wp2_with fail
    go_roundg (am - i - 1)
    case measure=>omega
    case rel=>exact⟨i+1,by omega,by first | rfl | simp,hide ⟨H3.out,HUP2.out⟩⟩
  ·have HN:Hid (R=true):=hide (by
    rw[HR.out,List.all_eq_true]
    intro kv hkv
    obtain⟨j,hj⟩:=List.getElem?_of_mem hkv
    exact HU.out.2 j kv (by have:=(List.getElem?_eq_some_iff.1 hj).1;have:=HML.out;omega) hj)
   have HB:=hide HU.out.1.2.2
   clear HU HR
   go_wp2_with fail
   go_ret
   rw[HN.out]
   exact⟨rfl,HB.out⟩
end Go.Proofs.YtkiofbikkhhdfabGreatDoor
namespace Utf1
mutual
def smN:Nd->Prop
 | .mk n a _ k=>n.length<=90000/\(∀ kv∈a,kv.1.length<=90000/\kv.2.length<=90000)/\smL k
def smL:List Nd->Prop
 | []=>True
 | x :: r=>smN x/\smL r
end
theorem smN_kids (x:Nd):smN x ↔ x.name.length<=90000/\(∀ kv∈x.attrs,kv.1.length<=90000/\kv.2.length<=90000)/\smL x.kids:=by
 cases x
 rw[smN]
 rfl
theorem smL_at:∀ {l:List Nd}{i:Nat}{x:Nd},smL l->l[i]?=some x->smN x
 | [],i,x,_,h=>by simp at h
 | y :: r,0,x,hs,h=>by
  have e:y=x:=by simpa using h
  subst e
  rw[smL] at hs
  exact hs.1
 | y :: r,i+1,x,hs,h=>by
  rw[smL] at hs
  exact smL_at hs.2 (by simpa using h)
end Utf1
namespace Go.Proofs.YtkiofbikkhhdfabGreatDoor
open Go.RowKit
open Utf1 Pol8
def BoxE (PB:Nat) (w:World) (A B:Array Value) (wx:World):Prop:=wx.heap[PB]?=some (.cells A 24 (0,0))/\BoxN w B wx
theorem BoxE.keep {PB:Nat}{w wx wy:World}{A B:Array Value}(h:BoxE PB w A B wx)(hb:Below wx.heap.size wx wy):BoxE PB w A B wy :=
 ⟨(hb.block _ (Array.getElem?_eq_some_iff.1 h.1).1).trans h.1,h.2.keep hb⟩
theorem pelem1_any (PB:Nat) (v1 v2 v3 v4 v5:Value) (p:Pol) (l1 l2 l3 l4 l5:List ByteArray)(hf:fits p) (XN XT:ByteArray) (ap kp:Option Addr) (am ac km kc:Nat) (at':Saf.At) (w:World)(hPB:w.heap[PB]?=some (.cells #[.int .i64 p.ep,v1,v2,v3,v4,v5,.int .i64 p.dp,.int .i64 p.nd,.int .i64 p.bt] 24 (0,0)))(hv:PolV w v1 v2 v3 v4 v5 p l1 l2 l3 l4 l5)(har:Dm.ARow w ap am at')(hXN:XN.size<=100000)(hz:∀ kv∈at',kv.1.length<=100000/\kv.2.length<=90000) :
  Calls Tryz.prog 55 #[.agg #[.string XN,.slice ap am ac,.string XT,.slice kp km kc],.pointer (some ⟨PB,0,none⟩)] w fun e w'=>e=.returned (.bool (Saf.elemB p (bl XN) at'))/\Below w.heap.size w w':=by
 obtain⟨R,hR⟩:∃ R,R=Saf.elemB p (bl XN) at':=⟨_,rfl⟩
 rw[<-hR]
 unfold Saf.elemB at hR
 have HR:Hid (R=(decide (bl XN∈p.el) && ((at'.all fun kv=>Saf.valueB p (bl XN) kv.1 kv.2) && (!decide (bl XN=[97]) || Saf.relB at')))):=hide hR
 have HAR:=hide har
 have HV:=hide hv
 have HF:=hide hf
 have HZ:=hide hz
 have HX:=hide hXN
 obtain⟨o1,k1,rfl,-,-⟩:=hv.s1
 obtain⟨o2,k2,rfl,-,-⟩:=hv.s2
 obtain⟨o3,k3,rfl,-,-⟩:=hv.s3
 obtain⟨o4,k4,rfl,-,-⟩:=hv.s4
 obtain⟨o5,k5,rfl,-,-⟩:=hv.s5
 obtain⟨w1,hw1⟩:∃ w1,w1=w.alloc (.cells #[.string XN,.slice ap am ac,.string XT,.slice kp km kc] 80):=⟨_,rfl⟩
 have hbl:Below w.heap.size w w1:=by rw[hw1];exact bel_alloc (Below.refl _ _) _
 have H1:Hid (BoxE PB w #[.int .i64 p.ep,.slice o1 (List.length l1) k1,.slice o2 (List.length l2) k2,.slice o3 (List.length l3) k3,.slice o4 (List.length l4) k4,.slice o5 (List.length l5) k5,.int .i64 p.dp,.int .i64 p.nd,.int .i64 p.bt] #[.string XN,.slice ap am ac,.string XT,.slice kp km kc] w1):=hide ⟨(hbl.block _ (lt_of_block hPB)).trans hPB,by rw[hw1];exact BoxN.new _ _⟩
 have SK:Hid (∀ wx,BoxE PB w #[.int .i64 p.ep,.slice o1 (List.length l1) k1,.slice o2 (List.length l2) k2,.slice o3 (List.length l3) k3,.slice o4 (List.length l4) k4,.slice o5 (List.length l5) k5,.int .i64 p.dp,.int .i64 p.nd,.int .i64 p.bt] #[.string XN,.slice ap am ac,.string XT,.slice kp km kc] wx->wx.cell? ⟨PB,0,none⟩=some (.int .i64 p.ep)/\wx.cell? ⟨PB,1,none⟩=some (.slice o1 (List.length l1) k1)/\wx.cell? ⟨PB,2,none⟩=some (.slice o2 (List.length l2) k2)/\wx.cell? ⟨PB,3,none⟩=some (.slice o3 (List.length l3) k3)/\wx.cell? ⟨PB,4,none⟩=some (.slice o4 (List.length l4) k4)/\wx.cell? ⟨PB,5,none⟩=some (.slice o5 (List.length l5) k5)/\wx.cell? ⟨PB,6,none⟩=some (.int .i64 p.dp)/\wx.cell? ⟨PB,7,none⟩=some (.int .i64 p.nd)/\wx.cell? ⟨PB,8,none⟩=some (.int .i64 p.bt)/\wx.cell? ⟨w.heap.size,0,none⟩=some (.string XN)/\wx.cell? ⟨w.heap.size,1,none⟩=some (.slice ap am ac)/\wx.cell? ⟨w.heap.size,2,none⟩=some (.string XT)/\wx.cell? ⟨w.heap.size,3,none⟩=some (.slice kp km kc)):=hide (fun wx h=>⟨tag_cell h.1 0 _ rfl,tag_cell h.1 1 _ rfl,tag_cell h.1 2 _ rfl,tag_cell h.1 3 _ rfl,tag_cell h.1 4 _ rfl,tag_cell h.1 5 _ rfl,tag_cell h.1 6 _ rfl,tag_cell h.1 7 _ rfl,tag_cell h.1 8 _ rfl,h.2.cell 0 _ rfl,h.2.cell 1 _ rfl,h.2.cell 2 _ rfl,h.2.cell 3 _ rfl⟩)
 have C1:Hid (∀ wx,BoxE PB w #[.int .i64 p.ep,.slice o1 (List.length l1) k1,.slice o2 (List.length l2) k2,.slice o3 (List.length l3) k3,.slice o4 (List.length l4) k4,.slice o5 (List.length l5) k5,.int .i64 p.dp,.int .i64 p.nd,.int .i64 p.bt] #[.string XN,.slice ap am ac,.string XT,.slice kp km kc] wx->Calls Tryz.prog 29 #[.agg #[.int .i64 p.ep,.slice o1 (List.length l1) k1,.slice o2 (List.length l2) k2,.slice o3 (List.length l3) k3,.slice o4 (List.length l4) k4,.slice o5 (List.length l5) k5,.int .i64 p.dp,.int .i64 p.nd,.int .i64 p.bt],.string XN] wx fun r w'=>r=.returned (.bool (decide (bl XN∈p.el)))/\BoxE PB w #[.int .i64 p.ep,.slice o1 (List.length l1) k1,.slice o2 (List.length l2) k2,.slice o3 (List.length l3) k3,.slice o4 (List.length l4) k4,.slice o5 (List.length l5) k5,.int .i64 p.dp,.int .i64 p.nd,.int .i64 p.bt] #[.string XN,.slice ap am ac,.string XT,.slice kp km kc] w'):=hide (fun wx h=>(pelemC_any _ _ _ _ _ p _ _ _ _ _ XN wx (HV.out.below h.2.2) HF.out HX.out).mono fun _ w' ⟨h1,h2⟩=>⟨h1,h.keep h2⟩)
 have C2:Hid (∀ wx,BoxE PB w #[.int .i64 p.ep,.slice o1 (List.length l1) k1,.slice o2 (List.length l2) k2,.slice o3 (List.length l3) k3,.slice o4 (List.length l4) k4,.slice o5 (List.length l5) k5,.int .i64 p.dp,.int .i64 p.nd,.int .i64 p.bt] #[.string XN,.slice ap am ac,.string XT,.slice kp km kc] wx->Calls Tryz.prog 56 #[.agg #[.int .i64 p.ep,.slice o1 (List.length l1) k1,.slice o2 (List.length l2) k2,.slice o3 (List.length l3) k3,.slice o4 (List.length l4) k4,.slice o5 (List.length l5) k5,.int .i64 p.dp,.int .i64 p.nd,.int .i64 p.bt],.agg #[.string XN,.slice ap am ac,.string XT,.slice kp km kc]] wx fun r w'=>r=.returned (.bool (at'.all fun kv=>Saf.valueB p (bl XN) kv.1 kv.2))/\BoxE PB w #[.int .i64 p.ep,.slice o1 (List.length l1) k1,.slice o2 (List.length l2) k2,.slice o3 (List.length l3) k3,.slice o4 (List.length l4) k4,.slice o5 (List.length l5) k5,.int .i64 p.dp,.int .i64 p.nd,.int .i64 p.bt] #[.string XN,.slice ap am ac,.string XT,.slice kp km kc] w'):=hide (fun wx h=>(pstay_any _ _ _ _ _ p _ _ _ _ _ HF.out XN XT ap kp am ac km kc at' wx (HV.out.below h.2.2) (HAR.out.below h.2.2) HX.out HZ.out).mono fun _ w' ⟨h1,h2⟩=>⟨h1,h.keep h2⟩)
 have C3:Hid (∀ wx,BoxE PB w #[.int .i64 p.ep,.slice o1 (List.length l1) k1,.slice o2 (List.length l2) k2,.slice o3 (List.length l3) k3,.slice o4 (List.length l4) k4,.slice o5 (List.length l5) k5,.int .i64 p.dp,.int .i64 p.nd,.int .i64 p.bt] #[.string XN,.slice ap am ac,.string XT,.slice kp km kc] wx->Calls Tryz.prog 57 #[.agg #[.string XN,.slice ap am ac,.string XT,.slice kp km kc]] wx fun r w'=>r=.returned (.bool (!decide (bl XN=[97]) || Saf.relB at'))/\BoxE PB w #[.int .i64 p.ep,.slice o1 (List.length l1) k1,.slice o2 (List.length l2) k2,.slice o3 (List.length l3) k3,.slice o4 (List.length l4) k4,.slice o5 (List.length l5) k5,.int .i64 p.dp,.int .i64 p.nd,.int .i64 p.bt] #[.string XN,.slice ap am ac,.string XT,.slice kp km kc] w'):=hide (fun wx h=>(prel_any XN XT ap kp am ac km kc at' wx (HAR.out.below h.2.2)).mono fun _ w' ⟨h1,h2⟩=>⟨h1,h.keep h2⟩)
 generalize decide (bl XN∈p.el)=r1 at C1 HR
 generalize (at'.all fun kv=>Saf.valueB p (bl XN) kv.1 kv.2)=r2 at C2 HR
 generalize (!decide (bl XN=[97]) || Saf.relB at')=r3 at C3 HR
 clear hv hR har hf hz hXN hPB hbl HAR HV HF HZ HX
 obtain⟨y0,q1,q2,q3,q4,q5,y6,y7,y8,z0,z1,z2,z3⟩:=SK.out _ H1.out
 go_enter Tryz.func55,Tryz.ntmps55
 go_upto_region 1 with fail
 rw[<-hw1]
 clear hw1
 go_wp2_with fail
 refine (C1.out _ H1.out).mono ?_
 rintro r w2 ⟨rfl,h2⟩
 have H2:=hide h2
 clear h2 C1 H1 y0 q1 q2 q3 q4 q5 y6 y7 y8 z0 z1 z2 z3
 obtain⟨y0,q1,q2,q3,q4,q5,y6,y7,y8,z0,z1,z2,z3⟩:=SK.out _ H2.out
 cases r1 with
 | false =>
  have HN:Hid (R=false):=hide (by rw[HR.out];rfl)
  clear HR
  go_wp2_with fail
  go_ret
  rw[HN.out]
  exact⟨rfl,H2.out.2.2⟩
 | true =>
  go_wp2_with fail
  refine (C2.out _ H2.out).mono ?_
  rintro r w3 ⟨rfl,h3⟩
  have H3:=hide h3
  clear h3 C2 H2 y0 q1 q2 q3 q4 q5 y6 y7 y8 z0 z1 z2 z3
  obtain⟨y0,q1,q2,q3,q4,q5,y6,y7,y8,z0,z1,z2,z3⟩:=SK.out _ H3.out
  cases r2 with
  | false =>
   have HN:Hid (R=false):=hide (by rw[HR.out];rfl)
   clear HR
   go_wp2_with fail
   go_ret
   rw[HN.out]
   exact⟨rfl,H3.out.2.2⟩
  | true =>
   have HN:Hid (R=r3):=hide (by rw[HR.out];simp)
   clear HR
   go_wp2_with fail
   refine (C3.out _ H3.out).mono ?_
   rintro r w4 ⟨rfl,h4⟩
   have H4:=hide h4
   clear h4 C3 H3 y0 q1 q2 q3 q4 q5 y6 y7 y8 z0 z1 z2 z3
   go_wp2_with fail
   go_ret
   rw[HN.out]
   exact⟨ret_bool (by simp),H4.out.2.2⟩
def TellsN (g:Nat) (lb:Array Value) (f:L->Saf.At->Bool) (w:World):Prop :=
 ∀ (W:World) (XN XT:ByteArray) (ap kp:Option Addr) (am ac km kc:Nat) (at':Saf.At),Below w.heap.size w W->Dm.ARow W ap am at'->XN.size<=100000->(∀ kv∈at',kv.1.length<=100000/\kv.2.length<=90000)->Calls Tryz.prog g (#[.agg #[.string XN,.slice ap am ac,.string XT,.slice kp km kc]]++lb) W fun e w'=>e=.returned (.bool (f (bl XN) at'))/\Below W.heap.size W w'
theorem TellsN.later {g:Nat}{lb:Array Value}{f:L->Saf.At->Bool}{w W:World}(h:TellsN g lb f w)(hb:Below w.heap.size w W):TellsN g lb f W :=
 fun W' XN XT ap kp am ac km kc at' hb'=>h W' XN XT ap kp am ac km kc at' (bel2 hb hb')
theorem peach_nst (g0:Nat) (lb:Array Value) (eg:∀ args w,(callFunc g0 args).run Tryz.prog w=.ok (.enter g0 args) w) (p:Pol):∀ (D:Nat) (w:World) (v:Value) (ns:List Nd),TellsN g0 lb (Saf.elemB p) w->Dm.NAtD w D v ns->smL ns ->
  Calls Tryz.prog 54 #[v,.func (.func g0) #[] lb] w fun e w'=>e=.returned (.bool (Saf.eachL p ns))/\Below w.heap.size w w':=by
 intro D
 induction D with
 | zero=>intro w v ns _ h;exact h.elim
 | succ D0 ih =>
 intro w v ns ht hk hws
 obtain⟨pp,c,rfl,hNm,hnode⟩:=hk
 have HNODE:=hide hnode
 have HIH:=hide ih
 have HT:=hide ht
 have HWS:=hide hws
 obtain⟨R,hR⟩:∃ R,R=Saf.eachL p ns:=⟨_,rfl⟩
 rw[<-hR]
 have HR:=hide hR
 obtain⟨N,hN⟩:∃ N,N=ns.length:=⟨_,rfl⟩
 rw[<-hN] at hNm ⊢
 have HN:=hide hN
 clear hnode ih hN hR hws ht
 go_enter Tryz.func54,Tryz.ntmps54
 go_wp2_with fail
 go_loopg [9] N (fun g v wx=>∃ i:Nat,i+g=N/\v=.int .i64 (i:Int)/\Hid (Below w.heap.size w wx/\∀ (j:Nat) (x:Nd),j < i->ns[j]?=some x->Saf.eachN p x=true))
 case atStart=>exact⟨0,by omega,rfl,hide ⟨Below.refl _ _,fun j x hj=>by omega⟩⟩
 case round =>
  obtain⟨i,hi,rfl,HU⟩:=hrel
  obtain⟨wz,hwz⟩:∃ wz,wz=wr:=⟨_,rfl⟩
  subst hwz
  by_cases hlt:i < N
  ·obtain⟨nd,hnd⟩:∃ nd,ns[i]?=some nd:=⟨_,List.getElem?_eq_getElem (by have:=HN.out;omega)⟩
   obtain⟨g,off,ap,am,ac,kp,km,kc,rfl,x0,x1,x2,x3,-,har,hkk⟩:=HNODE.out i nd hnd
   have x0:=cell_keep x0 HU.out.1
   have x1:=cell_keep x1 HU.out.1
   have x2:=cell_keep x2 HU.out.1
   have x3:=cell_keep x3 HU.out.1
   obtain⟨XN,hXN⟩:∃ X:ByteArray,X=⟨nd.name.toArray⟩:=⟨_,rfl⟩
   obtain⟨XT,hXT⟩:∃ X:ByteArray,X=⟨nd.text.toArray⟩:=⟨_,rfl⟩
   rw[<-hXN] at x0
   rw[<-hXT] at x2
   have HXN:Hid (bl XN=nd.name):=hide (by rw[hXN])
   have hwn:=(smN_kids nd).1 (smL_at HWS.out hnd)
   have hzX:XN.size<=100000:=by
    rw[<-bl_len,HXN.out]
    omega
   have hzA:∀ kv∈nd.attrs,kv.1.length<=100000/\kv.2.length<=90000:=fun kv hkv=>by
    have:=hwn.2.1 kv hkv
    omega
   have hzK:smL nd.kids:=hwn.2.2
   have HND:=hide hnd
   obtain⟨w2,hw2⟩:∃ w2,w2=wz.alloc (.cells #[.string XN,.slice ap am ac,.string XT,.slice kp km kc] 80):=⟨_,rfl⟩
   have H2:Hid (BoxN wz #[.string XN,.slice ap am ac,.string XT,.slice kp km kc] w2):=hide (by rw[hw2];exact BoxN.new _ _)
   have HBW:Hid (∀ wx,BoxN wz #[.string XN,.slice ap am ac,.string XT,.slice kp km kc] wx->Below w.heap.size w wx):=hide (fun wx h=>bel2 HU.out.1 h.2)
   have CT:Hid (∀ wx,BoxN wz #[.string XN,.slice ap am ac,.string XT,.slice kp km kc] wx->Calls Tryz.prog g0 (#[.agg #[.string XN,.slice ap am ac,.string XT,.slice kp km kc]]++lb) wx fun r w'=>r=.returned (.bool (Saf.elemB p nd.name nd.attrs))/\BoxN wz #[.string XN,.slice ap am ac,.string XT,.slice kp km kc] w'):=hide (fun wx h=>by
    have:=HT.out wx XN XT ap kp am ac km kc nd.attrs (HBW.out wx h) (har.below (HBW.out wx h)) hzX hzA
    rw[HXN.out] at this
    exact this.mono fun _ w' ⟨h1,h2⟩=>⟨h1,h.keep h2⟩)
   have CI:Hid (∀ wx,BoxN wz #[.string XN,.slice ap am ac,.string XT,.slice kp km kc] wx->Calls Tryz.prog 54 #[.slice kp km kc,.func (.func g0) #[] lb] wx fun r w'=>r=.returned (.bool (Saf.eachL p nd.kids))/\BoxN wz #[.string XN,.slice ap am ac,.string XT,.slice kp km kc] w'):=hide (fun wx h=>(HIH.out wx (.slice kp km kc) nd.kids (HT.out.later (HBW.out wx h)) (Dm.NAtD.below (HBW.out wx h) hkk) hzK).mono fun _ w' ⟨h1,h2⟩=>⟨h1,h.keep h2⟩)
   have HY:Hid (∀ wx,BoxN wz #[.string XN,.slice ap am ac,.string XT,.slice kp km kc] wx->wx.cell? ⟨wz.heap.size,0,none⟩=some (.string XN)/\wx.cell? ⟨wz.heap.size,1,none⟩=some (.slice ap am ac)/\wx.cell? ⟨wz.heap.size,2,none⟩=some (.string XT)/\wx.cell? ⟨wz.heap.size,3,none⟩=some (.slice kp km kc)):=hide (fun wx h=>⟨h.cell 0 _ rfl,h.cell 1 _ rfl,h.cell 2 _ rfl,h.cell 3 _ rfl⟩)
   have HIN:Hid (Saf.eachN p nd=((decide (nd.name=[]) || Saf.elemB p nd.name nd.attrs) && Saf.eachL p nd.kids)):=hide (Saf.eachN_kids p nd)
   have HGO:Hid (Saf.eachN p nd=true->∀ (j:Nat) (x:Nd),j < i+1->ns[j]?=some x->Saf.eachN p x=true):=hide (fun hin j x hj hjx=>by
    by_cases e:j=i
    ·subst e
     rw[HND.out] at hjx
     cases hjx
     exact hin
    ·exact HU.out.2 j x (by omega) hjx)
   have HNO:Hid (Saf.eachN p nd=false->R=false):=hide (fun h=>by rw[HR.out];exact Saf.eachL_no HND.out h)
   have hemp:=empty_bl XN
   rw[HXN.out] at hemp
   have hneq:=ne_empty XN
   rw[HXN.out] at hneq
   generalize Saf.eachN p nd=IN at HIN HGO HNO
   generalize Saf.elemB p nd.name nd.attrs=r1 at CT HIN
   generalize Saf.eachL p nd.kids=r2 at CI HIN
   clear hXN hXT hnd har hkk hwn hzX hzA hzK HXN HND
   go_upto_region 4 with fail
   rw[<-hw2]
   clear hw2 x0 x1 x2 x3
   obtain⟨z0,z1,z2,z3⟩:=HY.out _ H2.out
   by_cases hne:nd.name=[]
   ·rw[decide_eq_true hne] at hemp HIN
    rw[decide_eq_false (fun h=>h hne)] at hneq
    have HIN2:Hid (IN=r2):=hide (by rw[HIN.out];simp)
    clear hne HIN CT
    go_wp2_with fail
    refine (CI.out _ H2.out).mono ?_
    rintro r w6 ⟨rfl,h6⟩
    have H6:=hide h6
    clear h6 CI H2 z0 z1 z2 z3
    cases r2 with
    | false =>
     have HF2:Hid (R=false):=hide (HNO.out HIN2.out)
     go_wp2_with fail
     go_ret
     rw[HF2.out]
     exact⟨rfl,HBW.out _ H6.out⟩
    | true =>
     have HF2:=hide (HGO.out HIN2.out)
     go_wp2_with fail
     go_roundg (N - i - 1)
     case measure=>omega
     case rel=>exact⟨i+1,by omega,by first | rfl | simp,hide ⟨HBW.out _ H6.out,HF2.out⟩⟩
   ·rw[decide_eq_false hne] at hemp HIN
    rw[decide_eq_true hne] at hneq
    clear hne
    have CT1:=hide (CT.out _ H2.out)
    clear CT
    cases r1 with
    | false =>
     have HF2:Hid (R=false):=hide (HNO.out (by rw[HIN.out];rfl))
     clear HIN CI
     go_wp2_with (go_at_fn g0;refine CT1.out.mono ?_;rintro e w5 ⟨rfl,h5⟩)
     have H5:=hide (HBW.out _ (by assumption))
     go_ret
     rw[HF2.out]
     exact⟨rfl,H5.out⟩
    | true =>
     have HIN2:Hid (IN=r2):=hide (by rw[HIN.out];simp)
     clear HIN
     clear H2
     go_wp2_with (go_at_fn g0;refine CT1.out.mono ?_;rintro e w5 ⟨rfl,h5⟩;obtain⟨s0,s1,s2,s3⟩:=HY.out _ h5;replace h5:=hide h5)
     refine (CI.out _ (Hid.out (by assumption))).mono ?_
     rintro r w6 ⟨rfl,h6⟩
     have H6:=hide h6
     clear h6 CI CT1 z0 z1 z2 z3
     cases r2 with
     | false =>
      have HF2:Hid (R=false):=hide (HNO.out HIN2.out)
      go_wp2_with fail
      go_ret
      rw[HF2.out]
      exact⟨rfl,HBW.out _ H6.out⟩
     | true =>
      have HF2:=hide (HGO.out HIN2.out)
      go_wp2_with fail
      go_roundg (N - i - 1)
      case measure=>omega
      case rel=>exact⟨i+1,by omega,by first | rfl | simp,hide ⟨HBW.out _ H6.out,HF2.out⟩⟩
  ·have HN2:Hid (R=true):=hide (by rw[HR.out];exact Saf.eachL_yes (fun j x hx=>HU.out.2 j x (by have:=(List.getElem?_eq_some_iff.1 hx).1;have:=HN.out;omega) hx))
   have HB:=hide HU.out.1
   clear HU
   go_wp2_with fail
   go_ret
   rw[HN2.out]
   exact⟨rfl,HB.out⟩
end Go.Proofs.YtkiofbikkhhdfabGreatDoor
