import Derived.Test.YtkiofbikkhhdfabGreatDoorR3
import Derived.Test.YtkiofbikkhhdfabGreatDoorK07
import Derived.Test.YtkiofbikkhhdfabGreatDoorK05
namespace Go.Proofs.YtkiofbikkhhdfabGreatDoor
open Go.RowKit
open Utf1 Pol8
abbrev inV (B:Nat):Value:=.func (.func 76) #[] #[.pointer (some ⟨B,0,none⟩)]
theorem ponein_any (B:Nat) (v:Value) (ss:List ByteArray)(hl:ss.length<=100000) (x:ByteArray) (w:World)(hb:w.heap[B]?=some (.cells #[v] 22 (0,0)))(hv:StrArg w v ss) :
  Calls Tryz.prog 76 #[.string x,.pointer (some ⟨B,0,none⟩)] w fun e w'=>e=.returned (.bool (decide (bl x∈ss.map bl)))/\w'=w:=by
 have C1:=hide (contains_any x v ss hl w hv)
 generalize decide (bl x∈ss.map bl)=R at C1 ⊢
 have y0:=tag_cell hb 0 _ rfl
 obtain⟨q,cap,rfl,-,-⟩:=hv
 clear hb
 go_enter Tryz.func76,Tryz.ntmps76
 go_wp2_with fail
 refine C1.out.mono ?_
 rintro e w1 ⟨rfl,rfl⟩
 clear C1
 go_wp2_with fail
 go_ret
 exact⟨rfl,rfl⟩
def inL (l:List L) (x:L):Bool:=decide (x∈l)
def InQ (B:Nat) (l:List L) (w:World):Prop:=∀ (W:World) (x:ByteArray),Below w.heap.size w W->Calls Tryz.prog 76 #[.string x,.pointer (some ⟨B,0,none⟩)] W fun e w'=>e=.returned (.bool (inL l (bl x)))/\w'=W
theorem inQ_of (B:Nat) (v:Value) (ss:List ByteArray)(hl:ss.length<=100000) (w:World)(hb:w.heap[B]?=some (.cells #[v] 22 (0,0)))(hv:StrArg w v ss):InQ B (ss.map bl) w :=
 fun W x hbb=>ponein_any B v ss hl x W ((hbb.block _ (Array.getElem?_eq_some_iff.1 hb).1).trans hb) (hv.below hbb)
theorem poneOf_any (v:Value) (ss:List ByteArray)(hl:ss.length<=100000) (w:World)(hv:StrArg w v ss) :
  Calls Tryz.prog 38 #[v] w fun e w'=>(∃ B,e=.returned (inV B)/\InQ B (ss.map bl) w')/\Below w.heap.size w w':=by
 have hmf:∀ (fn:Fn) (first cap:Array Value) (w:World),(Instr.makeFunc fn first cap).run Tryz.prog w=.ok (.func fn first cap) w:=fun _ _ _ _=>rfl
 obtain⟨w1,hw1⟩:∃ w1,w1=w.alloc (.cells #[v] 22):=⟨_,rfl⟩
 have hb1:Below w.heap.size w w1:=by rw[hw1];exact bel_alloc (Below.refl _ _) _
 have hk:w1.heap[w.heap.size]?=some (.cells #[v] 22 (0,0)):=by rw[hw1];exact new_block _ _ _
 have HT:Hid ((∃ B,Ending.returned (inV w.heap.size)=.returned (inV B)/\InQ B (ss.map bl) w1)/\Below w.heap.size w w1):=hide ⟨⟨w.heap.size,rfl,inQ_of _ v ss hl w1 hk (hv.below hb1)⟩,hb1⟩
 obtain⟨q,cap,rfl,-,-⟩:=hv
 clear hk hb1
 go_enter Tryz.func38,Tryz.ntmps38
 go_wp2_with fail
 rw[<-hw1]
 clear hw1 hmf
 go_wp2_with fail
 go_ret
 exact HT.out
set_option maxRecDepth 100000 in
set_option maxHeartbeats 16000000 in
theorem pattrB_any:AttrC:=by
 intro v1 v2 v3 v4 v5 p l1 l2 l3 l4 l5 x y w hv hf hx hy
 obtain⟨f1,z1⟩:=fits_of hf (by simp) hv.e1
 obtain⟨f2,z2⟩:=fits_of hf (by simp) hv.e2
 obtain⟨R,hR⟩:∃ R,R=attrB p (bl x) (bl y):=⟨_,rfl⟩
 rw[<-hR]
 have HAL:Hid (R=(decide (bl x∈l1.map bl) && (inL (l2.map bl) (bl (⟨#[42,46]⟩++y)) || inL (l2.map bl) (bl (x++⟨#[46]⟩++y))))):=hide (by
  rw[hR,hv.e1,hv.e2]
  unfold attrB inL
  rw[Bool.decide_or,app_bl,app_bl,app_bl]
  have e1:(42 :: 46 :: bl y:L)=bl ⟨#[42,46]⟩++bl y:=rfl
  have e2:(bl x++46 :: bl y:L)=bl x++bl ⟨#[46]⟩++bl y:=by rw[List.append_assoc];rfl
  rw[e1,e2])
 show Calls Tryz.prog 120 #[pvalL p.ep v1 v2 v3 v4 v5 p.dp p.nd p.bt,.string x,.string y] w _
 generalize p.ep=a0
 generalize p.dp=a6
 generalize p.nd=a7
 generalize p.bt=a8
 obtain⟨w1,hw1⟩:∃ w1,w1=w.alloc (.cells #[.int .i64 a0,v1,v2,v3,v4,v5,.int .i64 a6,.int .i64 a7,.int .i64 a8] 24):=⟨_,rfl⟩
 have HN:Hid (BoxP w #[.int .i64 a0,v1,v2,v3,v4,v5,.int .i64 a6,.int .i64 a7,.int .i64 a8] w1):=hide (by rw[hw1];exact⟨new_block _ _ _,bel_alloc (Below.refl _ _) _⟩)
 have SK:Hid (∀ wx,BoxP w #[.int .i64 a0,v1,v2,v3,v4,v5,.int .i64 a6,.int .i64 a7,.int .i64 a8] wx->wx.cell? ⟨w.heap.size,0,none⟩=some (.int .i64 a0)/\wx.cell? ⟨w.heap.size,1,none⟩=some v1/\wx.cell? ⟨w.heap.size,2,none⟩=some v2/\wx.cell? ⟨w.heap.size,3,none⟩=some v3/\wx.cell? ⟨w.heap.size,4,none⟩=some v4/\wx.cell? ⟨w.heap.size,5,none⟩=some v5/\wx.cell? ⟨w.heap.size,6,none⟩=some (.int .i64 a6)/\wx.cell? ⟨w.heap.size,7,none⟩=some (.int .i64 a7)/\wx.cell? ⟨w.heap.size,8,none⟩=some (.int .i64 a8)):=hide (fun wx h=>⟨h.cell 0 _ rfl,h.cell 1 _ rfl,h.cell 2 _ rfl,h.cell 3 _ rfl,h.cell 4 _ rfl,h.cell 5 _ rfl,h.cell 6 _ rfl,h.cell 7 _ rfl,h.cell 8 _ rfl⟩)
 have CO:=hide (fun wx (h:BoxP w #[.int .i64 a0,v1,v2,v3,v4,v5,.int .i64 a6,.int .i64 a7,.int .i64 a8] wx)=>poneOf_any v2 l2 f2 wx (hv.s2.below h.2))
 have CE:=hide (fun wx (h:BoxP w #[.int .i64 a0,v1,v2,v3,v4,v5,.int .i64 a6,.int .i64 a7,.int .i64 a8] wx)=>pelem_any a0 v1 v2 v3 v4 v5 a6 a7 a8 x l1 f1 wx (hv.s1.below h.2))
 obtain⟨X1,hX1⟩:∃ X1:ByteArray,X1=⟨#[42,46]⟩++y:=⟨_,rfl⟩
 obtain⟨X2,hX2⟩:∃ X2:ByteArray,X2=x++⟨#[46]⟩++y:=⟨_,rfl⟩
 rw[<-hX1,<-hX2] at HAL
 have HX1:=hide hX1
 have HX2:=hide hX2
 generalize decide (bl x∈l1.map bl)=t1 at CE HAL
 obtain⟨t2,ht2⟩:∃ t,t=inL (l2.map bl) (bl X1):=⟨_,rfl⟩
 obtain⟨t3,ht3⟩:∃ t,t=inL (l2.map bl) (bl X2):=⟨_,rfl⟩
 rw[<-ht2,<-ht3] at HAL
 have HI1:Hid (∀ B wx,InQ B (l2.map bl) wx->∀ wy,Below wx.heap.size wx wy->Calls Tryz.prog 76 #[.string (⟨#[42,46]⟩++y),.pointer (some ⟨B,0,none⟩)] wy fun e w'=>e=.returned (.bool t2)/\w'=wy):=hide (fun B wx h wy hb=>by rw[ht2,hX1];exact h wy _ hb)
 have HI2:Hid (∀ B wx,InQ B (l2.map bl) wx->∀ wy,Below wx.heap.size wx wy->Calls Tryz.prog 76 #[.string (x++⟨#[46]⟩++y),.pointer (some ⟨B,0,none⟩)] wy fun e w'=>e=.returned (.bool t3)/\w'=wy):=hide (fun B wx h wy hb=>by rw[ht3,hX2];exact h wy _ hb)
 clear hv hf hR z1 z2 f1 f2 hX1 hX2 ht2 ht3 HX1 HX2
 go_enter Tryz.func120,Tryz.ntmps120
 go_upto_region 1 with fail
 rw[<-hw1]
 clear hw1
 obtain⟨y0,y1,y2,y3,y4,y5,y6,y7,y8⟩:=SK.out _ HN.out
 go_wp2_with fail
 refine (CO.out _ HN.out).mono ?_
 rintro e w2 ⟨⟨B,rfl,hq⟩,hb2⟩
 have H2:=hide (HN.out.keep hb2)
 have HQ:=hide hq
 clear hb2 hq HN CO y0 y1 y2 y3 y4 y5 y6 y7 y8
 obtain⟨y0,y1,y2,y3,y4,y5,y6,y7,y8⟩:=SK.out _ H2.out
 go_wp2_with fail
 refine (CE.out _ H2.out).mono ?_
 rintro e w3 ⟨rfl,hb3⟩
 have H3:=hide (H2.out.keep hb3)
 have C1:=hide (HI1.out B w2 HQ.out w3 hb3)
 have C2:=hide (HI2.out B w2 HQ.out w3 hb3)
 clear hb3 H2 CE HQ HI1 HI2 SK y0 y1 y2 y3 y4 y5 y6 y7 y8
 cases t1 with
 | false =>
  have HR:Hid (R=false):=hide (by rw[HAL.out];rfl)
  clear HAL C1 C2
  go_wp2_with fail
  go_ret
  rw[HR.out]
  exact⟨rfl,H3.out.2⟩
 | true =>
  cases t2 with
  | true =>
   have HR:Hid (R=true):=hide (by rw[HAL.out];rfl)
   clear HAL C2
   go_wp2_with fail
   refine C1.out.mono ?_
   rintro e w4 ⟨rfl,rfl⟩
   clear C1
   go_wp2_with fail
   go_ret
   rw[HR.out]
   exact⟨rfl,H3.out.2⟩
  | false =>
   have HR:Hid (R=t3):=hide (by rw[HAL.out];simp)
   clear HAL
   go_wp2_with fail
   refine C1.out.mono ?_
   rintro e w4 ⟨rfl,rfl⟩
   clear C1
   go_wp2_with fail
   refine C2.out.mono ?_
   rintro e w4 ⟨rfl,rfl⟩
   clear C2
   cases t3
   all_goals
    go_wp2_with fail
    go_ret
    rw[HR.out]
    exact⟨rfl,H3.out.2⟩
end Go.Proofs.YtkiofbikkhhdfabGreatDoor
