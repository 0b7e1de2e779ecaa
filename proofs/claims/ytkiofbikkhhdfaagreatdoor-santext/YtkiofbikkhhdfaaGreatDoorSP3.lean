import Derived.Test.YtkiofbikkhhdfaaGreatDoorK21
import Derived.Test.YtkiofbikkhhdfaaGreatDoorK13
import Derived.Test.YtkiofbikkhhdfaaGreatDoorK18
import Derived.Test.YtkiofbikkhhdfaaGreatDoorK14
import Derived.Test.YtkiofbikkhhdfaaGreatDoorK19
namespace Go.Proofs.YtkiofbikkhhdfaaGreatDoor
open Go.RowKit
open Utf1 Pol8
set_option maxRecDepth 100000 in
set_option maxHeartbeats 16000000 in
theorem pvalue_any (v1 v2 v3 v4 v5:Value) (p:Pol) (l1 l2 l3 l4 l5:List ByteArray) (e n v:ByteArray) (w:World)(hv:PolV w v1 v2 v3 v4 v5 p l1 l2 l3 l4 l5)(hf:fits p)(he:e.size<=100000)(hn:n.size<=100000)(hz:v.size<=90000) :
  Calls Tryz.prog 124 #[pval p v1 v2 v3 v4 v5,.string e,.agg #[.string n,.string v]] w fun r w'=>r=.returned (.bool (Saf.valueB p (bl e) (bl n) (bl v)))/\Below w.heap.size w w':=by
 obtain⟨R,hR⟩:∃ R,R=Saf.valueB p (bl e) (bl n) (bl v):=⟨_,rfl⟩
 rw[<-hR]
 unfold Saf.valueB at hR
 have HR:=hide hR
 clear hR
 obtain⟨f1,-⟩:=fits_of hf (by simp) hv.e1
 obtain⟨f3,-⟩:=fits_of hf (by simp) hv.e3
 obtain⟨f4,-⟩:=fits_of hf (by simp) hv.e4
 obtain⟨f5,-⟩:=fits_of hf (by simp) hv.e5
 have HV:=hide hv
 obtain⟨o1,k1,rfl,-,-⟩:=hv.s1
 obtain⟨o2,k2,rfl,-,-⟩:=hv.s2
 obtain⟨o3,k3,rfl,-,-⟩:=hv.s3
 obtain⟨o4,k4,rfl,-,-⟩:=hv.s4
 obtain⟨o5,k5,rfl,-,-⟩:=hv.s5
 clear hv
 obtain⟨w1,hw1⟩:∃ w1,w1=(w.alloc (.cells #[.int .i64 p.ep,.slice o1 (List.length l1) k1,.slice o2 (List.length l2) k2,.slice o3 (List.length l3) k3,.slice o4 (List.length l4) k4,.slice o5 (List.length l5) k5,.int .i64 p.dp,.int .i64 p.nd,.int .i64 p.bt] 24)).alloc (.cells #[.string n,.string v] 117):=⟨_,rfl⟩
 have H1:Hid (BoxV w #[.int .i64 p.ep,.slice o1 (List.length l1) k1,.slice o2 (List.length l2) k2,.slice o3 (List.length l3) k3,.slice o4 (List.length l4) k4,.slice o5 (List.length l5) k5,.int .i64 p.dp,.int .i64 p.nd,.int .i64 p.bt] #[.string n,.string v] w1):=hide (by rw[hw1];exact BoxV.new _ _ _)
 have SK:Hid (∀ wx,BoxV w #[.int .i64 p.ep,.slice o1 (List.length l1) k1,.slice o2 (List.length l2) k2,.slice o3 (List.length l3) k3,.slice o4 (List.length l4) k4,.slice o5 (List.length l5) k5,.int .i64 p.dp,.int .i64 p.nd,.int .i64 p.bt] #[.string n,.string v] wx->wx.cell? ⟨w.heap.size,0,none⟩=some (.int .i64 p.ep)/\wx.cell? ⟨w.heap.size,1,none⟩=some (.slice o1 (List.length l1) k1)/\wx.cell? ⟨w.heap.size,2,none⟩=some (.slice o2 (List.length l2) k2)/\wx.cell? ⟨w.heap.size,3,none⟩=some (.slice o3 (List.length l3) k3)/\wx.cell? ⟨w.heap.size,4,none⟩=some (.slice o4 (List.length l4) k4)/\wx.cell? ⟨w.heap.size,5,none⟩=some (.slice o5 (List.length l5) k5)/\wx.cell? ⟨w.heap.size,6,none⟩=some (.int .i64 p.dp)/\wx.cell? ⟨w.heap.size,7,none⟩=some (.int .i64 p.nd)/\wx.cell? ⟨w.heap.size,8,none⟩=some (.int .i64 p.bt)/\wx.cell? ⟨w.heap.size+1,0,none⟩=some (.string n)/\wx.cell? ⟨w.heap.size+1,1,none⟩=some (.string v)/\Hid (BoxV w #[.int .i64 p.ep,.slice o1 (List.length l1) k1,.slice o2 (List.length l2) k2,.slice o3 (List.length l3) k3,.slice o4 (List.length l4) k4,.slice o5 (List.length l5) k5,.int .i64 p.dp,.int .i64 p.nd,.int .i64 p.bt] #[.string n,.string v] wx)):=hide (fun wx h=>⟨h.a 0 _ rfl,h.a 1 _ rfl,h.a 2 _ rfl,h.a 3 _ rfl,h.a 4 _ rfl,h.a 5 _ rfl,h.a 6 _ rfl,h.a 7 _ rfl,h.a 8 _ rfl,h.b 0 _ rfl,h.b 1 _ rfl,hide h⟩)
 have SB:Hid (∀ wx,(wx.cell? ⟨w.heap.size,0,none⟩=some (.int .i64 p.ep)/\wx.cell? ⟨w.heap.size,1,none⟩=some (.slice o1 (List.length l1) k1)/\wx.cell? ⟨w.heap.size,2,none⟩=some (.slice o2 (List.length l2) k2)/\wx.cell? ⟨w.heap.size,3,none⟩=some (.slice o3 (List.length l3) k3)/\wx.cell? ⟨w.heap.size,4,none⟩=some (.slice o4 (List.length l4) k4)/\wx.cell? ⟨w.heap.size,5,none⟩=some (.slice o5 (List.length l5) k5)/\wx.cell? ⟨w.heap.size,6,none⟩=some (.int .i64 p.dp)/\wx.cell? ⟨w.heap.size,7,none⟩=some (.int .i64 p.nd)/\wx.cell? ⟨w.heap.size,8,none⟩=some (.int .i64 p.bt)/\wx.cell? ⟨w.heap.size+1,0,none⟩=some (.string n)/\wx.cell? ⟨w.heap.size+1,1,none⟩=some (.string v)/\Hid (BoxV w #[.int .i64 p.ep,.slice o1 (List.length l1) k1,.slice o2 (List.length l2) k2,.slice o3 (List.length l3) k3,.slice o4 (List.length l4) k4,.slice o5 (List.length l5) k5,.int .i64 p.dp,.int .i64 p.nd,.int .i64 p.bt] #[.string n,.string v] wx))->BoxV w #[.int .i64 p.ep,.slice o1 (List.length l1) k1,.slice o2 (List.length l2) k2,.slice o3 (List.length l3) k3,.slice o4 (List.length l4) k4,.slice o5 (List.length l5) k5,.int .i64 p.dp,.int .i64 p.nd,.int .i64 p.bt] #[.string n,.string v] wx):=hide (fun wx h=>h.2.2.2.2.2.2.2.2.2.2.2.out)
 have C1:Hid (∀ wx,BoxV w #[.int .i64 p.ep,.slice o1 (List.length l1) k1,.slice o2 (List.length l2) k2,.slice o3 (List.length l3) k3,.slice o4 (List.length l4) k4,.slice o5 (List.length l5) k5,.int .i64 p.dp,.int .i64 p.nd,.int .i64 p.bt] #[.string n,.string v] wx->Calls Tryz.prog 47 #[.agg #[.int .i64 p.ep,.slice o1 (List.length l1) k1,.slice o2 (List.length l2) k2,.slice o3 (List.length l3) k3,.slice o4 (List.length l4) k4,.slice o5 (List.length l5) k5,.int .i64 p.dp,.int .i64 p.nd,.int .i64 p.bt],.string e] wx fun r w'=>r=.returned (.bool (decide (bl e∈p.el)))/\BoxV w #[.int .i64 p.ep,.slice o1 (List.length l1) k1,.slice o2 (List.length l2) k2,.slice o3 (List.length l3) k3,.slice o4 (List.length l4) k4,.slice o5 (List.length l5) k5,.int .i64 p.dp,.int .i64 p.nd,.int .i64 p.bt] #[.string n,.string v] w'):=hide (fun wx h=>(pelemC_any _ _ _ _ _ p _ _ _ _ _ e wx (HV.out.below h.2.2) hf he).mono fun _ w' ⟨h1,h2⟩=>⟨h1,h.keep h2⟩)
 have C2:Hid (∀ wx,BoxV w #[.int .i64 p.ep,.slice o1 (List.length l1) k1,.slice o2 (List.length l2) k2,.slice o3 (List.length l3) k3,.slice o4 (List.length l4) k4,.slice o5 (List.length l5) k5,.int .i64 p.dp,.int .i64 p.nd,.int .i64 p.bt] #[.string n,.string v] wx->Calls Tryz.prog 168 #[.string v,.slice o5 l5.length k5] wx fun r w'=>r=.returned (.string ⟨(Sty.filt p.pr (bl v)).toArray⟩)/\BoxV w #[.int .i64 p.ep,.slice o1 (List.length l1) k1,.slice o2 (List.length l2) k2,.slice o3 (List.length l3) k3,.slice o4 (List.length l4) k4,.slice o5 (List.length l5) k5,.int .i64 p.dp,.int .i64 p.nd,.int .i64 p.bt] #[.string n,.string v] w'):=hide (fun wx h=>by
  have:=Sy.filter_any v (.slice o5 l5.length k5) l5 hz f5 wx ((HV.out.below h.2.2).s5)
  rw[HV.out.e5] at this
  exact this.mono fun _ w' ⟨h1,h2⟩=>⟨h1,h.keep h2⟩)
 have C3:Hid (∀ wx,BoxV w #[.int .i64 p.ep,.slice o1 (List.length l1) k1,.slice o2 (List.length l2) k2,.slice o3 (List.length l3) k3,.slice o4 (List.length l4) k4,.slice o5 (List.length l5) k5,.int .i64 p.dp,.int .i64 p.nd,.int .i64 p.bt] #[.string n,.string v] wx->Calls Tryz.prog 169 #[.agg #[.int .i64 p.ep,.slice o1 (List.length l1) k1,.slice o2 (List.length l2) k2,.slice o3 (List.length l3) k3,.slice o4 (List.length l4) k4,.slice o5 (List.length l5) k5,.int .i64 p.dp,.int .i64 p.nd,.int .i64 p.bt],.string e,.string n] wx fun r w'=>r=.returned (.bool (attrB p (bl e) (bl n)))/\BoxV w #[.int .i64 p.ep,.slice o1 (List.length l1) k1,.slice o2 (List.length l2) k2,.slice o3 (List.length l3) k3,.slice o4 (List.length l4) k4,.slice o5 (List.length l5) k5,.int .i64 p.dp,.int .i64 p.nd,.int .i64 p.bt] #[.string n,.string v] w'):=hide (fun wx h=>(pattrB_any _ _ _ _ _ p _ _ _ _ _ e n wx (HV.out.below h.2.2) hf he hn).mono fun _ w' ⟨h1,h2⟩=>⟨h1,h.keep h2⟩)
 have C4:Hid (∀ wx,BoxV w #[.int .i64 p.ep,.slice o1 (List.length l1) k1,.slice o2 (List.length l2) k2,.slice o3 (List.length l3) k3,.slice o4 (List.length l4) k4,.slice o5 (List.length l5) k5,.int .i64 p.dp,.int .i64 p.nd,.int .i64 p.bt] #[.string n,.string v] wx->Calls Tryz.prog 170 #[.string v,.slice o4 l4.length k4] wx fun r w'=>r=.returned (.bool (decide (bl v≠[]) && Saf.classesB p.cl (bl v)))/\BoxV w #[.int .i64 p.ep,.slice o1 (List.length l1) k1,.slice o2 (List.length l2) k2,.slice o3 (List.length l3) k3,.slice o4 (List.length l4) k4,.slice o5 (List.length l5) k5,.int .i64 p.dp,.int .i64 p.nd,.int .i64 p.bt] #[.string n,.string v] w'):=hide (fun wx h=>by
  have:=pclasses_any v (.slice o4 l4.length k4) l4 hz f4 wx ((HV.out.below h.2.2).s4)
  rw[HV.out.e4] at this
  exact this.mono fun _ w' ⟨h1,h2⟩=>⟨h1,h.keep h2⟩)
 have C5:Hid (∀ wx,BoxV w #[.int .i64 p.ep,.slice o1 (List.length l1) k1,.slice o2 (List.length l2) k2,.slice o3 (List.length l3) k3,.slice o4 (List.length l4) k4,.slice o5 (List.length l5) k5,.int .i64 p.dp,.int .i64 p.nd,.int .i64 p.bt] #[.string n,.string v] wx->Calls Tryz.prog 171 #[.string n] wx fun r w'=>r=.returned (.bool (Saf.placeB (bl n)))/\BoxV w #[.int .i64 p.ep,.slice o1 (List.length l1) k1,.slice o2 (List.length l2) k2,.slice o3 (List.length l3) k3,.slice o4 (List.length l4) k4,.slice o5 (List.length l5) k5,.int .i64 p.dp,.int .i64 p.nd,.int .i64 p.bt] #[.string n,.string v] w'):=hide (fun wx h=>(pplace_any n wx).mono fun _ w' ⟨h1,h2⟩=>⟨h1,h.keep h2⟩)
 have C6:Hid (∀ wx,BoxV w #[.int .i64 p.ep,.slice o1 (List.length l1) k1,.slice o2 (List.length l2) k2,.slice o3 (List.length l3) k3,.slice o4 (List.length l4) k4,.slice o5 (List.length l5) k5,.int .i64 p.dp,.int .i64 p.nd,.int .i64 p.bt] #[.string n,.string v] wx->Calls Tryz.prog 172 #[.string v,.slice o3 l3.length k3] wx fun r w'=>r=.returned (.bool (allowed (bl v) p.sc))/\BoxV w #[.int .i64 p.ep,.slice o1 (List.length l1) k1,.slice o2 (List.length l2) k2,.slice o3 (List.length l3) k3,.slice o4 (List.length l4) k4,.slice o5 (List.length l5) k5,.int .i64 p.dp,.int .i64 p.nd,.int .i64 p.bt] #[.string n,.string v] w'):=hide (fun wx h=>by
  have:=Ul.allowed_any v (.slice o3 l3.length k3) l3 wx (by omega) f3 ((HV.out.below h.2.2).s3)
  rw[HV.out.e3] at this
  exact this.mono fun _ w' ⟨h1,h2⟩=>⟨h1,h.keep h2⟩)
 clear HV hf f1 f3 f4 f5
 generalize decide (bl e∈p.el)=r1 at C1 HR
 generalize attrB p (bl e) (bl n)=r3 at C3 HR
 generalize (decide (bl v≠[]) && Saf.classesB p.cl (bl v))=r4 at C4 HR
 generalize Saf.placeB (bl n)=r5 at C5 HR
 generalize allowed (bl v) p.sc=r6 at C6 HR
 obtain⟨F,hF⟩:∃ F:ByteArray,F=⟨(Sty.filt p.pr (bl v)).toArray⟩:=⟨_,rfl⟩
 have hFb:bl F=Sty.filt p.pr (bl v):=by rw[hF]
 rw[<-hF] at C2
 rw[<-hFb] at HR
 clear hF hFb
 have g1:=eq_lit n [114,101,108]
 have g2:=eq_lit n [115,116,121,108,101]
 have g3:=eq_lit n [99,108,97,115,115]
 have g4:=eq_lit e [97]
 have g5:=eq_lit v [110,111,102,111,108,108,111,119,32,110,111,111,112,101,110,101,114]
 have g6:=ne_empty v
 have g6':=empty_bl v
 have g7:=eq_two F v
 obtain⟨y0,y1,y2,y3,y4,y5,y6,y7,y8,z0,z1,-⟩:=SK.out w1 H1.out
 go_enter Tryz.func124,Tryz.ntmps124
 go_upto_region 1 with fail
 rw[<-hw1]
 clear hw1
 go_wp2_with fail
 refine (C1.out _ H1.out).mono ?_
 rintro r w2 ⟨rfl,h2⟩
 have H2:=hide h2
 clear h2 C1 H1 y0 y1 y2 y3 y4 y5 y6 y7 y8 z0 z1
 obtain⟨y0,y1,y2,y3,y4,y5,y6,y7,y8,z0,z1,-⟩:=SK.out w2 H2.out
 cases r1 with
 | false =>
  have HN:Hid (R=false):=hide (by rw[HR.out];rfl)
  clear HR
  go_wp2_with fail
  go_ret
  rw[HN.out]
  exact⟨rfl,H2.out.2.2⟩
 | true =>
  rw[Bool.true_and] at HR
  by_cases hrel:bl n=[114,101,108]
  ·rw[decide_eq_true hrel] at g1
   have HN:Hid (R=(decide (bl e=[97]) && decide (bl v=[110,111,102,111,108,108,111,119,32,110,111,111,112,101,110,101,114]))):=hide (by rw[HR.out,if_pos (show bl n=Saf.relN from hrel)];rfl)
   clear HR hrel
   generalize decide (bl e=[97])=t1 at g4 HN
   generalize decide (bl v=[110,111,102,111,108,108,111,119,32,110,111,111,112,101,110,101,114])=t2 at g5 HN
   cases t1 with
   | false =>
    go_wp2_with fail
    go_ret
    rw[HN.out]
    exact⟨rfl,H2.out.2.2⟩
   | true =>
    go_wp2_with fail
    go_ret
    rw[HN.out]
    exact⟨ret_bool (by simp),H2.out.2.2⟩
  ·rw[decide_eq_false hrel] at g1
   have HR2:=hide (HR.out.trans (if_neg hrel))
   clear HR hrel g4 g5
   by_cases hsty:bl n=[115,116,121,108,101]
   ·rw[decide_eq_true hsty] at g2
    have HN:Hid (R=(decide (bl v≠[]) && decide (bl F=bl v))):=hide (by rw[HR2.out,if_pos (show bl n=Saf.styN from hsty)])
    clear HR2 hsty
    by_cases hve:bl v=[]
    ·rw[decide_eq_false (fun h=>h hve)] at g6 HN
     rw[decide_eq_true hve] at g6'
     go_wp2_with fail
     clear y0 y1 y2 y3 y4 y5 y6 y7 y8 z0 z1
     refine wp_region_held_drew (S:=(fun wx=>wx.cell? ⟨w.heap.size,0,none⟩=some (.int .i64 p.ep)/\wx.cell? ⟨w.heap.size,1,none⟩=some (.slice o1 (List.length l1) k1)/\wx.cell? ⟨w.heap.size,2,none⟩=some (.slice o2 (List.length l2) k2)/\wx.cell? ⟨w.heap.size,3,none⟩=some (.slice o3 (List.length l3) k3)/\wx.cell? ⟨w.heap.size,4,none⟩=some (.slice o4 (List.length l4) k4)/\wx.cell? ⟨w.heap.size,5,none⟩=some (.slice o5 (List.length l5) k5)/\wx.cell? ⟨w.heap.size,6,none⟩=some (.int .i64 p.dp)/\wx.cell? ⟨w.heap.size,7,none⟩=some (.int .i64 p.nd)/\wx.cell? ⟨w.heap.size,8,none⟩=some (.int .i64 p.bt)/\wx.cell? ⟨w.heap.size+1,0,none⟩=some (.string n)/\wx.cell? ⟨w.heap.size+1,1,none⟩=some (.string v)/\Hid (BoxV w #[.int .i64 p.ep,.slice o1 (List.length l1) k1,.slice o2 (List.length l2) k2,.slice o3 (List.length l3) k3,.slice o4 (List.length l4) k4,.slice o5 (List.length l5) k5,.int .i64 p.dp,.int .i64 p.nd,.int .i64 p.bt] #[.string n,.string v] wx))) (by kernel_rfl) (SK.out _ (H2.out.keep ((Below.refl _ _).drew))) (fun hHeld=>?_)
     refine wpAnyH_at (i:=0) (v:=?ve0) (a1:=?xe0) rfl (by kernel_rfl) (by kernel_rfl) (by kernel_rfl) (fun _ _ _ h=>h) (Or.inl ⟨by rfl,?ye0⟩) (by assumption) ?he0 ?ze0
     case ye0=>(intro w hSw;(try dsimp only at hSw);go_simp;try (with_reducible rfl))
     case he0=>(go_simp;exact rfl)
     case ze0 =>
     refine wpAnyH_at (i:=1) (v:=?ve1) (a1:=?xe1) rfl (by kernel_rfl) (by kernel_rfl) (by kernel_rfl) (fun _ _ _ h=>h) (Or.inl ⟨by rfl,?ye1⟩) (by assumption) ?he1 ?ze1
     case ye1=>(intro w hSw;(try dsimp only at hSw);go_simp;try (with_reducible rfl))
     case he1=>(go_simp;exact rfl)
     case ze1 =>
     refine wpAnyH_at (i:=2) (v:=?ve2) (a1:=?xe2) rfl (by kernel_rfl) (by kernel_rfl) (by kernel_rfl) (fun _ _ _ h=>h) (Or.inl ⟨by rfl,?ye2⟩) (by assumption) ?he2 ?ze2
     case ye2=>(intro w hSw;(try dsimp only at hSw);go_simp;try (with_reducible rfl))
     case he2=>(go_simp;exact rfl)
     case ze2 =>
     refine wpAnyH_at (i:=3) (v:=?ve3) (a1:=?xe3) rfl (by kernel_rfl) (by kernel_rfl) (by kernel_rfl) (fun _ _ _ h=>h) (Or.inl ⟨by rfl,?ye3⟩) (by assumption) ?he3 ?ze3
     case ye3=>(intro w hSw;(try dsimp only at hSw);go_simp;try (with_reducible rfl))
     case he3=>(go_simp;exact rfl)
     case ze3 =>
     refine wpAnyH_at (i:=4) (v:=undef) (a1:=?xe4) rfl (by kernel_rfl) (by kernel_rfl) (by kernel_rfl) (fun _ _ _ h=>h) (Or.inr ⟨by rfl,rfl⟩) (by assumption) ?he4 ?ze4
     case he4=>(go_simp;exact rfl)
     case ze4 =>
     refine wpAnyH_at (i:=5) (v:=undef) (a1:=?xe5) rfl (by kernel_rfl) (by kernel_rfl) (by kernel_rfl) (fun _ _ _ h=>h) (Or.inr ⟨by rfl,rfl⟩) (by assumption) ?he5 ?ze5
     case he5=>(go_simp;exact rfl)
     case ze5 =>
     refine wpAnyH_at (i:=6) (v:=undef) (a1:=?xe6) rfl (by kernel_rfl) (by kernel_rfl) (by kernel_rfl) (fun _ _ _ h=>h) (Or.inr ⟨by rfl,rfl⟩) (by assumption) ?he6 ?ze6
     case he6=>(go_simp;exact rfl)
     case ze6 =>
     refine wpAnyH_at (i:=7) (v:=undef) (a1:=?xe7) rfl (by kernel_rfl) (by kernel_rfl) (by kernel_rfl) (fun _ _ _ h=>h) (Or.inr ⟨by rfl,rfl⟩) (by assumption) ?he7 ?ze7
     case he7=>(go_simp;exact rfl)
     case ze7 =>
     refine wpAnyH_at (i:=8) (v:=undef) (a1:=?xe8) rfl (by kernel_rfl) (by kernel_rfl) (by kernel_rfl) (fun _ _ _ h=>h) (Or.inr ⟨by rfl,rfl⟩) (by assumption) ?he8 ?ze8
     case he8=>(go_simp;exact rfl)
     case ze8 =>
     refine wpAnyH_at (i:=9) (v:=undef) (a1:=?xe9) rfl (by kernel_rfl) (by kernel_rfl) (by kernel_rfl) (fun _ _ _ h=>h) (Or.inr ⟨by rfl,rfl⟩) (by assumption) ?he9 ?ze9
     case he9=>(go_simp;exact rfl)
     case ze9 =>
     refine wpAnyH_at (i:=10) (v:=undef) (a1:=?xe10) rfl (by kernel_rfl) (by kernel_rfl) (by kernel_rfl) (fun _ _ _ h=>h) (Or.inr ⟨by rfl,rfl⟩) (by assumption) ?he10 ?ze10
     case he10=>(go_simp;exact rfl)
     case ze10 =>
     refine wpAnyH_at (i:=11) (v:=undef) (a1:=?xe11) rfl (by kernel_rfl) (by kernel_rfl) (by kernel_rfl) (fun _ _ _ h=>h) (Or.inr ⟨by rfl,rfl⟩) (by assumption) ?he11 ?ze11
     case he11=>(go_simp;exact rfl)
     case ze11 =>
     refine wpAnyH_at (i:=12) (v:=?ve12) (a1:=?xe12) rfl (by kernel_rfl) (by kernel_rfl) (by kernel_rfl) (fun _ _ _ h=>h) (Or.inl ⟨by rfl,?ye12⟩) (by assumption) ?he12 ?ze12
     case ye12=>(intro w hSw;(try dsimp only at hSw);go_simp;try (with_reducible rfl))
     case he12=>(go_simp;exact rfl)
     case ze12 =>
     refine wpAnyH_at (i:=13) (v:=?ve13) (a1:=?xe13) rfl (by kernel_rfl) (by kernel_rfl) (by kernel_rfl) (fun _ _ _ h=>h) (Or.inl ⟨by rfl,?ye13⟩) (by assumption) ?he13 ?ze13
     case ye13=>(intro w hSw;(try dsimp only at hSw);go_simp;try (with_reducible rfl))
     case he13=>(go_simp;exact rfl)
     case ze13 =>
     refine wpAnyH_done (by kernel_rfl) ?_ _
     have H7:=hide (SB.out _ (by assumption))
     go_wp2_with fail
     go_ret
     rw[HN.out]
     exact⟨rfl,H7.out.2.2⟩
    ·rw[decide_eq_true hve] at g6 HN
     rw[decide_eq_false hve] at g6'
     generalize decide (bl F=bl v)=t2 at g7 HN
     go_wp2_with fail
     clear y0 y1 y2 y3 y4 y5 y6 y7 y8 z0 z1
     refine wp_region_held_drew (S:=(fun wx=>wx.cell? ⟨w.heap.size,0,none⟩=some (.int .i64 p.ep)/\wx.cell? ⟨w.heap.size,1,none⟩=some (.slice o1 (List.length l1) k1)/\wx.cell? ⟨w.heap.size,2,none⟩=some (.slice o2 (List.length l2) k2)/\wx.cell? ⟨w.heap.size,3,none⟩=some (.slice o3 (List.length l3) k3)/\wx.cell? ⟨w.heap.size,4,none⟩=some (.slice o4 (List.length l4) k4)/\wx.cell? ⟨w.heap.size,5,none⟩=some (.slice o5 (List.length l5) k5)/\wx.cell? ⟨w.heap.size,6,none⟩=some (.int .i64 p.dp)/\wx.cell? ⟨w.heap.size,7,none⟩=some (.int .i64 p.nd)/\wx.cell? ⟨w.heap.size,8,none⟩=some (.int .i64 p.bt)/\wx.cell? ⟨w.heap.size+1,0,none⟩=some (.string n)/\wx.cell? ⟨w.heap.size+1,1,none⟩=some (.string v)/\Hid (BoxV w #[.int .i64 p.ep,.slice o1 (List.length l1) k1,.slice o2 (List.length l2) k2,.slice o3 (List.length l3) k3,.slice o4 (List.length l4) k4,.slice o5 (List.length l5) k5,.int .i64 p.dp,.int .i64 p.nd,.int .i64 p.bt] #[.string n,.string v] wx))) (by kernel_rfl) (SK.out _ (H2.out.keep ((Below.refl _ _).drew))) (fun hHeld=>?_)
     refine wpAnyH_at (i:=0) (v:=?vf0) (a1:=?xf0) rfl (by kernel_rfl) (by kernel_rfl) (by kernel_rfl) (fun _ _ _ h=>h) (Or.inl ⟨by rfl,?yf0⟩) (by assumption) ?hf0 ?zf0
     case yf0=>(intro w hSw;(try dsimp only at hSw);go_simp;try (with_reducible rfl))
     case hf0=>(go_simp;exact rfl)
     case zf0 =>
     refine wpAnyH_at (i:=1) (v:=?vf1) (a1:=?xf1) rfl (by kernel_rfl) (by kernel_rfl) (by kernel_rfl) (fun _ _ _ h=>h) (Or.inl ⟨by rfl,?yf1⟩) (by assumption) ?hf1 ?zf1
     case yf1=>(intro w hSw;(try dsimp only at hSw);go_simp;try (with_reducible rfl))
     case hf1=>(go_simp;exact rfl)
     case zf1 =>
     refine wpAnyH_at (i:=2) (v:=?vf2) (a1:=?xf2) rfl (by kernel_rfl) (by kernel_rfl) (by kernel_rfl) (fun _ _ _ h=>h) (Or.inl ⟨by rfl,?yf2⟩) (by assumption) ?hf2 ?zf2
     case yf2=>(intro w hSw;(try dsimp only at hSw);go_simp;try (with_reducible rfl))
     case hf2=>(go_simp;exact rfl)
     case zf2 =>
     refine wpAnyH_at (i:=3) (v:=?vf3) (a1:=?xf3) rfl (by kernel_rfl) (by kernel_rfl) (by kernel_rfl) (fun _ _ _ h=>h) (Or.inl ⟨by rfl,?yf3⟩) (by assumption) ?hf3 ?zf3
     case yf3=>(intro w hSw;(try dsimp only at hSw);go_simp;try (with_reducible rfl))
     case hf3=>(go_simp;exact rfl)
     case zf3 =>
     refine wpAnyH_at (i:=4) (v:=?vf4) (a1:=?xf4) rfl (by kernel_rfl) (by kernel_rfl) (by kernel_rfl) (fun _ _ _ h=>h) (Or.inl ⟨by rfl,?yf4⟩) (by assumption) ?hf4 ?zf4
     case yf4=>(intro w hSw;(try dsimp only at hSw);go_simp;try (with_reducible rfl))
     case hf4=>(go_simp;exact rfl)
     case zf4 =>
     refine wpAnyH_at (i:=5) (v:=?vf5) (a1:=?xf5) rfl (by kernel_rfl) (by kernel_rfl) (by kernel_rfl) (fun _ _ _ h=>h) (Or.inl ⟨by rfl,?yf5⟩) (by assumption) ?hf5 ?zf5
     case yf5=>(intro w hSw;(try dsimp only at hSw);go_simp;try (with_reducible rfl))
     case hf5=>(go_simp;exact rfl)
     case zf5 =>
     refine wpAnyH_at (i:=6) (v:=?vf6) (a1:=?xf6) rfl (by kernel_rfl) (by kernel_rfl) (by kernel_rfl) (fun _ _ _ h=>h) (Or.inl ⟨by rfl,?yf6⟩) (by assumption) ?hf6 ?zf6
     case yf6=>(intro w hSw;(try dsimp only at hSw);go_simp;try (with_reducible rfl))
     case hf6=>(go_simp;exact rfl)
     case zf6 =>
     refine wpAnyH_at (i:=7) (v:=?vf7) (a1:=?xf7) rfl (by kernel_rfl) (by kernel_rfl) (by kernel_rfl) (fun _ _ _ h=>h) (Or.inl ⟨by rfl,?yf7⟩) (by assumption) ?hf7 ?zf7
     case yf7=>(intro w hSw;(try dsimp only at hSw);go_simp;try (with_reducible rfl))
     case hf7=>(go_simp;exact rfl)
     case zf7 =>
     refine wpAnyH_at (i:=9) (v:=?vf9) (a1:=?xf9) rfl (by kernel_rfl) (by kernel_rfl) (by kernel_rfl) (fun _ _ _ h=>h) (Or.inl ⟨by rfl,?yf9⟩) (by assumption) ?hf9 ?zf9
     case yf9=>(intro w hSw;(try dsimp only at hSw);go_simp;try (with_reducible rfl))
     case hf9=>(go_simp;exact rfl)
     case zf9 =>
     refine wpAnyH_at (i:=10) (v:=?vf10) (a1:=?xf10) rfl (by kernel_rfl) (by kernel_rfl) (by kernel_rfl) (fun _ _ _ h=>h) (Or.inl ⟨by rfl,?yf10⟩) (by assumption) ?hf10 ?zf10
     case yf10=>(intro w hSw;(try dsimp only at hSw);go_simp;try (with_reducible rfl))
     case hf10=>(go_simp;exact rfl)
     case zf10 =>
     refine wpAnyH_ready (rs:=[8]) (by kernel_rfl) (by simp) ?_
     refine AllReadyH.cons rfl (fun K hK=>?_) AllReadyH.nil
     go_simp
     refine (C2.out _ (SB.out _ (by assumption))).mono ?_
     rintro r w6 ⟨rfl,h6⟩
     try go_wp2_with fail
     refine hK.out _ _ (SK.out _ (by assumption)) (fun hHeld2=>?_)
     clear hK K hHeld
     have hHeld:=hHeld2
     clear hHeld2
     refine wpAnyH_at (i:=11) (v:=?vf11) (a1:=?xf11) rfl (by kernel_rfl) (by kernel_rfl) (by kernel_rfl) (fun _ _ _ h=>h) (Or.inl ⟨by rfl,?yf11⟩) (by assumption) ?hf11 ?zf11
     case yf11=>(intro w hSw;(try dsimp only at hSw);go_simp;try (with_reducible rfl))
     case hf11=>(go_simp;exact rfl)
     case zf11 =>
     refine wpAnyH_at (i:=12) (v:=?vf12) (a1:=?xf12) rfl (by kernel_rfl) (by kernel_rfl) (by kernel_rfl) (fun _ _ _ h=>h) (Or.inl ⟨by rfl,?yf12⟩) (by assumption) ?hf12 ?zf12
     case yf12=>(intro w hSw;(try dsimp only at hSw);go_simp;try (with_reducible rfl))
     case hf12=>(go_simp;exact rfl)
     case zf12 =>
     refine wpAnyH_at (i:=13) (v:=?vf13) (a1:=?xf13) rfl (by kernel_rfl) (by kernel_rfl) (by kernel_rfl) (fun _ _ _ h=>h) (Or.inl ⟨by rfl,?yf13⟩) (by assumption) ?hf13 ?zf13
     case yf13=>(intro w hSw;(try dsimp only at hSw);go_simp;try (with_reducible rfl))
     case hf13=>(go_simp;exact rfl)
     case zf13 =>
     refine wpAnyH_done (by kernel_rfl) ?_ _
     have H7:=hide (SB.out _ (by assumption))
     go_wp2_with fail
     go_ret
     rw[HN.out]
     exact⟨ret_bool (by simp),H7.out.2.2⟩
   ·rw[decide_eq_false hsty] at g2
    have HR3:=hide (HR2.out.trans (if_neg hsty))
    clear HR2 hsty C2 g7 g6 g6'
    go_wp2_with fail
    refine (C3.out _ H2.out).mono ?_
    rintro r w3 ⟨rfl,h3⟩
    have H3:=hide h3
    clear h3 C3 H2 y0 y1 y2 y3 y4 y5 y6 y7 y8 z0 z1
    obtain⟨y0,y1,y2,y3,y4,y5,y6,y7,y8,z0,z1,-⟩:=SK.out w3 H3.out
    cases r3 with
    | false =>
     have HN:Hid (R=false):=hide (by rw[HR3.out];rfl)
     clear HR3
     go_wp2_with fail
     go_ret
     rw[HN.out]
     exact⟨rfl,H3.out.2.2⟩
    | true =>
     rw[Bool.true_and] at HR3
     by_cases hcl:bl n=[99,108,97,115,115]
     ·rw[decide_eq_true hcl] at g3
      have HN:Hid (R=r4):=hide (by rw[HR3.out,if_pos (show bl n=Saf.clsN from hcl)])
      clear HR3 hcl
      go_wp2_with fail
      refine (C4.out _ H3.out).mono ?_
      rintro r w4 ⟨rfl,h4⟩
      have H4:=hide h4
      clear h4 C4 H3 y0 y1 y2 y3 y4 y5 y6 y7 y8 z0 z1
      go_wp2_with fail
      go_ret
      rw[HN.out]
      exact⟨rfl,H4.out.2.2⟩
     ·rw[decide_eq_false hcl] at g3
      have HN:Hid (R=(!r5 || r6)):=hide (HR3.out.trans (if_neg hcl))
      clear HR3 hcl
      go_wp2_with fail
      refine (C5.out _ H3.out).mono ?_
      rintro r w4 ⟨rfl,h4⟩
      have H4:=hide h4
      clear h4 C5 H3 y0 y1 y2 y3 y4 y5 y6 y7 y8 z0 z1
      obtain⟨y0,y1,y2,y3,y4,y5,y6,y7,y8,z0,z1,-⟩:=SK.out w4 H4.out
      cases r5 with
      | false =>
       go_wp2_with fail
       go_ret
       rw[HN.out]
       exact⟨rfl,H4.out.2.2⟩
      | true =>
       go_wp2_with fail
       refine (C6.out _ H4.out).mono ?_
       rintro r w5 ⟨rfl,h5⟩
       have H5:=hide h5
       clear h5 C6 H4 y0 y1 y2 y3 y4 y5 y6 y7 y8 z0 z1
       go_wp2_with fail
       go_ret
       rw[HN.out]
       exact⟨ret_bool (by simp),H5.out.2.2⟩
end Go.Proofs.YtkiofbikkhhdfaaGreatDoor
