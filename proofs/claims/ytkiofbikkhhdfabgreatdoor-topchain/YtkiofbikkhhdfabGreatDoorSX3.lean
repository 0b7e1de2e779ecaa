import Derived.Test.YtkiofbikkhhdfabGreatDoorK19
import Derived.Test.YtkiofbikkhhdfabGreatDoorSX2
import Derived.Test.YtkiofbikkhhdfabGreatDoorK14
set_option maxRecDepth 100000
set_option maxHeartbeats 16000000
namespace Go.Proofs.YtkiofbikkhhdfabGreatDoor
open Go.RowKit
open Utf1 Pol8
theorem pvalueOf_any (v1 v2 v3 v4 v5:Value) (p:Pol) (l1 l2 l3 l4 l5:List ByteArray) (e n v:ByteArray) (w:World)(hv:PolV w v1 v2 v3 v4 v5 p l1 l2 l3 l4 l5)(hf:fits p)(he:e.size<=100000)(hn:n.size<=100000)(hz:v.size<=90000) :
  Calls Tryz.prog 146 #[pval p v1 v2 v3 v4 v5,.string e,.agg #[.string n,.string v]] w fun r w'=>(∃ (X:ByteArray) (b:Bool),r=.returned (.tuple #[.string X,.bool b])/\San.atP p (bl e) (bl n,bl v)=if b=true then some (bl n,bl X) else none)/\Below w.heap.size w w':=by
 obtain⟨R,hR⟩:∃ R,R=San.atP p (bl e) (bl n,bl v):=⟨_,rfl⟩
 rw[<-hR]
 unfold San.atP at hR
 have HR:=hide hR
 clear hR
 obtain⟨f4,-⟩:=fits_of hf (by simp) hv.e4
 obtain⟨f5,-⟩:=fits_of hf (by simp) hv.e5
 have HV:=hide hv
 obtain⟨o1,k1,rfl,-,-⟩:=hv.s1
 obtain⟨o2,k2,rfl,-,-⟩:=hv.s2
 obtain⟨o3,k3,rfl,-,-⟩:=hv.s3
 obtain⟨o4,k4,rfl,-,-⟩:=hv.s4
 obtain⟨o5,k5,rfl,-,-⟩:=hv.s5
 clear hv
 obtain⟨w1,hw1⟩:∃ w1,w1=(w.alloc (.cells #[.int .i64 p.ep,.slice o1 (List.length l1) k1,.slice o2 (List.length l2) k2,.slice o3 (List.length l3) k3,.slice o4 (List.length l4) k4,.slice o5 (List.length l5) k5,.int .i64 p.dp,.int .i64 p.nd,.int .i64 p.bt] 24)).alloc (.cells #[.string n,.string v] 108):=⟨_,rfl⟩
 have H1:Hid (BoxV w #[.int .i64 p.ep,.slice o1 (List.length l1) k1,.slice o2 (List.length l2) k2,.slice o3 (List.length l3) k3,.slice o4 (List.length l4) k4,.slice o5 (List.length l5) k5,.int .i64 p.dp,.int .i64 p.nd,.int .i64 p.bt] #[.string n,.string v] w1):=hide (by rw[hw1];exact BoxV.new _ _ _)
 have y0:=H1.out.a 0 _ rfl
 have y1:=H1.out.a 1 _ rfl
 have y2:=H1.out.a 2 _ rfl
 have y3:=H1.out.a 3 _ rfl
 have y4:=H1.out.a 4 _ rfl
 have y5:=H1.out.a 5 _ rfl
 have y6:=H1.out.a 6 _ rfl
 have y7:=H1.out.a 7 _ rfl
 have y8:=H1.out.a 8 _ rfl
 have z0:=H1.out.b 0 _ rfl
 have z1:=H1.out.b 1 _ rfl
 have g1:=eq_lit n [114,101,108]
 have g2:=eq_lit n [115,116,121,108,101]
 have g3:=eq_lit n [99,108,97,115,115]
 by_cases hrel:bl n=[114,101,108]
 ·rw[decide_eq_true hrel] at g1
  have HN:Hid (R=none):=hide (by rw[HR.out,if_pos (show bl n=Saf.relN from hrel)])
  clear HR HV hrel g2 g3 y0 y1 y2 y3 y4 y5 y6 y7 y8 z1
  go_enter Tryz.func146,Tryz.ntmps146
  go_upto_region 1 with fail
  rw[<-hw1]
  clear hw1
  go_wp2_with fail
  go_ret2
  exact⟨⟨_,_,rfl,HN.out⟩,H1.out.2.2⟩
 rw[decide_eq_false hrel] at g1
 by_cases hsty:bl n=[115,116,121,108,101]
 ·rw[decide_eq_true hsty] at g2
  obtain⟨F,hF⟩:∃ F:ByteArray,F=⟨(Sty.filt p.pr (bl v)).toArray⟩:=⟨_,rfl⟩
  have hFb:bl F=Sty.filt p.pr (bl v):=by rw[hF]
  have HC:=hide (Sy.filter_any v (.slice o5 l5.length k5) l5 hz f5 w1 ((HV.out.below H1.out.2.2).s5))
  rw[HV.out.e5,<-hF] at HC
  have HN:Hid (R=if bl F=[] then none else some (bl n,bl F)):=hide (by rw[HR.out,if_neg (show ¬ bl n=Saf.relN from hrel),if_pos (show bl n=Saf.styN from hsty),hFb])
  have g6:=ne_empty F
  have g6':=empty_bl F
  clear HR HV hrel hsty g3 y0 y1 y2 y3 y4 y6 y7 y8 hF hFb
  go_enter Tryz.func146,Tryz.ntmps146
  go_upto_region 1 with fail
  rw[<-hw1]
  clear hw1
  go_wp2_with fail
  refine HC.out.mono ?_
  rintro r w2 ⟨rfl,h2⟩
  have HB:=hide (bel2 H1.out.2.2 h2)
  clear HC h2 H1 z0 z1 y5
  by_cases h0:bl F=[]
  ·rw[decide_eq_true h0] at g6'
   rw[decide_eq_false (fun h=>h h0)] at g6
   have HN2:Hid (R=none):=hide (by rw[HN.out,if_pos h0])
   clear HN h0
   go_wp2_with fail
   go_ret2
   exact⟨⟨_,_,rfl,HN2.out⟩,HB.out⟩
  ·rw[decide_eq_false h0] at g6'
   rw[decide_eq_true h0] at g6
   have HN2:Hid (R=some (bl n,bl F)):=hide (by rw[HN.out,if_neg h0])
   clear HN h0
   go_wp2_with fail
   go_ret2
   exact⟨⟨_,_,rfl,HN2.out⟩,HB.out⟩
 rw[decide_eq_false hsty] at g2
 by_cases hcls:bl n=[99,108,97,115,115]
 ·rw[decide_eq_true hcls] at g3
  obtain⟨F,hF⟩:∃ F:ByteArray,F=⟨(San.clsO p.cl (bl v)).toArray⟩:=⟨_,rfl⟩
  have hFb:bl F=San.clsO p.cl (bl v):=by rw[hF]
  have HA:=hide (pattrB_any _ _ _ _ _ p _ _ _ _ _ e n w1 (HV.out.below H1.out.2.2) hf he hn)
  have HC:Hid (∀ w2,Below w1.heap.size w1 w2->_):=hide (fun w2 h=>pclassesOf_any v (.slice o4 l4.length k4) l4 hz f4 w2 ((HV.out.below (bel2 H1.out.2.2 h)).s4))
  rw[HV.out.e4,<-hF] at HC
  have HN:Hid (R=if attrB p (bl e) (bl n)=true/\San.clsK p.cl (bl v)≠[] then some (bl n,bl F) else none):=hide (by rw[HR.out,if_neg (show ¬ bl n=Saf.relN from hrel),if_neg (show ¬ bl n=Saf.styN from hsty),if_pos (show bl n=Saf.clsN from hcls),hFb])
  have HNE:Hid (decide (San.clsK p.cl (bl v)≠[])=true ↔ San.clsK p.cl (bl v)≠[]):=hide decide_eq_true_iff
  generalize decide (San.clsK p.cl (bl v)≠[])=r2 at HC HNE
  generalize attrB p (bl e) (bl n)=r1 at HA HN
  clear HR HV hrel hsty hcls hF hFb
  go_enter Tryz.func146,Tryz.ntmps146
  go_upto_region 1 with fail
  rw[<-hw1]
  clear hw1
  go_wp2_with fail
  refine HA.out.mono ?_
  rintro r w2 ⟨rfl,h2⟩
  have H2:=hide (H1.out.keep h2)
  have HC2:=hide (HC.out w2 h2)
  have y4:=H2.out.a 4 _ rfl
  have z1:=H2.out.b 1 _ rfl
  clear HA HC h2 H1 z0 y0 y1 y2 y3 y5 y6 y7 y8
  cases r1 with
  | false =>
   have HN2:Hid (R=none):=hide (by rw[HN.out,if_neg (fun h=>by cases h.1)])
   go_wp2_with fail
   go_ret2
   exact⟨⟨_,_,rfl,HN2.out⟩,H2.out.2.2⟩
  | true =>
   go_wp2_with fail
   refine HC2.out.mono ?_
   rintro r w3 ⟨rfl,h3⟩
   have HB:=hide (bel2 H2.out.2.2 h3)
   have HN2:Hid (R=if r2=true then some (bl n,bl F) else none):=hide (by
    rw[HN.out]
    by_cases hr:r2=true
    ·rw[if_pos hr,if_pos ⟨by trivial,HNE.out.1 hr⟩]
    ·rw[if_neg hr,if_neg (fun h=>hr (HNE.out.2 h.2))])
   clear HC2 h3 H2 HN y4 z1
   go_wp2_with fail
   go_ret2
   exact⟨⟨_,_,rfl,HN2.out⟩,HB.out⟩
 rw[decide_eq_false hcls] at g3
 have HC:=hide (pvalue_any _ _ _ _ _ p _ _ _ _ _ e n v w1 (HV.out.below H1.out.2.2) hf he hn hz)
 have HN:Hid (R=if Saf.valueB p (bl e) (bl n) (bl v)=true then some (bl n,bl v) else none):=hide (by rw[HR.out,if_neg (show ¬ bl n=Saf.relN from hrel),if_neg (show ¬ bl n=Saf.styN from hsty),if_neg (show ¬ bl n=Saf.clsN from hcls)])
 generalize Saf.valueB p (bl e) (bl n) (bl v)=r1 at HC HN
 have HL:=hide (fun w2=>Dm.clone_any v w2 (by omega))
 clear HR HV hrel hsty hcls
 go_enter Tryz.func146,Tryz.ntmps146
 go_upto_region 1 with fail
 rw[<-hw1]
 clear hw1
 go_wp2_with fail
 refine HC.out.mono ?_
 rintro r w2 ⟨rfl,h2⟩
 have H2:=hide (H1.out.keep h2)
 have z1:=H2.out.b 1 _ rfl
 clear HC h2 H1 z0 y0 y1 y2 y3 y4 y5 y6 y7 y8
 cases r1 with
 | false =>
  have HN2:Hid (R=none):=hide (by rw[HN.out,if_neg (fun h=>by cases h)])
  clear HN
  go_wp2_with fail
  go_ret2
  exact⟨⟨_,_,rfl,HN2.out⟩,H2.out.2.2⟩
 | true =>
  have HN2:Hid (R=some (bl n,bl v)):=hide (by rw[HN.out,if_pos rfl])
  clear HN
  go_wp2_with fail
  refine (HL.out _).mono ?_
  rintro r w3 ⟨rfl,h3⟩
  have HB:=hide (bel2 H2.out.2.2 h3)
  clear HL h3 H2 z1
  go_wp2_with fail
  go_ret2
  exact⟨⟨_,_,rfl,HN2.out⟩,HB.out⟩
end Go.Proofs.YtkiofbikkhhdfabGreatDoor
