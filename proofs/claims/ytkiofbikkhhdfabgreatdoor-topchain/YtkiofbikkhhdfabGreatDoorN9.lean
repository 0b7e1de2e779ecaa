import Derived.Test.YtkiofbikkhhdfabGreatDoorK17
import Derived.Deep.CutRange
set_option maxRecDepth 100000
set_option maxHeartbeats 16000000
namespace Go.Proofs.YtkiofbikkhhdfabGreatDoor.Dm
open Go.RowKit
open Utf1
theorem elem_stable (w:World) (nd:Nd) (ap:Option Addr) (am ac:Nat) (XN XT:ByteArray) (kp:Option Addr) (km kc:Nat) (p i b:Bool)(hXN:XN=⟨nd.name.toArray⟩)(hXT:XT=⟨nd.text.toArray⟩)(hne:nd.name≠[])(hnl:nd.name.length<=281474976710656)(hkm:km=nd.kids.length)(hkb:km<=9223372036854775807)(ha:ARow w ap am nd.attrs)
  (hkid:∀ wx p' i',Below w.heap.size w wx->Calls Tryz.prog 65 #[.slice kp km kc,.agg #[.bool p',.bool i',.bool false]] wx fun e w'=>e=.returned (.bool (stL p' i' false nd.kids))/\Below wx.heap.size wx w') :
  Calls Tryz.prog 208 #[.agg #[.string XN,.slice ap am ac,.string XT,.slice kp km kc],.agg #[.bool p,.bool i,.bool b]] w fun e w'=>e=.returned (.bool (stN p i b nd))/\Below w.heap.size w w':=by
 have hst:=stN_kids p i b nd
 rw[if_neg hne] at hst
 have hN:bl XN=nd.name:=by rw[hXN]
 have hT:bl XT=nd.text:=by rw[hXT]
 rw[<-hN] at hst
 have hNl:XN.size<=281474976710656:=by rw[hXN];exact hnl
 have qT:XT.toList.isEmpty=nd.text.isEmpty:=by rw[hXT,ByteArray.toList_eq]
 obtain⟨w1,hw1⟩:∃ w1,w1=(w.alloc (.cells #[.string XN,.slice ap am ac,.string XT,.slice kp km kc] 162)).alloc (.cells #[.bool p,.bool i,.bool b] 104):=⟨_,rfl⟩
 have hb1:Below w.heap.size w w1:=by rw[hw1];exact ((Below.refl _ _).alloc (Nat.le_refl _) _).alloc (by simp) _
 have hold:∀ j v,(w.alloc (.cells #[.string XN,.slice ap am ac,.string XT,.slice kp km kc] 162)).cell? ⟨w.heap.size,j,none⟩=some v->w1.cell? ⟨w.heap.size,j,none⟩=some v:=by
  intro j v h
  rw[hw1]
  exact cell_keep h ((Below.refl _ _).alloc (Nat.le_refl _) _)
 have y0:w1.cell? ⟨w.heap.size,0,none⟩=some (.string XN):=hold 0 _ (by rw[new_cell];rfl)
 have y1:w1.cell? ⟨w.heap.size,1,none⟩=some (.slice ap am ac):=hold 1 _ (by rw[new_cell];rfl)
 have y2:w1.cell? ⟨w.heap.size,2,none⟩=some (.string XT):=hold 2 _ (by rw[new_cell];rfl)
 have y3:w1.cell? ⟨w.heap.size,3,none⟩=some (.slice kp km kc):=hold 3 _ (by rw[new_cell];rfl)
 have hsz:(w.alloc (.cells #[.string XN,.slice ap am ac,.string XT,.slice kp km kc] 162)).heap.size=w.heap.size+1:=by simp
 have z0:w1.cell? ⟨w.heap.size+1,0,none⟩=some (.bool p):=by rw[hw1,<-hsz,new_cell];rfl
 have z1:w1.cell? ⟨w.heap.size+1,1,none⟩=some (.bool i):=by rw[hw1,<-hsz,new_cell];rfl
 have z2:w1.cell? ⟨w.heap.size+1,2,none⟩=some (.bool b):=by rw[hw1,<-hsz,new_cell];rfl
 have HME:=hide (fun w=>mayBeElement_any XN w (by omega))
 have HMA:=hide (mayBeAttrs_any ap am ac nd.attrs w1 (ha.below hb1))
 have HB1:=hide hb1
 have HK:=hide (fun wx p' i' (hx:Below w.heap.size w wx)=>hkid wx p' i' hx)
 have HKM:Hid (nd.kids.isEmpty=decide (km=0)):=hide (by rw[hkm];cases nd.kids <;> simp)
 have q2:=lit_eq XN [108,105]
 have HBK:=hide (fun w=>block_any XN w)
 have HVD:=hide (fun w=>void_any XN w)
 have HWI:=hide (fun wx=>within_any p i b XN wx)
 obtain⟨tE,htE⟩:∃ x,x=nd.text.isEmpty:=⟨_,rfl⟩
 obtain⟨mE,hmE⟩:∃ x,x=mayE (bl XN):=⟨_,rfl⟩
 obtain⟨mA,hmA⟩:∃ x,x=mayA nd.attrs:=⟨_,rfl⟩
 obtain⟨bk,hbk⟩:∃ x,x=decide (bl XN∈blocks):=⟨_,rfl⟩
 obtain⟨lq,hlq⟩:∃ x,x=decide (bl XN=[108,105]):=⟨_,rfl⟩
 have hvv:(if bl XN∈voids then nd.kids.isEmpty else stL (p || decide (bl XN=[112])) (itm i (bl XN)) false nd.kids)=if decide (bl XN∈voids)=true then decide (km=0) else stL (p || decide (bl XN=[112])) (itm i (bl XN)) false nd.kids:=by
  rw[HKM.out]
  by_cases h:bl XN∈voids
  ·rw[if_pos h,if_pos (decide_eq_true h)]
  ·rw[if_neg h,if_neg (by rw[decide_eq_false h];decide)]
 rw[hvv,<-htE,<-hmE,<-hmA,<-hbk,<-hlq] at hst
 obtain⟨vd,hvd⟩:∃ x,x=decide (bl XN∈voids):=⟨_,rfl⟩
 obtain⟨pp,hpp⟩:∃ x,x=(p || decide (bl XN=[112])):=⟨_,rfl⟩
 obtain⟨ii,hii⟩:∃ x,x=itm i (bl XN):=⟨_,rfl⟩
 rw[<-hvd,<-hpp,<-hii] at hst
 rw[<-hpp,<-hii] at HWI
 rw[<-hvd] at HVD
 rw[<-hbk] at HBK
 rw[<-hmE] at HME
 rw[<-hmA] at HMA
 rw[<-htE] at qT
 rw[<-hlq] at q2
 have HST:=hide hst
 have HKK:=hide (fun wx (hx:Below w.heap.size w wx)=>hkid wx pp ii hx)
 obtain⟨sk,hsk⟩:∃ x,x=stL pp ii false nd.kids:=⟨_,rfl⟩
 rw[<-hsk] at HST HKK
 clear hst hvv htE hmE hmA hbk hlq hvd hpp hii hsk hkid hold hsz hb1 hN hT hXN hXT hne hnl hNl ha HK HKM hkm
 cases tE with
 | false =>
  rw[HST.out]
  go_enter Tryz.func208,Tryz.ntmps208
  go_upto_region 1 with fail
  rw[<-hw1]
  clear hw1
  go_wp2_with fail
  all_goals
   go_ret
   exact⟨rfl,HB1.out⟩
 | true =>
 cases mE with
 | false =>
  rw[HST.out]
  go_enter Tryz.func208,Tryz.ntmps208
  go_upto_region 1 with fail
  rw[<-hw1]
  clear hw1
  go_wp2_with fail
  refine (HME.out _).mono ?_
  rintro e w2 ⟨rfl,rfl⟩
  go_wp2_with fail
  all_goals
   go_ret
   exact⟨rfl,HB1.out⟩
 | true =>
 have hbA:Hid (∀ w',Below w1.heap.size w1 w'->Below w.heap.size w w'):=hide (fun w' h=>bel2 HB1.out h)
 cases mA with
 | false =>
  rw[HST.out]
  go_enter Tryz.func208,Tryz.ntmps208
  go_upto_region 1 with fail
  rw[<-hw1]
  clear hw1
  go_wp2_with fail
  refine (HME.out _).mono ?_
  rintro e w2 ⟨rfl,rfl⟩
  go_wp2_with fail
  refine HMA.out.mono ?_
  rintro e w3 ⟨rfl,hb3⟩
  have HB3:=hide (bel2 HB1.out hb3)
  clear hb3
  go_wp2_with fail
  all_goals
   go_ret
   exact⟨rfl,HB3.out⟩
 | true =>
 have HST2:Hid (stN p i b nd=(!((p && bk) || (i && lq)) && (if vd=true then decide (km=0) else sk))):=hide (by rw[HST.out];rfl)
 clear HST
 obtain⟨R,hR⟩:∃ R,R=stN p i b nd:=⟨_,rfl⟩
 rw[<-hR] at HST2 ⊢
 clear hR
 go_enter Tryz.func208,Tryz.ntmps208
 go_upto_region 1 with fail
 rw[<-hw1]
 clear hw1
 go_wp2_with fail
 refine (HME.out _).mono ?_
 rintro e w2 ⟨rfl,rfl⟩
 clear HME
 go_wp2_with fail
 refine HMA.out.mono ?_
 rintro e w3 ⟨rfl,hb3⟩
 have HB3:=hide (bel2 HB1.out hb3)
 have y0:=cell_keep y0 hb3
 have y3:=cell_keep y3 hb3
 have z0:=cell_keep z0 hb3
 have z1:=cell_keep z1 hb3
 have z2:=cell_keep z2 hb3
 clear hb3 HMA y1 y2 HB1 hbA
 go_upto_region 3 with fail
 go_cut [35] from 20 (fun v35 wc=>v35=.bool ((p && bk) || (i && lq))/\wc=w3)
 case first =>
  clear HKK HWI HVD HB3 y3
  cases p <;> cases bk <;> cases i <;> cases lq <;> (go_wp2_with fail;try (refine (HBK.out _).mono ?_;rintro e w4 ⟨rfl,rfl⟩;go_wp2_with fail)) <;> go_meet <;> (first | exact⟨rfl,rfl⟩ | trace_state)
 case rest =>
  obtain⟨rfl,rfl⟩:=hcut
  clear HBK q2
  generalize (p && bk || i && lq)=X at HST2 ⊢
  cases X with
  | true =>
   have HR:Hid (R=false):=hide HST2.out
   clear HST2
   go_wp2_with fail
   all_goals
    go_ret
    exact⟨ret_bool HR.out.symm,HB3.out⟩
  | false =>
   cases vd with
   | true =>
    have HR:Hid (R=decide (km=0)):=hide HST2.out
    clear HKK HWI HST2
    go_wp2_with fail
    refine (HVD.out _).mono ?_
    rintro e w5 ⟨rfl,rfl⟩
    go_wp2_with fail
    all_goals
     go_ret
     refine⟨ret_bool ?_,HB3.out⟩
     rw[HR.out]
     by_cases h:km=0
     ·subst h
      rfl
     ·rw[decide_eq_false h]
      simp
      omega
   | false =>
    have HR:Hid (R=sk):=hide HST2.out
    clear HST2
    go_wp2_with fail
    refine (HVD.out _).mono ?_
    rintro e w5 ⟨rfl,rfl⟩
    clear HVD
    have HWD:=hide (HWI.out (World.drew w5))
    have HKX:=hide (fun wx (hx:Below w5.heap.size w5 wx)=>HKK.out wx (bel2 HB3.out hx))
    clear HWI HKK
    go_upto_region 7 with fail
    go_region_with (first | (go_at_call 205;refine HWD.out.mono ?_;rintro e wE ⟨rfl,hbE⟩;have y3:(World.drew w5).cell? ⟨w.heap.size,3,none⟩=some (.slice kp km kc):=y3;have y3:=cell_keep y3 hbE;have HBE:=hide (bel2 (bel_one w5) hbE);clear hbE) | (go_at_call 65;refine (HKX.out _ HBE.out).mono ?_;rintro e wF ⟨rfl,hbF⟩;have HF:=hide (bel2 HB3.out (bel2 HBE.out hbF));clear hbF))
    all_goals
     go_wp2_with fail
     go_ret
     exact⟨ret_bool HR.out.symm,HF.out⟩
end Go.Proofs.YtkiofbikkhhdfabGreatDoor.Dm
