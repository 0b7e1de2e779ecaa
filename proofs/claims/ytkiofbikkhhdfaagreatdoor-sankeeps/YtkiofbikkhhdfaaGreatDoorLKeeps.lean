import Derived.Test.YtkiofbikkhhdfaaGreatDoorK30
import Derived.Test.YtkiofbikkhhdfaaGreatDoorK31
namespace Go.Proofs.YtkiofbikkhhdfaaGreatDoor.Dm
open Go.RowKit
open Utf1 Pol8
set_option maxRecDepth 100000 in
set_option maxHeartbeats 32000000 in
theorem lawSanKeeps_walk {v1 v2 v3 v4 v5:Value}{p:Pol}{l1 l2 l3 l4 l5:List ByteArray}{v:Value}{ns:List Nd}(w:World)(hv:PolV w v1 v2 v3 v4 v5 p l1 l2 l3 l4 l5)(hk0:NArg w v ns)(hg:To.Glob w)(hgm:To.GlobM w) :
  Calls Tryz.prog 7 #[pval p v1 v2 v3 v4 v5,v] w fun e w'=>e=.returned (.bool true)/\Below w.heap.size w w':=by
 have hk:=hk0.1
 have HV:=hide hv
 have HK:=hide hk
 have HG:=hide (And.intro hg hgm)
 obtain⟨vp,vn,vc,rfl⟩:=nat_slice hk
 obtain⟨o1,k1,rfl,-,-⟩:=hv.s1
 obtain⟨o2,k2,rfl,-,-⟩:=hv.s2
 obtain⟨o3,k3,rfl,-,-⟩:=hv.s3
 obtain⟨o4,k4,rfl,-,-⟩:=hv.s4
 obtain⟨o5,k5,rfl,-,-⟩:=hv.s5
 obtain⟨w1,hw1⟩:∃ w1,w1=w.alloc (.cells #[.int .i64 p.ep,.slice o1 (List.length l1) k1,.slice o2 (List.length l2) k2,.slice o3 (List.length l3) k3,.slice o4 (List.length l4) k4,.slice o5 (List.length l5) k5,.int .i64 p.dp,.int .i64 p.nd,.int .i64 p.bt] 24):=⟨_,rfl⟩
 have H1:Hid (BoxA w #[.int .i64 p.ep,.slice o1 (List.length l1) k1,.slice o2 (List.length l2) k2,.slice o3 (List.length l3) k3,.slice o4 (List.length l4) k4,.slice o5 (List.length l5) k5,.int .i64 p.dp,.int .i64 p.nd,.int .i64 p.bt] w1):=hide (by rw[hw1];exact BoxA.new _ _)
 have CA:=hide (san_awake w1 (HG.out.1.below H1.out.2) (HG.out.2.below H1.out.2))
 have CL:Hid (∀ wx,Below w.heap.size w wx->_):=hide (fun wx h=>rlight_any _ _ _ _ _ p _ _ _ _ _ wx (HV.out.below h))
 have CN:Hid (∀ wx,Below w.heap.size w wx->Calls Tryz.prog 13 #[.slice vp vn vc,.int .i64 0] wx fun e w'=>(∃ b,e=.returned (.bool b)/\(b=true->wsL ns < 20000))/\Below wx.heap.size wx w'):=hide (fun wx h=>(light_nst wx _ ns (HK.out.below h)).mono fun e w' ⟨b,h1,h2,h3⟩=>⟨⟨b,h1,h2⟩,h3⟩)
 have CR:Hid (light p->∀ wx,Below w.heap.size w wx->_):=hide (fun hl wx h=>pright_any _ _ _ _ _ p _ _ _ _ _ wx (HV.out.below h) (light_fits hl))
 have CS:Hid (light p->wsL ns < 20000->∀ wx,Below w.heap.size w wx->_):=hide (fun hl hw wx h=>psafe_any _ _ _ _ _ p _ _ _ _ _ (.slice vp vn vc) ns wx (HV.out.below h) (light_fits hl) (HK.out.below h) (San.sm_wsL ns (by omega)) (by have:=ncL_ws ns;omega))
 have CH:Hid (wsL ns < 20000->∀ wx,Below w.heap.size w wx->_):=hide (fun hw wx h=>html_nst wx (.slice vp vn vc) ns (HK.out.below h) (by have:=htL_len ns;omega))
 have CC:Hid (light p->Right p->wsL ns < 20000->∀ wx u S,bl S=htL ns->fix (htL ns)=htL ns->Below w.heap.size w wx->Uf.IsBytes wx u (bl S)->Calls Tryz.prog 11 #[.agg #[.int .i64 p.ep,.slice o1 (List.length l1) k1,.slice o2 (List.length l2) k2,.slice o3 (List.length l3) k3,.slice o4 (List.length l4) k4,.slice o5 (List.length l5) k5,.int .i64 p.dp,.int .i64 p.nd,.int .i64 p.bt],u] wx fun e w'=>e=.returned (.tuple #[.string ⟨(cleanX p (bl S)).toArray⟩,.int .i64 (cleanE p (bl S))])/\Below wx.heap.size wx w'):=hide (fun hl hp hw wx u S hS hfx h hu=>pclean_any (light_fits hl) _ _ _ _ _ _ _ _ _ _ u (bl S) wx (HV.out.below h) hu (by rw[hS];have:=htL_len ns;omega) (fun hb=>by
  have h16:=hp.c.2.2.2.2
  rw[hS] at hb
  rw[hS,hfx]
  omega) (HG.out.1.below h) (HG.out.2.below h))
 clear hv hk hk0 hg hgm
 go_enter Tryz.func7,Tryz.ntmps7
 go_upto_region 1 with fail
 rw[<-hw1]
 clear hw1
 go_wp2_with fail
 refine CA.out.mono ?_
 rintro e w2 ⟨rfl,h2⟩
 have H2:=hide (H1.out.keep h2)
 have CL2:=hide (CL.out w2 H2.out.2)
 clear CA h2 H1 CL
 have y0:=tag_cell H2.out.1 0 _ rfl
 have y1:=tag_cell H2.out.1 1 _ rfl
 have y2:=tag_cell H2.out.1 2 _ rfl
 have y3:=tag_cell H2.out.1 3 _ rfl
 have y4:=tag_cell H2.out.1 4 _ rfl
 have y5:=tag_cell H2.out.1 5 _ rfl
 have y6:=tag_cell H2.out.1 6 _ rfl
 have y7:=tag_cell H2.out.1 7 _ rfl
 have y8:=tag_cell H2.out.1 8 _ rfl
 go_wp2_with fail
 refine CL2.out.mono ?_
 rintro e w3 ⟨⟨b1,rfl,hb1⟩,h3⟩
 have H3:=hide (H2.out.keep h3)
 have HB1:=hide hb1
 have CN2:=hide (CN.out w3 H3.out.2)
 clear CL2 h3 hb1 H2 y0 y1 y2 y3 y4 y5 y6 y7 y8 CN
 go_wp2_with fail
 refine CN2.out.mono ?_
 rintro e w4 ⟨⟨b2,rfl,hb2⟩,h4⟩
 have H4:=hide (H3.out.keep h4)
 have HB2:=hide hb2
 clear CN2 h4 hb2 H3
 cases b1 with
 | false =>
  clear CC CR CS CH
  go_wp2_with fail
  go_ret
  exact⟨rfl,H4.out.2⟩
 | true =>
 cases b2 with
 | false =>
  clear CC CR CS CH
  go_wp2_with fail
  go_ret
  exact⟨rfl,H4.out.2⟩
 | true =>
 have HLT:=hide (HB1.out rfl)
 have HWS:=hide (HB2.out rfl)
 have CR2:=hide (CR.out HLT.out w4 H4.out.2)
 clear HB1 HB2 CR
 have y0:=tag_cell H4.out.1 0 _ rfl
 have y1:=tag_cell H4.out.1 1 _ rfl
 have y2:=tag_cell H4.out.1 2 _ rfl
 have y3:=tag_cell H4.out.1 3 _ rfl
 have y4:=tag_cell H4.out.1 4 _ rfl
 have y5:=tag_cell H4.out.1 5 _ rfl
 have y6:=tag_cell H4.out.1 6 _ rfl
 have y7:=tag_cell H4.out.1 7 _ rfl
 have y8:=tag_cell H4.out.1 8 _ rfl
 go_wp2_with fail
 refine CR2.out.mono ?_
 rintro e w5 ⟨rfl,h5⟩
 have H5:=hide (H4.out.keep h5)
 have CS2:=hide (CS.out HLT.out HWS.out w5 H5.out.2)
 clear CR2 h5 H4 y0 y1 y2 y3 y4 y5 y6 y7 y8 CS
 cases hrt:right p with
 | false =>
  clear CC CS2 CH hrt
  go_wp2_with fail
  go_ret
  exact⟨rfl,H5.out.2⟩
 | true =>
 have y0:=tag_cell H5.out.1 0 _ rfl
 have y1:=tag_cell H5.out.1 1 _ rfl
 have y2:=tag_cell H5.out.1 2 _ rfl
 have y3:=tag_cell H5.out.1 3 _ rfl
 have y4:=tag_cell H5.out.1 4 _ rfl
 have y5:=tag_cell H5.out.1 5 _ rfl
 have y6:=tag_cell H5.out.1 6 _ rfl
 have y7:=tag_cell H5.out.1 7 _ rfl
 have y8:=tag_cell H5.out.1 8 _ rfl
 go_wp2_with fail
 refine CS2.out.mono ?_
 rintro e w6 ⟨rfl,h6⟩
 have H6:=hide (H5.out.keep h6)
 clear CS2 h6 H5 y0 y1 y2 y3 y4 y5 y6 y7 y8
 cases hsf:Saf.safeB p ns with
 | false =>
  clear CC CH hrt hsf
  go_wp2_with fail
  go_ret
  exact⟨rfl,H6.out.2⟩
 | true =>
 have CH2:=hide (CH.out HWS.out w6 H6.out.2)
 clear CH
 go_wp2_with fail
 refine CH2.out.mono ?_
 rintro e w7 ⟨⟨S,rfl,hS⟩,h7⟩
 have H7:=hide (H6.out.keep h7)
 have y8:=tag_cell H7.out.1 8 _ rfl
 clear CH2 h7 H6
 by_cases hb:(S.size:Int)<=p.bt
 case neg =>
  have g2:p.bt < (S.size:Int):=by omega
  clear hb CC hsf hrt hS
  go_wp2_with fail
  go_ret
  exact⟨rfl,H7.out.2⟩
 have g2:¬ (p.bt < (S.size:Int)):=by omega
 have hSl:S.size=(htL ns).length:=by rw[<-bl_len,hS]
 obtain⟨cap,w8,hcv,hby,hb8⟩:=bytes_of w7 S
 have H8:=hide (H7.out.keep hb8)
 have CF:=hide (Uf.fix_any _ (bl S) w8 hby (by rw[bl_len];have:=htL_len ns;have:=HWS.out;omega))
 obtain⟨Fx,hFx⟩:∃ F:ByteArray,F=⟨(fix (bl S)).toArray⟩:=⟨_,rfl⟩
 rw[<-hFx] at CF
 have HFX:Hid (bl Fx=fix (bl S)):=hide (by rw[hFx])
 have HS:=hide hS
 have HSF:=hide hsf
 have HRT:=hide hrt
 have HBB:=hide hb
 clear hby hb8 hFx hS hsf hrt hb hSl
 go_wp2_with fail
 refine CF.out.mono ?_
 rintro e w9 ⟨rfl,h9⟩
 have H9:=hide (H8.out.keep h9)
 have g3:=eq_two Fx S
 have g4:=ne_two Fx S
 clear CF h9 H8 H7 y8 hcv
 by_cases hfx:bl Fx=bl S
 case neg =>
  rw[decide_eq_false hfx] at g3
  rw[decide_eq_true (show bl Fx≠bl S from hfx)] at g4
  clear hfx CC
  go_wp2_with fail
  go_ret
  exact⟨rfl,H9.out.2⟩
 rw[decide_eq_true hfx] at g3
 rw[decide_eq_false (fun h=>h hfx)] at g4
 obtain⟨cap2,w10,hcv,hby,hb10⟩:=bytes_of w9 S
 have H10:=hide (H9.out.keep hb10)
 have hfx2:fix (htL ns)=htL ns:=by
  have h:=hfx
  rw[HFX.out,HS.out] at h
  exact h
 have hRP:=(right_iff p).1 HRT.out
 have CC2:=hide (CC.out HLT.out hRP HWS.out w10 _ S HS.out hfx2 H10.out.2 hby)
 have e1:cleanX p (bl S)=htL ns:=by
  unfold cleanX
  rw[bl_len,if_pos ⟨HRT.out,HBB.out⟩,HS.out,hfx2]
  exact San.clean_keeps buildT_ok hRP HSF.out
 have e2:cleanE p (bl S)=0:=by
  unfold cleanE
  rw[if_pos HRT.out,bl_len,if_pos HBB.out]
 have e3:(⟨(htL ns).toArray⟩:ByteArray)=S:=by
  apply bl_inj
  rw[HS.out]
 rw[e1,e2,e3] at CC2
 clear hfx CC hby hb10 hfx2 hRP e1 e2 e3
 have y0:=tag_cell H9.out.1 0 _ rfl
 have y1:=tag_cell H9.out.1 1 _ rfl
 have y2:=tag_cell H9.out.1 2 _ rfl
 have y3:=tag_cell H9.out.1 3 _ rfl
 have y4:=tag_cell H9.out.1 4 _ rfl
 have y5:=tag_cell H9.out.1 5 _ rfl
 have y6:=tag_cell H9.out.1 6 _ rfl
 have y7:=tag_cell H9.out.1 7 _ rfl
 have y8:=tag_cell H9.out.1 8 _ rfl
 go_wp2_with fail
 refine CC2.out.mono ?_
 rintro e w11 ⟨rfl,h11⟩
 have HB:=hide (bel2 H10.out.2 h11)
 clear CC2 h11 H9 H10 y0 y1 y2 y3 y4 y5 y6 y7 y8 hcv
 go_wp2_with fail
 go_ret
 exact⟨ret_bool (by simp),HB.out⟩
end Go.Proofs.YtkiofbikkhhdfaaGreatDoor.Dm
