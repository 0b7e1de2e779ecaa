import Derived.Test.YtkiofbikkhhdfaaGreatDoorK30
namespace Go.Proofs.YtkiofbikkhhdfaaGreatDoor.Dm
open Go.RowKit
open Utf1 Pol8
set_option maxRecDepth 100000 in
set_option maxHeartbeats 32000000 in
theorem lawSanAgain_walk {v1 v2 v3 v4 v5:Value}{p:Pol}{l1 l2 l3 l4 l5:List ByteArray}{v:Value}{raw:List UInt8}(w:World)(hv:PolV w v1 v2 v3 v4 v5 p l1 l2 l3 l4 l5)(hr:Uf.IsBytes w v raw)(hg:To.Glob w)(hgm:To.GlobM w) :
  Calls Tryz.prog 6 #[pval p v1 v2 v3 v4 v5,v] w fun e w'=>e=.returned (.bool true)/\Below w.heap.size w w':=by
 have HV:=hide hv
 have HRW:=hide hr
 have HG:=hide (And.intro hg hgm)
 obtain⟨vp,vc,rfl⟩:∃ a c,v=.slice a raw.length c:=by
  rcases hr with⟨rfl,rfl⟩ | ⟨x,cap,rfl,-⟩
  ·exact⟨_,_,rfl⟩
  ·exact⟨_,_,rfl⟩
 obtain⟨N,hN⟩:∃ N,N=raw.length:=⟨_,rfl⟩
 rw[<-hN]
 obtain⟨o1,k1,rfl,-,-⟩:=hv.s1
 obtain⟨o2,k2,rfl,-,-⟩:=hv.s2
 obtain⟨o3,k3,rfl,-,-⟩:=hv.s3
 obtain⟨o4,k4,rfl,-,-⟩:=hv.s4
 obtain⟨o5,k5,rfl,-,-⟩:=hv.s5
 obtain⟨w1,hw1⟩:∃ w1,w1=w.alloc (.cells #[.int .i64 p.ep,.slice o1 (List.length l1) k1,.slice o2 (List.length l2) k2,.slice o3 (List.length l3) k3,.slice o4 (List.length l4) k4,.slice o5 (List.length l5) k5,.int .i64 p.dp,.int .i64 p.nd,.int .i64 p.bt] 24):=⟨_,rfl⟩
 have H1:Hid (BoxA w #[.int .i64 p.ep,.slice o1 (List.length l1) k1,.slice o2 (List.length l2) k2,.slice o3 (List.length l3) k3,.slice o4 (List.length l4) k4,.slice o5 (List.length l5) k5,.int .i64 p.dp,.int .i64 p.nd,.int .i64 p.bt] w1):=hide (by rw[hw1];exact BoxA.new _ _)
 have CA:=hide (san_awake w1 (HG.out.1.below H1.out.2) (HG.out.2.below H1.out.2))
 have CL:Hid (∀ wx,Below w.heap.size w wx->_):=hide (fun wx h=>rlight_any _ _ _ _ _ p _ _ _ _ _ wx (HV.out.below h))
 have CC:Hid (light p->N<=3000->∀ wx,Below w.heap.size w wx->Calls Tryz.prog 11 #[.agg #[.int .i64 p.ep,.slice o1 (List.length l1) k1,.slice o2 (List.length l2) k2,.slice o3 (List.length l3) k3,.slice o4 (List.length l4) k4,.slice o5 (List.length l5) k5,.int .i64 p.dp,.int .i64 p.nd,.int .i64 p.bt],.slice vp N vc] wx fun e w'=>e=.returned (.tuple #[.string ⟨(cleanX p raw).toArray⟩,.int .i64 (cleanE p raw)])/\Below wx.heap.size wx w'):=hide (fun hlt hn wx h=>by
  have h4:=fix_len4 raw
  have:=pclean_any (light_fits hlt) _ _ _ _ _ _ _ _ _ _ _ raw wx (HV.out.below h) (bytes_below HRW.out h) (by omega) (fun _=>by omega) (HG.out.1.below h) (HG.out.2.below h)
  rw[<-hN] at this
  exact this)
 have HNR:=hide hN
 clear hv hr hg hgm hN
 go_enter Tryz.func6,Tryz.ntmps6
 go_upto_region 1 with fail
 rw[<-hw1]
 clear hw1
 go_wp2_with fail
 refine CA.out.mono ?_
 rintro e w2 ⟨rfl,h2⟩
 have H2:=hide (H1.out.keep h2)
 have CL2:=hide (CL.out w2 H2.out.2)
 clear CA h2 H1 CL
 have y0:=tag_cell H2.out.1 0 _ rfl
 have y1:=tag_cell H2.out.1 1 _ rfl
 have y2:=tag_cell H2.out.1 2 _ rfl
 have y3:=tag_cell H2.out.1 3 _ rfl
 have y4:=tag_cell H2.out.1 4 _ rfl
 have y5:=tag_cell H2.out.1 5 _ rfl
 have y6:=tag_cell H2.out.1 6 _ rfl
 have y7:=tag_cell H2.out.1 7 _ rfl
 have y8:=tag_cell H2.out.1 8 _ rfl
 go_wp2_with fail
 refine CL2.out.mono ?_
 rintro e w3 ⟨⟨b1,rfl,hb1⟩,h3⟩
 have H3:=hide (H2.out.keep h3)
 have HB1:=hide hb1
 clear CL2 h3 hb1 H2 y0 y1 y2 y3 y4 y5 y6 y7 y8
 cases b1 with
 | false =>
  clear CC
  go_wp2_with fail
  go_ret
  exact⟨rfl,H3.out.2⟩
 | true =>
 have HLT:=hide (HB1.out rfl)
 clear HB1
 by_cases hn:N<=3000
 case neg =>
  have g1:3000 < N:=by omega
  clear CC hn
  go_wp2_with fail
  go_ret
  exact⟨rfl,H3.out.2⟩
 have g1:¬ (3000 < N):=by omega
 have HN3:=hide hn
 have CC2:=hide (CC.out HLT.out hn w3 H3.out.2)
 clear CC hn
 have y0:=tag_cell H3.out.1 0 _ rfl
 have y1:=tag_cell H3.out.1 1 _ rfl
 have y2:=tag_cell H3.out.1 2 _ rfl
 have y3:=tag_cell H3.out.1 3 _ rfl
 have y4:=tag_cell H3.out.1 4 _ rfl
 have y5:=tag_cell H3.out.1 5 _ rfl
 have y6:=tag_cell H3.out.1 6 _ rfl
 have y7:=tag_cell H3.out.1 7 _ rfl
 have y8:=tag_cell H3.out.1 8 _ rfl
 by_cases hok:right p=true/\(raw.length:Int)<=p.bt
 case neg =>
  obtain⟨E,hE,hE0⟩:∃ E:Int,E=cleanE p raw/\(E != 0)=true:=⟨_,rfl,by
   unfold cleanE
   split
   ·rename_i hr
    rw[if_neg (fun h=>hok ⟨hr,h⟩)]
    rfl
   ·rfl⟩
  rw[<-hE] at CC2
  clear hok hE
  go_wp2_with fail
  refine CC2.out.mono ?_
  rintro e w4 ⟨rfl,h4⟩
  have HB:=hide (bel2 H3.out.2 h4)
  clear CC2 h4 H3 y0 y1 y2 y3 y4 y5 y6 y7 y8
  go_wp2_with fail
  go_ret
  exact⟨rfl,HB.out⟩
 obtain⟨t,hsf,ht,hbt,hsm,hnc,hws,hpl⟩:=clean_sm ((right_iff p).1 hok.1) (s:=fix raw) (by have:=fix_len4 raw;have:=HN3.out;have:=HNR.out;omega)
 have hag:=San.clean_again buildT_ok ((right_iff p).1 hok.1) raw
 have HE:Hid (cleanE p raw=0):=hide (by unfold cleanE;rw[if_pos hok.1,if_pos hok.2])
 have hX:cleanX p raw=htL t:=by unfold cleanX;rw[if_pos hok,ht]
 rw[ht] at hag hpl
 rw[HE.out,hX] at CC2
 obtain⟨S,hS⟩:∃ S:ByteArray,S=⟨(htL t).toArray⟩:=⟨_,rfl⟩
 have hSb:bl S=htL t:=by rw[hS]
 rw[<-hS] at CC2
 have hbt2:=((right_iff p).1 hok.1).c.2.2.2.2
 have hSl:S.size=(htL t).length:=by rw[<-bl_len,hSb]
 have CX:Hid (∀ wx u,Below w.heap.size w wx->Uf.IsBytes wx u (bl S)->Calls Tryz.prog 11 #[.agg #[.int .i64 p.ep,.slice o1 (List.length l1) k1,.slice o2 (List.length l2) k2,.slice o3 (List.length l3) k3,.slice o4 (List.length l4) k4,.slice o5 (List.length l5) k5,.int .i64 p.dp,.int .i64 p.nd,.int .i64 p.bt],u] wx fun e w'=>e=.returned (.tuple #[.string (if (S.size:Int)<=p.bt then S else ⟨#[]⟩),.int .i64 (if (S.size:Int)<=p.bt then 0 else 4)])/\Below wx.heap.size wx w'):=hide (fun wx u h hu=>by
  have h1:=pclean_any (light_fits HLT.out) _ _ _ _ _ _ _ _ _ _ u (bl S) wx (HV.out.below h) hu (by rw[hSb];omega) (fun hb=>by rw[bl_len] at hb;rw[hSb,hag.1];omega) (HG.out.1.below h) (HG.out.2.below h)
  have e1:cleanX p (bl S)=if (S.size:Int)<=p.bt then htL t else []:=by
   unfold cleanX
   rw[bl_len,hSb,hag.1]
   by_cases hb:(S.size:Int)<=p.bt
   ·rw[if_pos ⟨hok.1,hb⟩,if_pos hb,hag.2]
   ·rw[if_neg (fun h=>hb h.2),if_neg hb]
  have e2:cleanE p (bl S)=if (S.size:Int)<=p.bt then 0 else 4:=by
   unfold cleanE
   rw[if_pos hok.1,bl_len]
  rw[e1,e2] at h1
  have e3:(⟨(if (S.size:Int)<=p.bt then htL t else []).toArray⟩:ByteArray)=if (S.size:Int)<=p.bt then S else ⟨#[]⟩:=by
   split
   ·exact hS.symm
   ·rfl
  rw[e3] at h1
  exact h1)
 clear hok HE hX hS hsf ht hbt hsm hnc hws HNR hSb hag hpl hbt2 hSl
 go_wp2_with fail
 refine CC2.out.mono ?_
 rintro e w4 ⟨rfl,h4⟩
 have H4:=hide (H3.out.keep h4)
 clear CC2 h4 H3 y0 y1 y2 y3 y4 y5 y6 y7 y8
 obtain⟨cap,w5,hcv,hby,hb5⟩:=bytes_of w4 S
 have H5:=hide (H4.out.keep hb5)
 have CX2:=hide (CX.out w5 _ H5.out.2 hby)
 clear hby hb5 CX
 have y0:=tag_cell H4.out.1 0 _ rfl
 have y1:=tag_cell H4.out.1 1 _ rfl
 have y2:=tag_cell H4.out.1 2 _ rfl
 have y3:=tag_cell H4.out.1 3 _ rfl
 have y4:=tag_cell H4.out.1 4 _ rfl
 have y5:=tag_cell H4.out.1 5 _ rfl
 have y6:=tag_cell H4.out.1 6 _ rfl
 have y7:=tag_cell H4.out.1 7 _ rfl
 have y8:=tag_cell H4.out.1 8 _ rfl
 by_cases hb:(S.size:Int)<=p.bt
 ·rw[if_pos hb,if_pos hb] at CX2
  have g2:¬ (p.bt < (S.size:Int)):=by omega
  clear hb
  go_wp2_with fail
  refine CX2.out.mono ?_
  rintro e w6 ⟨rfl,h6⟩
  have H6:=hide (H5.out.keep h6)
  clear CX2 h6 H5 H4 y0 y1 y2 y3 y4 y5 y6 y7 y8 hcv
  have y8:=tag_cell H6.out.1 8 _ rfl
  go_wp2_with fail
  go_ret
  exact⟨ret_bool (by simp),H6.out.2⟩
 ·rw[if_neg hb,if_neg hb] at CX2
  have g2:p.bt < (S.size:Int):=by omega
  clear hb
  go_wp2_with fail
  refine CX2.out.mono ?_
  rintro e w6 ⟨rfl,h6⟩
  have H6:=hide (H5.out.keep h6)
  clear CX2 h6 H5 H4 y0 y1 y2 y3 y4 y5 y6 y7 y8 hcv
  have y8:=tag_cell H6.out.1 8 _ rfl
  go_wp2_with fail
  go_ret
  exact⟨rfl,H6.out.2⟩
end Go.Proofs.YtkiofbikkhhdfaaGreatDoor.Dm
