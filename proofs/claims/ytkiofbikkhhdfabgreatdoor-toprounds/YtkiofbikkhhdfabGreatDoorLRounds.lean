import Derived.Test.YtkiofbikkhhdfabGreatDoorLTopA
import Derived.Test.YtkiofbikkhhdfabGreatDoorFV
namespace Go.Proofs.YtkiofbikkhhdfabGreatDoor.Dm
open Go.RowKit
open Utf1 Pol8
set_option maxRecDepth 100000 in
set_option maxHeartbeats 32000000 in
theorem lawTopRounds_walk (n:Int) {v1 v2 v3 v4 v5:Value}{p:Pol}{l1 l2 l3 l4 l5:List ByteArray}{v:Value}{raw:List UInt8}(w:World)(hv:PolV w v1 v2 v3 v4 v5 p l1 l2 l3 l4 l5)(hr:Uf.IsBytes w v raw)(hg:To.Glob w)(hgm:To.GlobM w) :
  Calls Tryz.prog 6 #[pval p v1 v2 v3 v4 v5,v,.int .i64 n] w fun e w'=>e=.returned (.bool true)/\Below w.heap.size w w':=by
 have HV:=hide hv
 have HRW:=hide hr
 have HG:=hide (And.intro hg hgm)
 obtain⟨vp,vc,rfl⟩:∃ a c,v=.slice a raw.length c:=by
  rcases hr with⟨rfl,rfl⟩ | ⟨x,cap,rfl,-⟩
  ·exact⟨_,_,rfl⟩
  ·exact⟨_,_,rfl⟩
 obtain⟨N,hN⟩:∃ N,N=raw.length:=⟨_,rfl⟩
 rw[<-hN]
 obtain⟨o1,k1,rfl,-,-⟩:=hv.s1
 obtain⟨o2,k2,rfl,-,-⟩:=hv.s2
 obtain⟨o3,k3,rfl,-,-⟩:=hv.s3
 obtain⟨o4,k4,rfl,-,-⟩:=hv.s4
 obtain⟨o5,k5,rfl,-,-⟩:=hv.s5
 obtain⟨w1,hw1⟩:∃ w1,w1=w.alloc (.cells #[.int .i64 p.ep,.slice o1 (List.length l1) k1,.slice o2 (List.length l2) k2,.slice o3 (List.length l3) k3,.slice o4 (List.length l4) k4,.slice o5 (List.length l5) k5,.int .i64 p.dp,.int .i64 p.nd,.int .i64 p.bt] 24):=⟨_,rfl⟩
 have H1:Hid (BoxA w #[.int .i64 p.ep,.slice o1 (List.length l1) k1,.slice o2 (List.length l2) k2,.slice o3 (List.length l3) k3,.slice o4 (List.length l4) k4,.slice o5 (List.length l5) k5,.int .i64 p.dp,.int .i64 p.nd,.int .i64 p.bt] w1):=hide (by rw[hw1];exact BoxA.new _ _)
 have CA:=hide (top_awake w1 (HG.out.1.below H1.out.2) (HG.out.2.below H1.out.2))
 have CL:Hid (∀ wx,Below w.heap.size w wx->_):=hide (fun wx h=>rlight_any _ _ _ _ _ p _ _ _ _ _ wx (HV.out.below h))
 have CC:Hid (light p->N<=3000->∀ wx,Below w.heap.size w wx->Calls Tryz.prog 13 #[.agg #[.int .i64 p.ep,.slice o1 (List.length l1) k1,.slice o2 (List.length l2) k2,.slice o3 (List.length l3) k3,.slice o4 (List.length l4) k4,.slice o5 (List.length l5) k5,.int .i64 p.dp,.int .i64 p.nd,.int .i64 p.bt],.slice vp N vc] wx fun e w'=>e=.returned (.tuple #[.string ⟨(cleanX p raw).toArray⟩,.int .i64 (cleanE p raw)])/\Below wx.heap.size wx w'):=hide (fun hlt hn wx h=>by
  have h4:=fix_len4 raw
  have:=pclean_any (light_fits hlt) _ _ _ _ _ _ _ _ _ _ _ raw wx (HV.out.below h) (bytes_below HRW.out h) (by omega) (fun _=>by omega) (HG.out.1.below h) (HG.out.2.below h)
  rw[<-hN] at this
  exact this)
 have HNR:=hide hN
 clear hv hr hg hgm hN
 go_enter Tryz.func6,Tryz.ntmps6
 go_upto_region 1 with fail
 rw[<-hw1]
 clear hw1
 go_wp2_with fail
 refine CA.out.mono ?_
 rintro e w2 ⟨rfl,h2⟩
 have H2:=hide (H1.out.keep h2)
 have CL2:=hide (CL.out w2 H2.out.2)
 clear CA h2 H1 CL
 have y0:=tag_cell H2.out.1 0 _ rfl
 have y1:=tag_cell H2.out.1 1 _ rfl
 have y2:=tag_cell H2.out.1 2 _ rfl
 have y3:=tag_cell H2.out.1 3 _ rfl
 have y4:=tag_cell H2.out.1 4 _ rfl
 have y5:=tag_cell H2.out.1 5 _ rfl
 have y6:=tag_cell H2.out.1 6 _ rfl
 have y7:=tag_cell H2.out.1 7 _ rfl
 have y8:=tag_cell H2.out.1 8 _ rfl
 go_wp2_with fail
 refine CL2.out.mono ?_
 rintro e w3 ⟨⟨b1,rfl,hb1⟩,h3⟩
 have H3:=hide (H2.out.keep h3)
 have HB1:=hide hb1
 clear CL2 h3 hb1 H2 y0 y1 y2 y3 y4 y5 y6 y7 y8
 cases b1 with
 | false =>
  clear CC
  go_wp2_with fail
  go_ret
  exact⟨rfl,H3.out.2⟩
 | true =>
 have HLT:=hide (HB1.out rfl)
 clear HB1
 by_cases hn:N<=3000
 case neg =>
  have g1:3000 < N:=by omega
  clear CC hn
  go_wp2_with fail
  go_ret
  exact⟨rfl,H3.out.2⟩
 have g1:¬ (3000 < N):=by omega
 by_cases hn0:n < 0
 case pos =>
  clear CC hn
  go_wp2_with fail
  go_ret
  exact⟨rfl,H3.out.2⟩
 by_cases hn8:8 < n
 case pos =>
  clear CC hn
  go_wp2_with fail
  go_ret
  exact⟨rfl,H3.out.2⟩
 have HN3:=hide hn
 have CC2:=hide (CC.out HLT.out hn w3 H3.out.2)
 clear CC hn
 have y0:=tag_cell H3.out.1 0 _ rfl
 have y1:=tag_cell H3.out.1 1 _ rfl
 have y2:=tag_cell H3.out.1 2 _ rfl
 have y3:=tag_cell H3.out.1 3 _ rfl
 have y4:=tag_cell H3.out.1 4 _ rfl
 have y5:=tag_cell H3.out.1 5 _ rfl
 have y6:=tag_cell H3.out.1 6 _ rfl
 have y7:=tag_cell H3.out.1 7 _ rfl
 have y8:=tag_cell H3.out.1 8 _ rfl
 by_cases hok:right p=true/\(raw.length:Int)<=p.bt
 case neg =>
  have hX:cleanX p raw=[]:=by unfold cleanX;rw[if_neg hok]
  obtain⟨E,hE,hE0⟩:∃ E:Int,E=cleanE p raw/\(E != 0)=true:=⟨_,rfl,by
   unfold cleanE
   split
   ·rename_i hr
    rw[if_neg (fun h=>hok ⟨hr,h⟩)]
    rfl
   ·rfl⟩
  rw[<-hE,hX] at CC2
  clear hok hE hX
  go_wp2_with fail
  refine CC2.out.mono ?_
  rintro e w4 ⟨rfl,h4⟩
  have HB:=hide (bel2 H3.out.2 h4)
  clear CC2 h4 H3 y0 y1 y2 y3 y4 y5 y6 y7 y8
  go_wp2_with fail
  go_ret
  exact⟨rfl,HB.out⟩
 obtain⟨t,hsf,ht,hbt,hsm,hnc,hws,hpl⟩:=clean_sm ((right_iff p).1 hok.1) (s:=fix raw) (by have:=fix_len4 raw;have:=HN3.out;have:=HNR.out;omega)
 have hag:=San.clean_again buildT_ok ((right_iff p).1 hok.1) raw
 have hE:cleanE p raw=0:=by unfold cleanE;rw[if_pos hok.1,if_pos hok.2]
 have hX:cleanX p raw=htL t:=by unfold cleanX;rw[if_pos hok,ht]
 rw[ht] at hag
 rw[hE,hX] at CC2
 obtain⟨S,hS⟩:∃ S:ByteArray,S=⟨(htL t).toArray⟩:=⟨_,rfl⟩
 have hSb:bl S=htL t:=by rw[hS]
 rw[<-hS] at CC2
 have hst:=(San.safe_stable hsf).1
 have HSB:=hide hSb
 have CT:Hid (∀ wx,Below w.heap.size w wx->_):=hide (fun wx h=>read_page S t wx hSb hst (by omega) (HG.out.1.below h) (HG.out.2.below h))
 have CB:Hid (∀ wx (u:Value) (l:List (Tk × Value)) (B:Nat),To.ToksAt wx B u l->l.map Prod.fst=tkL t->_):=hide (fun wx u l B h1 h2=>build_page wx B u l t h1 h2 hst (by omega))
 have CS:Hid (∀ wx (u:Value),Below w.heap.size w wx->NAt wx u t->_):=hide (fun wx u h1 h2=>psafe_any _ _ _ _ _ p _ _ _ _ _ u t wx (HV.out.below h1) (light_fits HLT.out) h2 hsm hnc)
 rw[hsf] at CS
 have CZ:Hid (∀ wx (u:Value),NAt wx u t->_):=hide (fun wx u h=>stable_nst wx u t h (by omega))
 rw[hst] at CZ
 have CH:Hid (∀ wx (u:Value),NAt wx u t->_):=hide (fun wx u h=>html_nst wx u t h (by have:=htL_len t;omega))
 have CV:Hid (∀ wx,Calls Tryz.prog 23 #[.string S] wx fun e w'=>e=.returned (.bool true)/\Below wx.heap.size wx w'):=hide (fun wx=>by
  have h:=Uf.valid_any S wx
  rw[hSb,<-hag.1,valid_fix] at h
  exact h)
 obtain⟨M,hM⟩:∃ M:Nat,n=(M:Int):=⟨n.toNat,by omega⟩
 subst hM
 clear hok hE hX hS hsf ht hbt hsm hnc hws hst HNR hSb hpl hag
 go_wp2_with fail
 refine CC2.out.mono ?_
 rintro e w4 ⟨rfl,h4⟩
 have H4:=hide (H3.out.keep h4)
 clear CC2 h4 H3 y0 y1 y2 y3 y4 y5 y6 y7 y8
 go_wp2_with fail
 go_loopg [11,12] M (fun g v11 v12 wx=>∃ i:Nat,i+g=M/\v11=.string S/\v12=.int .i64 (i:Int)/\Hid (BoxA w #[.int .i64 p.ep,.slice o1 (List.length l1) k1,.slice o2 (List.length l2) k2,.slice o3 (List.length l3) k3,.slice o4 (List.length l4) k4,.slice o5 (List.length l5) k5,.int .i64 p.dp,.int .i64 p.nd,.int .i64 p.bt] wx))
 case atStart=>exact⟨0,by omega,rfl,rfl,H4⟩
 case round =>
  obtain⟨i,hi,rfl,rfl,HU⟩:=hrel
  clear H4
  by_cases hlt:i < M
  ·have hlti:(i:Int) < (M:Int):=by omega
   have CT2:=hide (CT.out wr HU.out.2)
   go_wp2_with fail
   refine CT2.out.mono ?_
   rintro e w5 ⟨u,l,rfl,hl,htk,h5⟩
   have H5:=hide (HU.out.keep h5)
   have CB2:=hide (CB.out w5 u l _ htk hl)
   obtain⟨up,uc,rfl⟩:=own_len htk.1
   clear CT2 h5 HU hl htk
   go_wp2_with fail
   refine CB2.out.mono ?_
   rintro e w6 ⟨⟨r,rfl,hna⟩,h6⟩
   have H6:=hide (H5.out.keep h6)
   have HNA:=hide hna
   have CS2:=hide (CS.out w6 r H6.out.2 hna)
   obtain⟨rp,rm,rc,rfl⟩:=nat_slice hna
   clear CB2 h6 H5 hna
   have y0:=tag_cell H6.out.1 0 _ rfl
   have y1:=tag_cell H6.out.1 1 _ rfl
   have y2:=tag_cell H6.out.1 2 _ rfl
   have y3:=tag_cell H6.out.1 3 _ rfl
   have y4:=tag_cell H6.out.1 4 _ rfl
   have y5:=tag_cell H6.out.1 5 _ rfl
   have y6:=tag_cell H6.out.1 6 _ rfl
   have y7:=tag_cell H6.out.1 7 _ rfl
   have y8:=tag_cell H6.out.1 8 _ rfl
   go_wp2_with fail
   refine CS2.out.mono ?_
   rintro e w7 ⟨rfl,h7⟩
   have H7:=hide (H6.out.keep h7)
   have HNA7:=hide (HNA.out.below h7)
   have CZ2:=hide (CZ.out w7 _ HNA7.out)
   clear CS2 h7 H6 HNA y0 y1 y2 y3 y4 y5 y6 y7 y8
   go_wp2_with fail
   refine CZ2.out.mono ?_
   rintro e w8 ⟨rfl,h8⟩
   have H8:=hide (H7.out.keep h8)
   have CH2:=hide (CH.out w8 _ (HNA7.out.below h8))
   clear CZ2 h8 H7 HNA7
   go_wp2_with fail
   refine CH2.out.mono ?_
   rintro e w9 ⟨⟨O,rfl,hO⟩,h9⟩
   have H9:=hide (H8.out.keep h9)
   have hOS:O=S:=bl_inj (hO.trans HSB.out.symm)
   subst hOS
   clear CH2 h9 H8 hO
   go_wp2_with fail
   go_roundg (gk - 1)
   case measure=>omega
   case rel=>exact⟨i+1,by omega,rfl,by first | rfl | simp,H9⟩
  ·have hnl:¬ ((i:Int) < (M:Int)):=by omega
   have CV2:=hide (CV.out wr)
   clear hi CV CT CB CS CZ CH
   go_wp2_with fail
   refine CV2.out.mono ?_
   rintro e w5 ⟨rfl,h5⟩
   have HB:=hide (bel2 HU.out.2 h5)
   clear CV2 h5 HU
   go_wp2_with fail
   go_ret
   exact⟨ret_bool (by simp),HB.out⟩
end Go.Proofs.YtkiofbikkhhdfabGreatDoor.Dm
