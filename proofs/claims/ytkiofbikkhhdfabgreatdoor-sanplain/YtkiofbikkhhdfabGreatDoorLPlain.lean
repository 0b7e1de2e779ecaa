import Derived.Test.YtkiofbikkhhdfabGreatDoorK28
namespace Go.Proofs.YtkiofbikkhhdfabGreatDoor.Dm
open Go.RowKit
open Utf1 Pol8
theorem fix_no60 {l:List UInt8}(h:∀ x∈l,x≠60):∀ x∈fix l,x≠60:=by
 have h60:∀ x∈l,x.toNat≠60:=fun x hx e=>h x hx (UInt8.toNat_inj.1 e)
 have hr:=runes_mem l 60 (by decide) h60
 have hf:∀ (rs:List Nat) (last:Nat),(∀ r∈rs,r≠60)->∀ x∈fixR last rs,x≠60:=by
  intro rs
  induction rs with
  | nil=>intro last _ x hx;cases hx
  | cons r t ih =>
   intro last hrs x hx
   rw[fixR,List.mem_append] at hx
   rcases hx with hx | hx
   ·unfold one at hx
    split at hx
    ·rw[List.mem_singleton.1 hx];decide
    split at hx
    ·rw[List.mem_singleton.1 hx];decide
    split at hx
    ·cases hx
    ·rw[List.mem_singleton.1 hx]
     exact hrs r (List.mem_cons_self ..)
   ·exact ih r (fun y hy=>hrs y (List.mem_cons_of_mem _ hy)) x hx
 intro x hx e
 unfold fix enc at hx
 rw[List.mem_flatten] at hx
 obtain⟨c,hc,hx⟩:=hx
 rw[List.mem_map] at hc
 obtain⟨r,hr2,rfl⟩:=hc
 exact er_no r (fix_scalar l r hr2).1 60 (by decide) (hf _ _ hr r hr2) x hx (by rw[e];rfl)
set_option maxRecDepth 100000 in
set_option maxHeartbeats 32000000 in
theorem lawSanPlain_walk {v1 v2 v3 v4 v5:Value}{p:Pol}{l1 l2 l3 l4 l5:List ByteArray}{v:Value}{raw:List UInt8}(w:World)(hv:PolV w v1 v2 v3 v4 v5 p l1 l2 l3 l4 l5)(hr:Uf.IsBytes w v raw)(hg:To.Glob w)(hgm:To.GlobM w) :
  Calls Tryz.prog 4 #[pval p v1 v2 v3 v4 v5,v] w fun e w'=>e=.returned (.bool true)/\Below w.heap.size w w':=by
 have HV:=hide hv
 have HRW:=hide hr
 have HG:=hide (And.intro hg hgm)
 obtain⟨vp,vc,rfl⟩:∃ a c,v=.slice a raw.length c:=by
  rcases hr with⟨rfl,rfl⟩ | ⟨x,cap,rfl,-⟩
  ·exact⟨_,_,rfl⟩
  ·exact⟨_,_,rfl⟩
 obtain⟨N,hN⟩:∃ N,N=raw.length:=⟨_,rfl⟩
 rw[<-hN]
 obtain⟨o1,k1,rfl,-,-⟩:=hv.s1
 obtain⟨o2,k2,rfl,-,-⟩:=hv.s2
 obtain⟨o3,k3,rfl,-,-⟩:=hv.s3
 obtain⟨o4,k4,rfl,-,-⟩:=hv.s4
 obtain⟨o5,k5,rfl,-,-⟩:=hv.s5
 obtain⟨w1,hw1⟩:∃ w1,w1=w.alloc (.cells #[.int .i64 p.ep,.slice o1 (List.length l1) k1,.slice o2 (List.length l2) k2,.slice o3 (List.length l3) k3,.slice o4 (List.length l4) k4,.slice o5 (List.length l5) k5,.int .i64 p.dp,.int .i64 p.nd,.int .i64 p.bt] 24):=⟨_,rfl⟩
 have H1:Hid (BoxA w #[.int .i64 p.ep,.slice o1 (List.length l1) k1,.slice o2 (List.length l2) k2,.slice o3 (List.length l3) k3,.slice o4 (List.length l4) k4,.slice o5 (List.length l5) k5,.int .i64 p.dp,.int .i64 p.nd,.int .i64 p.bt] w1):=hide (by rw[hw1];exact BoxA.new _ _)
 have CA:=hide (san_awake w1 (HG.out.1.below H1.out.2) (HG.out.2.below H1.out.2))
 have CL:Hid (∀ wx,Below w.heap.size w wx->_):=hide (fun wx h=>rlight_any _ _ _ _ _ p _ _ _ _ _ wx (HV.out.below h))
 have CC:Hid (light p->N<=3000->∀ wx,Below w.heap.size w wx->Calls Tryz.prog 13 #[.agg #[.int .i64 p.ep,.slice o1 (List.length l1) k1,.slice o2 (List.length l2) k2,.slice o3 (List.length l3) k3,.slice o4 (List.length l4) k4,.slice o5 (List.length l5) k5,.int .i64 p.dp,.int .i64 p.nd,.int .i64 p.bt],.slice vp N vc] wx fun e w'=>e=.returned (.tuple #[.string ⟨(cleanX p raw).toArray⟩,.int .i64 (cleanE p raw)])/\Below wx.heap.size wx w'):=hide (fun hlt hn wx h=>by
  have h4:=fix_len4 raw
  have:=pclean_any (light_fits hlt) _ _ _ _ _ _ _ _ _ _ _ raw wx (HV.out.below h) (bytes_below HRW.out h) (by omega) (fun _=>by omega) (HG.out.1.below h) (HG.out.2.below h)
  rw[<-hN] at this
  exact this)
 have HNR:=hide hN
 clear hv hr hg hgm hN
 go_enter Tryz.func4,Tryz.ntmps4
 go_upto_region 1 with fail
 rw[<-hw1]
 clear hw1
 go_wp2_with fail
 refine CA.out.mono ?_
 rintro e w2 ⟨rfl,h2⟩
 have H2:=hide (H1.out.keep h2)
 have CL2:=hide (CL.out w2 H2.out.2)
 clear CA h2 H1 CL
 have y0:=tag_cell H2.out.1 0 _ rfl
 have y1:=tag_cell H2.out.1 1 _ rfl
 have y2:=tag_cell H2.out.1 2 _ rfl
 have y3:=tag_cell H2.out.1 3 _ rfl
 have y4:=tag_cell H2.out.1 4 _ rfl
 have y5:=tag_cell H2.out.1 5 _ rfl
 have y6:=tag_cell H2.out.1 6 _ rfl
 have y7:=tag_cell H2.out.1 7 _ rfl
 have y8:=tag_cell H2.out.1 8 _ rfl
 go_wp2_with fail
 refine CL2.out.mono ?_
 rintro e w3 ⟨⟨b1,rfl,hb1⟩,h3⟩
 have H3:=hide (H2.out.keep h3)
 have HB1:=hide hb1
 clear CL2 h3 hb1 H2 y0 y1 y2 y3 y4 y5 y6 y7 y8
 cases b1 with
 | false =>
  clear CC
  go_wp2_with fail
  go_ret
  exact⟨rfl,H3.out.2⟩
 | true =>
 have HLT:=hide (HB1.out rfl)
 clear HB1
 have CR:=hide (pright_any _ _ _ _ _ p _ _ _ _ _ w3 (HV.out.below H3.out.2) (light_fits HLT.out))
 have y0:=tag_cell H3.out.1 0 _ rfl
 have y1:=tag_cell H3.out.1 1 _ rfl
 have y2:=tag_cell H3.out.1 2 _ rfl
 have y3:=tag_cell H3.out.1 3 _ rfl
 have y4:=tag_cell H3.out.1 4 _ rfl
 have y5:=tag_cell H3.out.1 5 _ rfl
 have y6:=tag_cell H3.out.1 6 _ rfl
 have y7:=tag_cell H3.out.1 7 _ rfl
 have y8:=tag_cell H3.out.1 8 _ rfl
 go_wp2_with fail
 refine CR.out.mono ?_
 rintro e w4 ⟨rfl,h4⟩
 have H4:=hide (H3.out.keep h4)
 clear CR h4 H3 y0 y1 y2 y3 y4 y5 y6 y7 y8
 cases hrt:right p with
 | false =>
  clear hrt CC
  go_wp2_with fail
  go_ret
  exact⟨rfl,H4.out.2⟩
 | true =>
 have y8:=tag_cell H4.out.1 8 _ rfl
 by_cases hb:(N:Int)<=p.bt
 case neg =>
  have g1:p.bt < (N:Int):=by omega
  clear hb hrt CC
  go_wp2_with fail
  go_ret
  exact⟨rfl,H4.out.2⟩
 have g0:¬ (p.bt < (N:Int)):=by omega
 by_cases hn:N<=3000
 case neg =>
  have g1:3000 < N:=by omega
  clear hb hrt CC hn
  go_wp2_with fail
  go_ret
  exact⟨rfl,H4.out.2⟩
 have g1:¬ (3000 < N):=by omega
 have CC2:Hid (∀ wx,Below w.heap.size w wx->_):=hide (CC.out HLT.out hn)
 have HRP:=hide ((right_iff p).1 hrt)
 have hE:cleanE p raw=0:=by unfold cleanE;rw[if_pos hrt,if_pos (by rw[<-HNR.out];exact hb)]
 have HX:Hid (cleanX p raw=San.cleanF buildT p (fix raw)):=hide (by unfold cleanX;rw[if_pos ⟨hrt,by rw[<-HNR.out];exact hb⟩])
 rw[hE,HX.out] at CC2
 have hNm:N<=9223372036854775807:=by omega
 have HN3:=hide hn
 have CF:Hid (∀ wx,Below w.heap.size w wx->Calls Tryz.prog 19 #[.slice vp N vc] wx fun e w'=>e=.returned (.string ⟨(fix raw).toArray⟩)/\Below wx.heap.size wx w'):=hide (fun wx h=>by
  have:=Uf.fix_any _ raw wx (bytes_below HRW.out h) (by have:=HNR.out;have:=HN3.out;omega)
  rw[<-HNR.out] at this
  exact this)
 clear CC hrt hb hE hn
 go_wp2_with fail
 clear y8 g0 g1
 go_loopg [7] N (fun g v wx=>∃ i:Nat,i+g=N/\v=.int .i64 (i:Int)/\wx=w4/\Hid (∀ j b,j < i->raw[j]?=some b->b≠60))
 case atStart=>exact⟨0,by omega,rfl,rfl,hide (fun j b h=>by omega)⟩
 case round =>
  obtain⟨i,hi,rfl,rfl,HU⟩:=hrel
  by_cases hlt:i < N
  ·obtain⟨b,hbi⟩:∃ b,raw[i]?=some b:=⟨_,List.getElem?_eq_getElem (by have:=HNR.out;omega)⟩
   obtain⟨x,hvp,hcx⟩:∃ x,vp=some x/\wr.cell? (x.add i)=some (.int .u8 (b.toNat:Int)):=by
    have hbb:=bytes_below HRW.out H4.out.2
    rcases hbb with⟨e,e2⟩ | ⟨x,cap,e,hc⟩
    ·rw[e2] at hbi
     simp at hbi
    ·injection e with e1 e2 e3
     refine⟨x,e1,?_⟩
     have hil:i < raw.length:=by have:=HNR.out;omega
     rw[hc i hil]
     have:raw[i]=b:=by
      rw[List.getElem?_eq_getElem hil] at hbi
      simpa using hbi
     rw[this]
   have HNX:Hid (b≠60->∀ j c,j < i+1->raw[j]?=some c->c≠60):=hide (fun hb60 j c hj hjc=>by
    by_cases e:j=i
    ·subst e
     rw[hbi] at hjc
     cases hjc
     exact hb60
    ·exact HU.out j c (by omega) hjc)
   have hlti:(i:Int) < (N:Int):=by omega
   have HB4:=hide H4.out.2
   subst hvp
   by_cases h60:b=60
   ·have g6:((b.toNat:Int)==60)=true:=by rw[h60];rfl
    generalize (b.toNat:Int)=z at hcx g6
    clear h60 HNX HU hbi
    go_wp2_with fail
    go_ret
    exact⟨rfl,HB4.out⟩
   ·have g6:((b.toNat:Int)==60)=false:=by
     rw[beq_eq_false_iff_ne]
     intro e
     exact h60 (UInt8.toNat_inj.1 (by show b.toNat=60;omega))
    have HNX2:=hide (HNX.out h60)
    generalize (b.toNat:Int)=z at hcx g6
    clear h60 HNX HU hbi
    go_wp2_with fail
    go_roundg (gk - 1)
    case measure=>omega
    case rel=>exact⟨i+1,by omega,by first | rfl | simp,rfl,HNX2⟩
  ·have H60:Hid (∀ c∈fix raw,c≠60):=hide (fix_no60 (fun c hc=>by
    obtain⟨j,hj,e⟩:=List.mem_iff_getElem.1 hc
    exact HU.out j c (by have:=HNR.out;omega) (by rw[List.getElem?_eq_getElem hj,e])))
   have HCL:Hid (San.cleanF buildT p (fix raw)=esc false (res (fix raw))):=hide (San.clean_plain buildT_ok HRP.out (fix raw) H60.out)
   rw[HCL.out] at CC2
   have CC3:=hide (CC2.out wr H4.out.2)
   have hnl:¬ ((i:Int) < (N:Int)):=by omega
   obtain⟨S,hS⟩:∃ S:ByteArray,S=⟨(fix raw).toArray⟩:=⟨_,rfl⟩
   have hSb:bl S=fix raw:=by rw[hS]
   rw[<-hS] at CF
   have hSz:S.size<=12000:=by rw[<-bl_len,hSb];have:=fix_len4 raw;have:=HNR.out;have:=HN3.out;omega
   obtain⟨R,hR⟩:∃ R:ByteArray,R=⟨(res (fix raw)).toArray⟩:=⟨_,rfl⟩
   have hRb:bl R=res (fix raw):=by rw[hR]
   have hRz:R.size<=12000:=by rw[<-bl_len,hRb];have:=res_len (fix raw);rw[<-hSb,bl_len] at this;rw[<-hSb];omega
   obtain⟨O,hO⟩:∃ O:ByteArray,O=⟨(esc false (res (fix raw))).toArray⟩:=⟨_,rfl⟩
   rw[<-hO] at CC3
   have CR:Hid (∀ wx,Below w.heap.size w wx->Calls Tryz.prog 18 #[.string S] wx fun e w'=>e=.returned (.string R)/\Below wx.heap.size wx w'):=hide (fun wx h=>by
    have:=To.resolve_any S (by omega) wx (HG.out.1.below h)
    rw[hSb,<-hR] at this
    exact this)
   have CE:Hid (∀ wx,Calls Tryz.prog 17 #[.string R,.bool false] wx fun e w'=>e=.returned (.string O)/\Below wx.heap.size wx w'):=hide (fun wx=>by
    have:=To.escape_any R false wx (by omega)
    rw[hRb,<-hO] at this
    exact this)
   clear HU hi CC2 HX HCL H60 hS hSb hSz hR hRb hRz hO
   have y0:=tag_cell H4.out.1 0 _ rfl
   have y1:=tag_cell H4.out.1 1 _ rfl
   have y2:=tag_cell H4.out.1 2 _ rfl
   have y3:=tag_cell H4.out.1 3 _ rfl
   have y4:=tag_cell H4.out.1 4 _ rfl
   have y5:=tag_cell H4.out.1 5 _ rfl
   have y6:=tag_cell H4.out.1 6 _ rfl
   have y7:=tag_cell H4.out.1 7 _ rfl
   have y8:=tag_cell H4.out.1 8 _ rfl
   go_wp2_with fail
   refine CC3.out.mono ?_
   rintro e w5 ⟨rfl,h5⟩
   have H5:=hide (H4.out.keep h5)
   have CF2:=hide (CF.out w5 H5.out.2)
   clear CC3 h5 CF H4 y0 y1 y2 y3 y4 y5 y6 y7 y8
   go_wp2_with fail
   refine CF2.out.mono ?_
   rintro e w6 ⟨rfl,h6⟩
   have H6:=hide (H5.out.keep h6)
   have CR2:=hide (CR.out w6 H6.out.2)
   clear CF2 h6 H5 CR
   go_wp2_with fail
   refine CR2.out.mono ?_
   rintro e w7 ⟨rfl,h7⟩
   have H7:=hide (H6.out.keep h7)
   have CE2:=hide (CE.out w7)
   clear CR2 h7 H6 CE
   go_wp2_with fail
   refine CE2.out.mono ?_
   rintro e w8 ⟨rfl,h8⟩
   have HB:=hide (bel2 H7.out.2 h8)
   clear CE2 h8 H7
   go_wp2_with fail
   go_ret
   exact⟨ret_bool (by simp),HB.out⟩
end Go.Proofs.YtkiofbikkhhdfabGreatDoor.Dm
