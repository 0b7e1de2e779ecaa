import Derived.Test.YtkiofbikkhhdfabGreatDoorSX7
import Derived.Test.YtkiofbikkhhdfabGreatDoorK19
set_option maxRecDepth 100000
set_option maxHeartbeats 32000000
namespace Go.Proofs.YtkiofbikkhhdfabGreatDoor.Dm
open Go.RowKit
open Utf1 Pol8
def polA (p:Pol) (v1 v2 v3 v4 v5:Value):Nat->Value
 | 0=>.int .i64 p.ep
 | 1=>v1
 | 2=>v2
 | 3=>v3
 | 4=>v4
 | 5=>v5
 | 6=>.int .i64 p.dp
 | 7=>.int .i64 p.nd
 | _=>.int .i64 p.bt
def TreeC (p:Pol) (v1 v2 v3 v4 v5:Value) (l1 l2 l3 l4 l5:List ByteArray) (d:Nat):Prop:=∀ (w:World) (u:Value) (ks:List Nd),PolV w v1 v2 v3 v4 v5 p l1 l2 l3 l4 l5->NAtD w d u ks->wsL ks<=90000 ->
 Calls Tryz.prog 77 #[pval p v1 v2 v3 v4 v5,u] w fun e w'=>(∃ x fp,e=.returned x/\KAt w' w.heap.size x (San.treeL p ks) fp)/\Below w.heap.size w w'
def EachC (p:Pol) (v1 v2 v3 v4 v5:Value) (l1 l2 l3 l4 l5:List ByteArray) (d:Nat):Prop:=∀ (w0 w:World) (B:Nat) (u:Value) (ks ns:List Nd) (t:List UInt8),PolV w0 v1 v2 v3 v4 v5 p l1 l2 l3 l4 l5->Below w0.heap.size w0 w->NAtD w0 d u ks->CS w w.heap.size w0.heap.size B (polA p v1 v2 v3 v4 v5) ns t->wsL ks<=90000->wsL ks+t.length<=10000000->2*ncL ks+ns.length<=1000000 ->
 Calls Tryz.prog 106 #[u,.func (.func 107) #[.pointer (some ⟨B,0,none⟩)] #[]] w fun e w'=>e=.returned (.tuple #[])/\CS w' w'.heap.size w0.heap.size B (polA p v1 v2 v3 v4 v5) ((San.allL p ks).foldl San.push (ns,t)).1 ((San.allL p ks).foldl San.push (ns,t)).2/\Below w0.heap.size w w'
structure TI (w:World) (kb B:Nat) (A C:Array Value) (wx:World):Prop where
 c:wx.heap[B]?=some (.cells A 141 (0,0))
 n:wx.heap[kb]?=some (.cells C 80 (0,0))
 b:Below w.heap.size w wx
theorem TI.keep {w wx wy:World}{kb B:Nat}{A C:Array Value}(h:TI w kb B A C wx)(hb:Below wx.heap.size wx wy):TI w kb B A C wy :=
 ⟨(hb.block _ (lt_of_block h.c)).trans h.c,(hb.block _ (lt_of_block h.n)).trans h.n,bel2 h.b hb⟩
theorem ctake_any {p:Pol}(hp:Right p)(hf:fits p) {v1 v2 v3 v4 v5:Value}{l1 l2 l3 l4 l5:List ByteArray}{d:Nat}(hT:TreeC p v1 v2 v3 v4 v5 l1 l2 l3 l4 l5 d)(hE:EachC p v1 v2 v3 v4 v5 l1 l2 l3 l4 l5 d) (w0 w:World) (B:Nat) (nd:Nd) (nm tx:ByteArray) (ap kp:Option Addr) (am ac km kc:Nat) (ns:List Nd) (t:List UInt8)
  (hv:PolV w0 v1 v2 v3 v4 v5 p l1 l2 l3 l4 l5)(hb0:Below w0.heap.size w0 w)(hnm:bl nm=nd.name)(htx:bl tx=nd.text)(har:ARow w0 ap am nd.attrs)(hkd:NAtD w0 d (.slice kp km kc) nd.kids)(hcs:CS w w.heap.size w0.heap.size B (polA p v1 v2 v3 v4 v5) ns t)(hz:wsN nd<=90000)(hz2:wsN nd+t.length<=10000000)(hz3:2*ncN nd+ns.length<=1000000) :
  Calls Tryz.prog 107 #[.pointer (some ⟨B,0,none⟩),.agg #[.string nm,.slice ap am ac,.string tx,.slice kp km kc]] w fun e w'=>e=.returned (.tuple #[])/\CS w' w'.heap.size w0.heap.size B (polA p v1 v2 v3 v4 v5) ((San.allN p nd).foldl San.push (ns,t)).1 ((San.allN p nd).foldl San.push (ns,t)).2/\Below w0.heap.size w w':=by
 obtain⟨i0,hi,hz0,hz1,hz2'⟩:=info_parts infoNode
 obtain⟨r,hr⟩:∃ r,r=(San.allN p nd).foldl San.push (ns,t):=⟨_,rfl⟩
 rw[<-hr]
 rw[San.allN_kids] at hr
 have HR:=hide hr
 rw[wsN_kids] at hz hz2
 rw[ncN_kids] at hz3
 have hns:nm.size<=90000:=by rw[<-bl_len,hnm];omega
 have hts:tx.size<=90000:=by rw[<-bl_len,htx];omega
 have hlt:=hcs.lt
 obtain⟨w1,hw1⟩:∃ w1,w1=w.alloc (.cells #[.string nm,.slice ap am ac,.string tx,.slice kp km kc] 80):=⟨_,rfl⟩
 have hb1:Below w.heap.size w w1:=by rw[hw1];exact bel_alloc (Below.refl _ _) _
 have hbox:w1.heap[w.heap.size]?=some (.cells #[.string nm,.slice ap am ac,.string tx,.slice kp km kc] 80 (0,0)):=by rw[hw1];exact new_block _ _ _
 have hcs1:CS w1 w.heap.size w0.heap.size B (polA p v1 v2 v3 v4 v5) ns t:=hcs.under hb1
 have HB01:=hide (bel2 hb0 hb1)
 have HB1:Hid (Below w0.heap.size w w1):=hide (hb1.mono hb0.size)
 have HBOX:=hide hbox
 have HCS1:=hide hcs1
 have HV:=hide hv
 have HF:=hide hf
 have HP:=hide hp
 have HNM:=hide hnm
 have HTX:=hide htx
 have HAR:=hide har
 have HKD:=hide hkd
 have HT:=hide hT
 have HE:=hide hE
 have HZ:Hid (nd.name.length+nd.text.length+waL nd.attrs+wsL nd.kids+t.length<=10000000/\nd.text.length+t.length<=10000000/\2*ncL nd.kids+ns.length+2<=1000000/\wsL nd.kids<=90000/\waL nd.attrs<=90000):=hide (by omega)
 obtain⟨o1,k1,rfl,-,-⟩:=hv.s1
 obtain⟨o2,k2,rfl,-,-⟩:=hv.s2
 obtain⟨o3,k3,rfl,-,-⟩:=hv.s3
 obtain⟨o4,k4,rfl,-,-⟩:=hv.s4
 obtain⟨o5,k5,rfl,-,-⟩:=hv.s5
 have x0:=tag_cell hbox 0 _ rfl
 have x2:=tag_cell hbox 2 _ rfl
 have g1:=eq_lit nm []
 have g2:=empty_bl nm
 clear hr hb1 hcs1 hv hf hp htx har hkd hT hE hcs hz hz2 hz3 hb0 hbox
 by_cases he:nd.name=[]
 ·rw[decide_eq_true (by rw[hnm];exact he)] at g1 g2
  have HR2:Hid (r=(ns,t++bl tx)):=hide (by rw[HR.out,if_pos he];show San.push (ns,t) (San.txt nd.text)=_;unfold San.push;rw[if_pos (San.txt_name _),San.txt_text,HTX.out])
  have hltB:=hlt.2
  clear HR HV HF HP HAR HKD HT HE HNM hnm he
  obtain⟨sv,pa,bv,l,fp,hcr,hl⟩:=HCS1.out
  have HL:=hide hl
  have HCR:=hide hcr
  obtain⟨wd,hwd⟩:∃ wd,wd=w1.drew:=⟨_,rfl⟩
  have HBD:Hid (Below w1.heap.size w1 wd):=hide (by rw[hwd];exact bel_one _)
  have HCRD:=hide (HCR.out.under HBD.out)
  have x2d:wd.cell? ⟨w.heap.size,2,none⟩=some (.string tx):=by rw[hwd];exact x2
  have CW:=hide (cwrite_any wd B w0.heap.size _ sv pa bv t tx HCRD.out.c HCRD.out.t (by have:=HZ.out;rw[<-bl_len,HTX.out];omega) HCRD.out.b)
  clear HCS1 hcr hl HTX
  go_enter Tryz.func107,Tryz.ntmps107
  go_upto_region 1 with fail
  rw[<-hw1]
  clear hw1
  go_wp2_with fail
  refine wp_region_held_drew (S:=fun w'=>w'.cell? ⟨w.heap.size,2,none⟩=some (.string tx)) (by kernel_rfl) (by rw[<-hwd];exact x2d) (fun hHeld=>?_)
  rw[<-hwd] at hHeld ⊢
  clear hwd x2 x2d x0
  refine wpAnyH_atp 0 rfl ?_
  refine wpAnyH_atp 1 rfl ?_
  refine wpAnyH_atp 2 rfl ?_
  refine wpAnyH_atp 3 rfl ?_
  refine wpAnyH_atp 4 rfl ?_
  refine wpAnyH_ready (rs:=[5]) (by kernel_rfl) (by simp) ?_
  refine AllReadyH.cons rfl (fun K hK=>?_) AllReadyH.nil
  go_simp
  go_wp2_with fail
  refine CW.out.mono ?_
  rintro e w3 ⟨rfl,pa',bv',h1,h2,h3,h4⟩
  have HFIN:Hid (CS w3 w3.heap.size w0.heap.size B (polA p (.slice o1 (List.length l1) k1) (.slice o2 (List.length l2) k2) (.slice o3 (List.length l3) k3) (.slice o4 (List.length l4) k4) (.slice o5 (List.length l5) k5)) ns (t++bl tx)/\Below w0.heap.size w w3):=hide (by
   have hc:=HCRD.out
   have hno:∀ k cs fz,wd.heap[k]?=some (.cells cs 80 fz)->k ∉ B :: blk bv:=by
    intro k cs fz e hm
    rcases List.mem_cons.1 hm with rfl | hm
    ·have:=hc.c
     unfold CB at this
     rw[this] at e
     simp at e
    ·exact own_apart hc.t.2 e (by decide) (by unfold blk at hm;simpa using hm)
   refine⟨⟨sv,pa',bv',l,fp,⟨h1,h2,own_stays hc.r h3.block (fun k hk=>?_),hc.k.stays h3 (fun k hk=>by obtain⟨cs,fz,e⟩:=hc.k.kind k hk;exact hno k cs fz e),hc.d,hc.b,lt_of_block h1,fun k hk=>Nat.lt_of_lt_of_le (own_lt hc.r k hk).2 h3.size⟩,HL.out⟩,(HB1.out.trans (HBD.out.mono HB01.out.size)).trans h4⟩
   obtain⟨_,⟨rfl,_⟩ | ⟨g,cap,cur,rfl,_,hg,_⟩⟩:=hc.r
   ·cases hk
   ·have:g=k:=by simpa [Value.ownBlock] using hk
    subst this
    exact hno _ _ _ hg)
  have x2e:w3.cell? ⟨w.heap.size,2,none⟩=some (.string tx):=by
   refine tag_cell (cs:=#[.string nm,.slice ap am ac,.string tx,.slice kp km kc]) (t:=80) ?_ 2 _ rfl
   rw[h3.block w.heap.size (by have:=HBD.out.size;have:=lt_of_block HBOX.out;omega) (fun hm=>?_)]
   ·exact (HBD.out.block _ (lt_of_block HBOX.out)).trans HBOX.out
   ·rcases List.mem_cons.1 hm with e | hm
    ·omega
    ·exact own_apart HCRD.out.t.2 ((HBD.out.block _ (lt_of_block HBOX.out)).trans HBOX.out) (by decide) (by unfold blk at hm;simpa using hm)
  clear CW h1 h2 h3 h4
  go_wp2_with fail
  refine hK.out _ _ x2e (fun _=>?_)
  clear hK K hHeld x2e
  refine wpAnyH_done (by kernel_rfl) ?_ _
  go_wp2_with fail
  go_end0
  rw[HR2.out]
  exact⟨rfl,HFIN.out⟩
 rw[decide_eq_false (by rw[hnm];exact he)] at g1 g2
 have HR1:Hid (r=(if San.dropB nd.name=true then [] else if nd.name∈p.el then [.mk nd.name (San.attrsO p nd.name nd.attrs) [] (San.joinR (San.allL p nd.kids))] else San.allL p nd.kids).foldl San.push (ns,t)):=hide (by rw[HR.out,if_neg he])
 have HNE:=hide he
 have CD:=hide (pdropped_any nm w1)
 rw[hnm] at CD
 clear HR hnm he
 cases hdr:San.dropB nd.name with
 | true =>
  rw[hdr] at CD
  have HR2:Hid (r=(ns,t)):=hide (by rw[HR1.out,if_pos hdr];rfl)
  clear HR1 HV HF HP HAR HKD HT HE HNM hdr
  go_enter Tryz.func107,Tryz.ntmps107
  go_upto_region 1 with fail
  rw[<-hw1]
  clear hw1
  go_wp2_with fail
  refine CD.out.mono ?_
  rintro e w2 ⟨rfl,rfl⟩
  clear CD
  go_wp2_with fail
  go_end0
  rw[HR2.out]
  exact⟨rfl,HCS1.out.up,HB1.out⟩
 | false =>
  rw[hdr] at CD
  have HR2:Hid (r=(if nd.name∈p.el then [.mk nd.name (San.attrsO p nd.name nd.attrs) [] (San.joinR (San.allL p nd.kids))] else San.allL p nd.kids).foldl San.push (ns,t)):=hide (by rw[HR1.out,if_neg (by rw[hdr];decide)])
  clear HR1 hdr
  obtain⟨wd,hwd⟩:∃ wd,wd=w1.drew:=⟨_,rfl⟩
  have HBD:Hid (Below w1.heap.size w1 wd):=hide (by rw[hwd];exact bel_one _)
  have HCSD:=hide (HCS1.out.under HBD.out)
  have HBXD:Hid (wd.heap[w.heap.size]?=some (.cells #[.string nm,.slice ap am ac,.string tx,.slice kp km kc] 80 (0,0))):=hide ((HBD.out.block _ (lt_of_block HBOX.out)).trans HBOX.out)
  have HB0D:=hide (bel2 HB01.out HBD.out)
  have CE:=hide (pelemC_any _ _ _ _ _ p _ _ _ _ _ nm wd (HV.out.below HB0D.out) HF.out (by omega))
  rw[HNM.out] at CE
  obtain⟨sv,pa,bv,l,fp,hcr,hl⟩:=HCSD.out
  have q0:wd.cell? ⟨B,0,none⟩=some (.int .i64 p.ep):=tag_cell hcr.c 0 _ rfl
  have q1:wd.cell? ⟨B,1,none⟩=some (.slice o1 (List.length l1) k1):=tag_cell hcr.c 1 _ rfl
  have q2:wd.cell? ⟨B,2,none⟩=some (.slice o2 (List.length l2) k2):=tag_cell hcr.c 2 _ rfl
  have q3:wd.cell? ⟨B,3,none⟩=some (.slice o3 (List.length l3) k3):=tag_cell hcr.c 3 _ rfl
  have q4:wd.cell? ⟨B,4,none⟩=some (.slice o4 (List.length l4) k4):=tag_cell hcr.c 4 _ rfl
  have q5:wd.cell? ⟨B,5,none⟩=some (.slice o5 (List.length l5) k5):=tag_cell hcr.c 5 _ rfl
  have q6:wd.cell? ⟨B,6,none⟩=some (.int .i64 p.dp):=tag_cell hcr.c 6 _ rfl
  have q7:wd.cell? ⟨B,7,none⟩=some (.int .i64 p.nd):=tag_cell hcr.c 7 _ rfl
  have q8:wd.cell? ⟨B,8,none⟩=some (.int .i64 p.bt):=tag_cell hcr.c 8 _ rfl
  have x0d:wd.cell? ⟨w.heap.size,0,none⟩=some (.string nm):=tag_cell HBXD.out 0 _ rfl
  clear hcr hl sv pa bv l fp
  go_enter Tryz.func107,Tryz.ntmps107
  go_upto_region 1 with fail
  rw[<-hw1]
  clear hw1
  go_wp2_with fail
  refine CD.out.mono ?_
  rintro e w2 ⟨rfl,rfl⟩
  clear CD
  go_wp2_with fail
  refine wp_region_held_drew (S:=fun w'=>w'.cell? ⟨B,0,none⟩=some (.int .i64 p.ep)/\w'.cell? ⟨B,1,none⟩=some (.slice o1 (List.length l1) k1)/\w'.cell? ⟨B,2,none⟩=some (.slice o2 (List.length l2) k2)/\w'.cell? ⟨B,3,none⟩=some (.slice o3 (List.length l3) k3)/\w'.cell? ⟨B,4,none⟩=some (.slice o4 (List.length l4) k4)/\w'.cell? ⟨B,5,none⟩=some (.slice o5 (List.length l5) k5)/\w'.cell? ⟨B,6,none⟩=some (.int .i64 p.dp)/\w'.cell? ⟨B,7,none⟩=some (.int .i64 p.nd)/\w'.cell? ⟨B,8,none⟩=some (.int .i64 p.bt)/\w'.cell? ⟨w.heap.size,0,none⟩=some (.string nm)) (by kernel_rfl) (by rw[<-hwd];exact⟨q0,q1,q2,q3,q4,q5,q6,q7,q8,x0d⟩) (fun hHeld=>?_)
  rw[<-hwd] at hHeld ⊢
  clear hwd q0 q1 q2 q3 q4 q5 q6 q7 q8 x0d x0 x2
  refine wpAnyH_atp 0 rfl ?_
  refine wpAnyH_atp 1 rfl ?_
  refine wpAnyH_atp 2 rfl ?_
  refine wpAnyH_atp 3 rfl ?_
  refine wpAnyH_atp 4 rfl ?_
  refine wpAnyH_atp 5 rfl ?_
  refine wpAnyH_ready (rs:=[6]) (by kernel_rfl) (by simp) ?_
  refine AllReadyH.cons rfl (fun K hK=>?_) AllReadyH.nil
  go_simp
  go_wp2_with fail
  refine CE.out.mono ?_
  rintro e w3 ⟨rfl,h3⟩
  have HB03:=hide (bel2 HB0D.out h3)
  have HCS3:=hide (HCSD.out.under h3)
  have HBX3:Hid (w3.heap[w.heap.size]?=some (.cells #[.string nm,.slice ap am ac,.string tx,.slice kp km kc] 80 (0,0))):=hide ((h3.block _ (lt_of_block HBXD.out)).trans HBXD.out)
  have HBW3:Hid (Below w0.heap.size w w3):=hide ((HB1.out.trans (HBD.out.mono HB01.out.size)).trans (h3.mono HB0D.out.size))
  obtain⟨sv,pa,bv,l,fp,hcr,hl⟩:=HCS3.out
  have hS3:(w3.cell? ⟨B,0,none⟩=some (.int .i64 p.ep)/\w3.cell? ⟨B,1,none⟩=some (.slice o1 (List.length l1) k1)/\w3.cell? ⟨B,2,none⟩=some (.slice o2 (List.length l2) k2)/\w3.cell? ⟨B,3,none⟩=some (.slice o3 (List.length l3) k3)/\w3.cell? ⟨B,4,none⟩=some (.slice o4 (List.length l4) k4)/\w3.cell? ⟨B,5,none⟩=some (.slice o5 (List.length l5) k5)/\w3.cell? ⟨B,6,none⟩=some (.int .i64 p.dp)/\w3.cell? ⟨B,7,none⟩=some (.int .i64 p.nd)/\w3.cell? ⟨B,8,none⟩=some (.int .i64 p.bt)/\w3.cell? ⟨w.heap.size,0,none⟩=some (.string nm)):=⟨tag_cell hcr.c 0 _ rfl,tag_cell hcr.c 1 _ rfl,tag_cell hcr.c 2 _ rfl,tag_cell hcr.c 3 _ rfl,tag_cell hcr.c 4 _ rfl,tag_cell hcr.c 5 _ rfl,tag_cell hcr.c 6 _ rfl,tag_cell hcr.c 7 _ rfl,tag_cell hcr.c 8 _ rfl,tag_cell HBX3.out 0 _ rfl⟩
  clear CE h3 HBXD HCSD HB0D HBD HB01 HB1 HBOX HCS1 hcr hl sv pa bv l fp
  go_wp2_with fail
  refine hK.out _ _ hS3 (fun hHeld2=>?_)
  clear hK K hHeld hS3
  have hHeld:=hHeld2
  clear hHeld2
  refine wpAnyH_atp 7 rfl ?_
  clear hHeld
  refine wpAnyH_done (by kernel_rfl) ?_ _
  by_cases hel:nd.name∈p.el
  ·rw[decide_eq_true hel]
   have HR3:Hid (r=(ns++San.endT t++[.mk nd.name (San.attrsO p nd.name nd.attrs) [] (San.treeL p nd.kids)],[])):=hide (by
    rw[HR2.out,if_pos hel]
    show San.push (ns,t) _=_
    unfold San.push
    rw[if_neg (show ¬ Nd.name (.mk nd.name _ _ _)=[] from HNE.out)]
    rfl)
   have HEL:=hide hel
   have CN:=hide (cs_end HCS3.out (by have:=HZ.out;omega))
   clear hel HR2
   go_wp2_with fail
   refine CN.out.mono ?_
   rintro e w4 ⟨rfl,hc4,hb4,hk4⟩
   obtain⟨wd,hwd⟩:∃ wd,wd=w4.drew:=⟨_,rfl⟩
   have HBD:Hid (Below w4.heap.size w4 wd):=hide (by rw[hwd];exact bel_one _)
   have HB04:Hid (Below w0.heap.size w0 wd):=hide (bel2 (HB03.out.trans hb4) HBD.out)
   have HBW4:Hid (Below w0.heap.size w wd):=hide ((HBW3.out.trans hb4).trans (HBD.out.mono (HB03.out.trans hb4).size))
   have hbx4:=(hk4 w.heap.size _ (Nat.le_refl _) HBX3.out).trans HBX3.out
   obtain⟨sv,pa,bv,l,fp,hcr,hl⟩:=hc4.under HBD.out
   obtain⟨sp,sc,rfl⟩:=own_len hcr.r
   have HCR:=hide hcr
   have HL:=hide hl
   have HLL:Hid (l.length<=1000000):=hide (by
    have h1:=congrArg List.length hl
    rw[List.length_map,List.length_append] at h1
    have:=San.endT_len t
    have:=HZ.out
    omega)
   have hTI:TI wd w.heap.size B (#[.int .i64 p.ep,.slice o1 (List.length l1) k1,.slice o2 (List.length l2) k2,.slice o3 (List.length l3) k3,.slice o4 (List.length l4) k4,.slice o5 (List.length l5) k5,.int .i64 p.dp,.int .i64 p.nd,.int .i64 p.bt,.slice sp l.length sc,pa,bv]) #[.string nm,.slice ap am ac,.string tx,.slice kp km kc] wd:=⟨hcr.c,(HBD.out.block _ (lt_of_block hbx4)).trans hbx4,Below.refl _ _⟩
   have HTI:=hide hTI
   clear CN hc4 hb4 hk4 hcr hl hbx4 hTI HCS3 HBX3 HB03 HBW3
   have SK:Hid (∀ wx,TI wd w.heap.size B (#[.int .i64 p.ep,.slice o1 (List.length l1) k1,.slice o2 (List.length l2) k2,.slice o3 (List.length l3) k3,.slice o4 (List.length l4) k4,.slice o5 (List.length l5) k5,.int .i64 p.dp,.int .i64 p.nd,.int .i64 p.bt,.slice sp l.length sc,pa,bv]) #[.string nm,.slice ap am ac,.string tx,.slice kp km kc] wx->wx.cell? ⟨B,0,none⟩=some (.int .i64 p.ep)/\wx.cell? ⟨B,1,none⟩=some (.slice o1 (List.length l1) k1)/\wx.cell? ⟨B,2,none⟩=some (.slice o2 (List.length l2) k2)/\wx.cell? ⟨B,3,none⟩=some (.slice o3 (List.length l3) k3)/\wx.cell? ⟨B,4,none⟩=some (.slice o4 (List.length l4) k4)/\wx.cell? ⟨B,5,none⟩=some (.slice o5 (List.length l5) k5)/\wx.cell? ⟨B,6,none⟩=some (.int .i64 p.dp)/\wx.cell? ⟨B,7,none⟩=some (.int .i64 p.nd)/\wx.cell? ⟨B,8,none⟩=some (.int .i64 p.bt)/\wx.cell? ⟨B,9,none⟩=some (.slice sp l.length sc)/\wx.cell? ⟨w.heap.size,0,none⟩=some (.string nm)/\wx.cell? ⟨w.heap.size,1,none⟩=some (.slice ap am ac)/\wx.cell? ⟨w.heap.size,2,none⟩=some (.string tx)/\wx.cell? ⟨w.heap.size,3,none⟩=some (.slice kp km kc)):=hide (fun wx h=>⟨tag_cell h.c 0 _ rfl,tag_cell h.c 1 _ rfl,tag_cell h.c 2 _ rfl,tag_cell h.c 3 _ rfl,tag_cell h.c 4 _ rfl,tag_cell h.c 5 _ rfl,tag_cell h.c 6 _ rfl,tag_cell h.c 7 _ rfl,tag_cell h.c 8 _ rfl,tag_cell h.c 9 _ rfl,tag_cell h.n 0 _ rfl,tag_cell h.n 1 _ rfl,tag_cell h.n 2 _ rfl,tag_cell h.n 3 _ rfl⟩)
   have HZ7:=HLL.out
   have C1:Hid (∀ wx,Calls Tryz.prog 49 #[.string nm] wx fun e w'=>e=.returned (.string nm)/\Below wx.heap.size wx w'):=hide (fun wx=>clone_any nm wx (by omega))
   have C2:Hid (∀ wx,Below wd.heap.size wd wx->Calls Tryz.prog 133 #[.agg #[.int .i64 p.ep,.slice o1 (List.length l1) k1,.slice o2 (List.length l2) k2,.slice o3 (List.length l3) k3,.slice o4 (List.length l4) k4,.slice o5 (List.length l5) k5,.int .i64 p.dp,.int .i64 p.nd,.int .i64 p.bt],.agg #[.string nm,.slice ap am ac,.string tx,.slice kp km kc]] wx fun r w'=>(∃ u,r=.returned u/\w'.ownsRow wx.heap.size 108 2 u (San.attrsO p nd.name nd.attrs).length (attrCells (San.attrsO p nd.name nd.attrs)))/\Below wx.heap.size wx w'):=hide (fun wx h=>by
    have hbx:=bel2 HB04.out h
    have h1:=pattrsOf_any _ _ _ _ _ p _ _ _ _ _ HF.out nm tx ap kp am ac km kc nd.attrs wx (HV.out.below hbx) (HAR.out.below hbx) (by omega) (by have:=HAR.out.1.1;have:=wa_len nd.attrs;have:=HZ.out;omega) (fun kv hkv=>by have:=wa_mem hkv;have:=HZ.out;omega)
    rw[HNM.out,San.attrsP_is HP.out HEL.out] at h1
    exact h1)
   have C3:Hid (∀ wx,Below wd.heap.size wd wx->Calls Tryz.prog 77 #[.agg #[.int .i64 p.ep,.slice o1 (List.length l1) k1,.slice o2 (List.length l2) k2,.slice o3 (List.length l3) k3,.slice o4 (List.length l4) k4,.slice o5 (List.length l5) k5,.int .i64 p.dp,.int .i64 p.nd,.int .i64 p.bt],.slice kp km kc] wx fun e w'=>(∃ x fp,e=.returned x/\KAt w' wx.heap.size x (San.treeL p nd.kids) fp)/\Below wx.heap.size wx w'):=hide (fun wx h=>HT.out wx _ _ (HV.out.below (bel2 HB04.out h)) (HKD.out.below (bel2 HB04.out h)) HZ.out.2.2.2.1)
   have HFIN:Hid (∀ (wz w':World) (v' u2 u3:Value) (fp3:List Nat),Below wd.heap.size wd wz->wz.ownsRow wd.heap.size 108 2 u2 (San.attrsO p nd.name nd.attrs).length (attrCells (San.attrsO p nd.name nd.attrs))->KAt wz wd.heap.size u3 (San.treeL p nd.kids) fp3->CPut wz w' w0.heap.size B (polA p (.slice o1 (List.length l1) k1) (.slice o2 (List.length l2) k2) (.slice o3 (List.length l3) k3) (.slice o4 (List.length l4) k4) (.slice o5 (List.length l5) k5)) (.slice sp l.length sc) pa bv v' (l.length+1) (ndCells l++[.string nm,u2,.string ⟨#[]⟩,u3])->CS w' w'.heap.size w0.heap.size B (polA p (.slice o1 (List.length l1) k1) (.slice o2 (List.length l2) k2) (.slice o3 (List.length l3) k3) (.slice o4 (List.length l4) k4) (.slice o5 (List.length l5) k5)) r.1 r.2/\Below w0.heap.size w w'):=hide (fun wz w' v' u2 u3 fp3 h1 h2 h3 h4=>by
    have hnm:nm=⟨nd.name.toArray⟩:=by rw[<-HNM.out]
    rw[hnm] at h4
    obtain⟨h5,h6⟩:=HCR.out.put (nm:=nd.name) (tx:=[]) h1 h2 h3 h4
    rw[HR3.out]
    exact⟨⟨v',pa,bv,_,_,h5,by rw[List.map_append,HL.out];rfl⟩,HBW4.out.trans h6⟩)
   have c9:=tag_cell HTI.out.c 9 _ rfl
   have hS0:=SK.out wd HTI.out
   clear HV HF HP HNM HAR HKD HT HE HEL HNE HZ HL HBW4 HB04 HBD HTX HLL HR3
   go_wp2_with fail
   refine wp_region_until (m:=23) (S:=fun wx=>wx.cell? ⟨B,0,none⟩=some (.int .i64 p.ep)/\wx.cell? ⟨B,1,none⟩=some (.slice o1 (List.length l1) k1)/\wx.cell? ⟨B,2,none⟩=some (.slice o2 (List.length l2) k2)/\wx.cell? ⟨B,3,none⟩=some (.slice o3 (List.length l3) k3)/\wx.cell? ⟨B,4,none⟩=some (.slice o4 (List.length l4) k4)/\wx.cell? ⟨B,5,none⟩=some (.slice o5 (List.length l5) k5)/\wx.cell? ⟨B,6,none⟩=some (.int .i64 p.dp)/\wx.cell? ⟨B,7,none⟩=some (.int .i64 p.nd)/\wx.cell? ⟨B,8,none⟩=some (.int .i64 p.bt)/\wx.cell? ⟨B,9,none⟩=some (.slice sp l.length sc)/\wx.cell? ⟨w.heap.size,0,none⟩=some (.string nm)/\wx.cell? ⟨w.heap.size,1,none⟩=some (.slice ap am ac)/\wx.cell? ⟨w.heap.size,2,none⟩=some (.string tx)/\wx.cell? ⟨w.heap.size,3,none⟩=some (.slice kp km kc)) (by kernel_rfl) (by rw[<-hwd];exact hS0) (fun hHeld=>?_)
   rw[<-hwd] at hHeld ⊢
   clear hwd c9 hS0
   refine wpU_p 0 rfl ?_
   refine wpU_p 1 rfl ?_
   refine wpU_p 2 rfl ?_
   refine wpU_p 3 rfl ?_
   refine wpU_p 4 rfl ?_
   refine wpU_p 5 rfl ?_
   refine wpU_p 7 rfl ?_
   refine wpU_p 8 rfl ?_
   refine wpU_p 9 rfl ?_
   refine wpU_p 10 rfl ?_
   refine wpU_p 11 rfl ?_
   refine wpU_p 13 rfl ?_
   refine wpU_p 14 rfl ?_
   refine wpU_p 15 rfl ?_
   refine wpU_p 16 rfl ?_
   refine wpU_p 17 rfl ?_
   refine wpU_p 18 rfl ?_
   refine wpU_p 21 rfl ?_
   refine wpU_ready (rs:=[6,22]) (by kernel_rfl) (by simp) ?_
   refine AllU.cons (by decide) rfl (fun K hK=>?_) (AllU.cons (by decide) rfl (fun K hK=>?_) AllU.nil)
   ·go_simp
    go_wp2_with fail
    refine (C1.out wd).mono ?_
    rintro e W1 ⟨rfl,bW1⟩
    have HTIW1:=hide (HTI.out.keep bW1)
    clear bW1
    try go_wp2_with fail
    refine hK.out _ _ (SK.out _ HTIW1.out) (fun hHeld2=>?_)
    clear hK K hHeld
    have hHeld:=hHeld2
    clear hHeld2
    refine wpU_ready (rs:=[12,22]) (by kernel_rfl) (by simp) ?_
    refine AllU.cons (by decide) rfl (fun K hK=>?_) (AllU.cons (by decide) rfl (fun K hK=>?_) AllU.nil)
    ·go_simp
     go_wp2_with fail
     refine (C2.out W1 HTIW1.out.b).mono ?_
     rintro e W2 ⟨⟨u2,rfl,aW2⟩,bW2⟩
     have HTIW2:=hide (HTIW1.out.keep bW2)
     have HAW2:=hide (own_lower aW2 HTIW1.out.b.size)
     obtain⟨ua,ub,uc,rfl⟩:=own_slice aW2
     clear aW2 bW2 HTIW1
     try go_wp2_with fail
     refine hK.out _ _ (SK.out _ HTIW2.out) (fun hHeld2=>?_)
     clear hK K hHeld
     have hHeld:=hHeld2
     clear hHeld2
     refine wpU_ready (rs:=[19,22]) (by kernel_rfl) (by simp) ?_
     refine AllU.cons (by decide) rfl (fun K hK=>?_) (AllU.cons (by decide) rfl (fun K hK=>?_) AllU.nil)
     ·go_simp
      go_wp2_with fail
      refine (C3.out W2 HTIW2.out.b).mono ?_
      rintro e W3 ⟨⟨u3,fp3,rfl,aW3⟩,bW3⟩
      have HTIW3:=hide (HTIW2.out.keep bW3)
      have HAW3:=hide (own_below HAW2.out bW3)
      have HKW3:=hide (aW3.lower HTIW2.out.b.size)
      obtain⟨ka,kb,rfl⟩:=kat_slice aW3
      clear aW3 bW3 HAW2 HTIW2
      try go_wp2_with fail
      refine hK.out _ _ (SK.out _ HTIW3.out) (fun hHeld2=>?_)
      clear hK K hHeld
      have hHeld:=hHeld2
      clear hHeld2
      refine wpU_p 20 rfl ?_
      refine wpU_ready (rs:=[22]) (by kernel_rfl) (by simp) ?_
      refine AllU.cons (by decide) rfl (fun K hK=>?_) AllU.nil
      obtain⟨W4,hW4⟩:∃ W4,W4=W3.alloc (.cells #[.string ⟨#[]⟩,.slice none 0 0,.string ⟨#[]⟩,.slice none 0 0] 80):=⟨_,rfl⟩
      have bW4:Below W3.heap.size W3 W4:=by rw[hW4];exact (Below.refl _ _).alloc (Nat.le_refl _) _
      have HTIW4:=hide (HTIW3.out.keep bW4)
      have HAW4:=hide (own_below HAW3.out bW4)
      have HKW4:=hide (HKW3.out.under bW4)
      have HNW4:=hide (four_new W3 (.string ⟨#[]⟩) (.slice none 0 0) (.string ⟨#[]⟩) (.slice none 0 0) 80)
      rw[<-hW4] at HNW4
      have HWW4:=hide hW4
      clear hW4 bW4 HAW3 HKW3 HTIW3
      go_simp
      go_wp2_with fail
      rw[<-HWW4.out]
      clear HWW4
      refine hK.out _ _ (SK.out _ HTIW4.out) (fun hHeld2=>?_)
      clear hK K hHeld
      have hHeld:=hHeld2
      clear hHeld2
      have HRz:=hide (own_below HCR.out.r HTIW4.out.b)
      have HSz:Hid (w0.heap.size<=W4.heap.size):=hide (by have:=HTIW4.out.b.size;have:=HCR.out.b;have:=lt_of_block HCR.out.c;omega)
      refine wpU_ready (rs:=[23]) (by kernel_rfl) (by simp) ?_
      refine AllU.last rfl (fun K hK=>?_)
      rw[if_pos (by rfl)]
      refine wp_append_new (.tmp 36) (.tmp 55) 32 rfl w0.heap.size 80 i0 _ 4 80 Tryz.underlying32 hi hz0 hz1 hz2' rfl (by decide) (.slice sp l.length sc) l.length (ndCells l) rfl HRz.out ⟨W3.heap.size,0,none⟩ 1 1 [.string ⟨#[]⟩,.slice none 0 0,.string ⟨#[]⟩,.slice none 0 0] rfl rfl HNW4.out zero_one (by unfold maxLen;omega) (by omega) HSz.out (by decide) ?_
      intro v' w5 hown5 hgr5 hfr5
      obtain⟨g,c,rfl,hgB,hBg,⟨q0,q1,q2,q3⟩,⟨r0,r1,r2,r3⟩,d9,f9,hfa,hfb⟩:=cput_facts (a:=polA p (.slice o1 (List.length l1) k1) (.slice o2 (List.length l2) k2) (.slice o3 (List.length l3) k3) (.slice o4 (List.length l4) k4) (.slice o5 (List.length l5) k5)) HTIW4.out.c HRz.out hown5 hgr5 hfr5 HCR.out.b (.string nm) (.slice ua ub uc) (.string ⟨#[]⟩) (.slice ka (San.treeL p nd.kids).length kb)
      have HFA:=hide (HFIN.out W4 _ _ _ _ _ HTIW4.out.b HAW4.out HKW4.out hfa)
      have HFB:=hide (HFIN.out W4 _ _ _ _ _ HTIW4.out.b HAW4.out HKW4.out hfb)
      clear hown5 hgr5 hfr5 hfa hfb
      refine hK.out _ _ ?_
      clear hK K hHeld HRz HSz HAW4 HKW4 HNW4 HTIW4 HFIN SK C1 C2 C3
      refine wpTo 24 (.pointer (some ⟨g,l.length*4,none⟩)) rfl ?_
      refine wpTo 26 (.pointer (some ⟨B,0,none⟩)) rfl ?_
      refine wpTo 27 (.pointer (some ⟨B,9,none⟩)) rfl ?_
      refine wpAny_ready (rs:=[25,28]) (by kernel_rfl) (by simp) ?_
      refine AllReady.cons rfl (fun K hK=>?_) (AllReady.cons rfl (fun K hK=>?_) AllReady.nil)
      ·go_simp
       go_wp2_with fail
       refine wpAny_ready (rs:=[28]) (by kernel_rfl) (by simp) ?_
       refine AllReady.cons rfl (fun K hK=>?_) AllReady.nil
       go_simp
       go_wp2_with fail
       refine wpAny_done (by kernel_rfl) ?_ _
       go_wp2_with fail
       go_end0
       exact⟨rfl,HFA.out⟩
      ·go_simp
       go_wp2_with fail
       refine wpAny_ready (rs:=[25]) (by kernel_rfl) (by simp) ?_
       refine AllReady.cons rfl (fun K hK=>?_) AllReady.nil
       go_simp
       go_wp2_with fail
       refine wpAny_done (by kernel_rfl) ?_ _
       go_wp2_with fail
       go_end0
       exact⟨rfl,HFB.out⟩
     ·obtain⟨W5,hW5⟩:∃ W5,W5=W2.alloc (.cells #[.string ⟨#[]⟩,.slice none 0 0,.string ⟨#[]⟩,.slice none 0 0] 80):=⟨_,rfl⟩
      have bW5:Below W2.heap.size W2 W5:=by rw[hW5];exact (Below.refl _ _).alloc (Nat.le_refl _) _
      have HTIW5:=hide (HTIW2.out.keep bW5)
      have HAW5:=hide (own_below HAW2.out bW5)
      have HNW5:=hide (four_new W2 (.string ⟨#[]⟩) (.slice none 0 0) (.string ⟨#[]⟩) (.slice none 0 0) 80)
      rw[<-hW5] at HNW5
      have HWW5:=hide hW5
      clear hW5 bW5 HAW2 HTIW2
      go_simp
      go_wp2_with fail
      rw[<-HWW5.out]
      clear HWW5
      refine hK.out _ _ (SK.out _ HTIW5.out) (fun hHeld2=>?_)
      clear hK K hHeld
      have hHeld:=hHeld2
      clear hHeld2
      refine wpU_ready (rs:=[19]) (by kernel_rfl) (by simp) ?_
      refine AllU.cons (by decide) rfl (fun K hK=>?_) AllU.nil
      go_simp
      go_wp2_with fail
      refine (C3.out W5 HTIW5.out.b).mono ?_
      rintro e W6 ⟨⟨u3,fp3,rfl,aW6⟩,bW6⟩
      have HTIW6:=hide (HTIW5.out.keep bW6)
      have HAW6:=hide (own_below HAW5.out bW6)
      have HNW6:Hid (∀ (j:Nat) (u:Value),[Value.string ⟨#[]⟩,.slice none 0 0,.string ⟨#[]⟩,.slice none 0 0][j]?=some u->W6.cell? ((⟨W2.heap.size,0,none⟩:Addr).add j)=some u):=hide (fun j u h=>cell_keep (HNW5.out j u h) bW6)
      have HKW6:=hide (aW6.lower HTIW5.out.b.size)
      obtain⟨ka,kb,rfl⟩:=kat_slice aW6
      clear aW6 bW6 HAW5 HNW5 HTIW5
      try go_wp2_with fail
      refine hK.out _ _ (SK.out _ HTIW6.out) (fun hHeld2=>?_)
      clear hK K hHeld
      have hHeld:=hHeld2
      clear hHeld2
      refine wpU_p 20 rfl ?_
      have HRz:=hide (own_below HCR.out.r HTIW6.out.b)
      have HSz:Hid (w0.heap.size<=W6.heap.size):=hide (by have:=HTIW6.out.b.size;have:=HCR.out.b;have:=lt_of_block HCR.out.c;omega)
      refine wpU_ready (rs:=[23]) (by kernel_rfl) (by simp) ?_
      refine AllU.last rfl (fun K hK=>?_)
      rw[if_pos (by rfl)]
      refine wp_append_new (.tmp 36) (.tmp 55) 32 rfl w0.heap.size 80 i0 _ 4 80 Tryz.underlying32 hi hz0 hz1 hz2' rfl (by decide) (.slice sp l.length sc) l.length (ndCells l) rfl HRz.out ⟨W2.heap.size,0,none⟩ 1 1 [.string ⟨#[]⟩,.slice none 0 0,.string ⟨#[]⟩,.slice none 0 0] rfl rfl HNW6.out zero_one (by unfold maxLen;omega) (by omega) HSz.out (by decide) ?_
      intro v' w5 hown5 hgr5 hfr5
      obtain⟨g,c,rfl,hgB,hBg,⟨q0,q1,q2,q3⟩,⟨r0,r1,r2,r3⟩,d9,f9,hfa,hfb⟩:=cput_facts (a:=polA p (.slice o1 (List.length l1) k1) (.slice o2 (List.length l2) k2) (.slice o3 (List.length l3) k3) (.slice o4 (List.length l4) k4) (.slice o5 (List.length l5) k5)) HTIW6.out.c HRz.out hown5 hgr5 hfr5 HCR.out.b (.string nm) (.slice ua ub uc) (.string ⟨#[]⟩) (.slice ka (San.treeL p nd.kids).length kb)
      have HFA:=hide (HFIN.out W6 _ _ _ _ _ HTIW6.out.b HAW6.out HKW6.out hfa)
      have HFB:=hide (HFIN.out W6 _ _ _ _ _ HTIW6.out.b HAW6.out HKW6.out hfb)
      clear hown5 hgr5 hfr5 hfa hfb
      refine hK.out _ _ ?_
      clear hK K hHeld HRz HSz HAW6 HKW6 HNW6 HTIW6 HFIN SK C1 C2 C3
      refine wpTo 24 (.pointer (some ⟨g,l.length*4,none⟩)) rfl ?_
      refine wpTo 26 (.pointer (some ⟨B,0,none⟩)) rfl ?_
      refine wpTo 27 (.pointer (some ⟨B,9,none⟩)) rfl ?_
      refine wpAny_ready (rs:=[25,28]) (by kernel_rfl) (by simp) ?_
      refine AllReady.cons rfl (fun K hK=>?_) (AllReady.cons rfl (fun K hK=>?_) AllReady.nil)
      ·go_simp
       go_wp2_with fail
       refine wpAny_ready (rs:=[28]) (by kernel_rfl) (by simp) ?_
       refine AllReady.cons rfl (fun K hK=>?_) AllReady.nil
       go_simp
       go_wp2_with fail
       refine wpAny_done (by kernel_rfl) ?_ _
       go_wp2_with fail
       go_end0
       exact⟨rfl,HFA.out⟩
      ·go_simp
       go_wp2_with fail
       refine wpAny_ready (rs:=[25]) (by kernel_rfl) (by simp) ?_
       refine AllReady.cons rfl (fun K hK=>?_) AllReady.nil
       go_simp
       go_wp2_with fail
       refine wpAny_done (by kernel_rfl) ?_ _
       go_wp2_with fail
       go_end0
       exact⟨rfl,HFB.out⟩
    ·obtain⟨W7,hW7⟩:∃ W7,W7=W1.alloc (.cells #[.string ⟨#[]⟩,.slice none 0 0,.string ⟨#[]⟩,.slice none 0 0] 80):=⟨_,rfl⟩
     have bW7:Below W1.heap.size W1 W7:=by rw[hW7];exact (Below.refl _ _).alloc (Nat.le_refl _) _
     have HTIW7:=hide (HTIW1.out.keep bW7)
     have HNW7:=hide (four_new W1 (.string ⟨#[]⟩) (.slice none 0 0) (.string ⟨#[]⟩) (.slice none 0 0) 80)
     rw[<-hW7] at HNW7
     have HWW7:=hide hW7
     clear hW7 bW7 HTIW1
     go_simp
     go_wp2_with fail
     rw[<-HWW7.out]
     clear HWW7
     refine hK.out _ _ (SK.out _ HTIW7.out) (fun hHeld2=>?_)
     clear hK K hHeld
     have hHeld:=hHeld2
     clear hHeld2
     refine wpU_ready (rs:=[12]) (by kernel_rfl) (by simp) ?_
     refine AllU.cons (by decide) rfl (fun K hK=>?_) AllU.nil
     go_simp
     go_wp2_with fail
     refine (C2.out W7 HTIW7.out.b).mono ?_
     rintro e W8 ⟨⟨u2,rfl,aW8⟩,bW8⟩
     have HTIW8:=hide (HTIW7.out.keep bW8)
     have HNW8:Hid (∀ (j:Nat) (u:Value),[Value.string ⟨#[]⟩,.slice none 0 0,.string ⟨#[]⟩,.slice none 0 0][j]?=some u->W8.cell? ((⟨W1.heap.size,0,none⟩:Addr).add j)=some u):=hide (fun j u h=>cell_keep (HNW7.out j u h) bW8)
     have HAW8:=hide (own_lower aW8 HTIW7.out.b.size)
     obtain⟨ua,ub,uc,rfl⟩:=own_slice aW8
     clear aW8 bW8 HNW7 HTIW7
     try go_wp2_with fail
     refine hK.out _ _ (SK.out _ HTIW8.out) (fun hHeld2=>?_)
     clear hK K hHeld
     have hHeld:=hHeld2
     clear hHeld2
     refine wpU_ready (rs:=[19]) (by kernel_rfl) (by simp) ?_
     refine AllU.cons (by decide) rfl (fun K hK=>?_) AllU.nil
     go_simp
     go_wp2_with fail
     refine (C3.out W8 HTIW8.out.b).mono ?_
     rintro e W9 ⟨⟨u3,fp3,rfl,aW9⟩,bW9⟩
     have HTIW9:=hide (HTIW8.out.keep bW9)
     have HAW9:=hide (own_below HAW8.out bW9)
     have HNW9:Hid (∀ (j:Nat) (u:Value),[Value.string ⟨#[]⟩,.slice none 0 0,.string ⟨#[]⟩,.slice none 0 0][j]?=some u->W9.cell? ((⟨W1.heap.size,0,none⟩:Addr).add j)=some u):=hide (fun j u h=>cell_keep (HNW8.out j u h) bW9)
     have HKW9:=hide (aW9.lower HTIW8.out.b.size)
     obtain⟨ka,kb,rfl⟩:=kat_slice aW9
     clear aW9 bW9 HAW8 HNW8 HTIW8
     try go_wp2_with fail
     refine hK.out _ _ (SK.out _ HTIW9.out) (fun hHeld2=>?_)
     clear hK K hHeld
     have hHeld:=hHeld2
     clear hHeld2
     refine wpU_p 20 rfl ?_
     have HRz:=hide (own_below HCR.out.r HTIW9.out.b)
     have HSz:Hid (w0.heap.size<=W9.heap.size):=hide (by have:=HTIW9.out.b.size;have:=HCR.out.b;have:=lt_of_block HCR.out.c;omega)
     refine wpU_ready (rs:=[23]) (by kernel_rfl) (by simp) ?_
     refine AllU.last rfl (fun K hK=>?_)
     rw[if_pos (by rfl)]
     refine wp_append_new (.tmp 36) (.tmp 55) 32 rfl w0.heap.size 80 i0 _ 4 80 Tryz.underlying32 hi hz0 hz1 hz2' rfl (by decide) (.slice sp l.length sc) l.length (ndCells l) rfl HRz.out ⟨W1.heap.size,0,none⟩ 1 1 [.string ⟨#[]⟩,.slice none 0 0,.string ⟨#[]⟩,.slice none 0 0] rfl rfl HNW9.out zero_one (by unfold maxLen;omega) (by omega) HSz.out (by decide) ?_
     intro v' w5 hown5 hgr5 hfr5
     obtain⟨g,c,rfl,hgB,hBg,⟨q0,q1,q2,q3⟩,⟨r0,r1,r2,r3⟩,d9,f9,hfa,hfb⟩:=cput_facts (a:=polA p (.slice o1 (List.length l1) k1) (.slice o2 (List.length l2) k2) (.slice o3 (List.length l3) k3) (.slice o4 (List.length l4) k4) (.slice o5 (List.length l5) k5)) HTIW9.out.c HRz.out hown5 hgr5 hfr5 HCR.out.b (.string nm) (.slice ua ub uc) (.string ⟨#[]⟩) (.slice ka (San.treeL p nd.kids).length kb)
     have HFA:=hide (HFIN.out W9 _ _ _ _ _ HTIW9.out.b HAW9.out HKW9.out hfa)
     have HFB:=hide (HFIN.out W9 _ _ _ _ _ HTIW9.out.b HAW9.out HKW9.out hfb)
     clear hown5 hgr5 hfr5 hfa hfb
     refine hK.out _ _ ?_
     clear hK K hHeld HRz HSz HAW9 HKW9 HNW9 HTIW9 HFIN SK C1 C2 C3
     refine wpTo 24 (.pointer (some ⟨g,l.length*4,none⟩)) rfl ?_
     refine wpTo 26 (.pointer (some ⟨B,0,none⟩)) rfl ?_
     refine wpTo 27 (.pointer (some ⟨B,9,none⟩)) rfl ?_
     refine wpAny_ready (rs:=[25,28]) (by kernel_rfl) (by simp) ?_
     refine AllReady.cons rfl (fun K hK=>?_) (AllReady.cons rfl (fun K hK=>?_) AllReady.nil)
     ·go_simp
      go_wp2_with fail
      refine wpAny_ready (rs:=[28]) (by kernel_rfl) (by simp) ?_
      refine AllReady.cons rfl (fun K hK=>?_) AllReady.nil
      go_simp
      go_wp2_with fail
      refine wpAny_done (by kernel_rfl) ?_ _
      go_wp2_with fail
      go_end0
      exact⟨rfl,HFA.out⟩
     ·go_simp
      go_wp2_with fail
      refine wpAny_ready (rs:=[25]) (by kernel_rfl) (by simp) ?_
      refine AllReady.cons rfl (fun K hK=>?_) AllReady.nil
      go_simp
      go_wp2_with fail
      refine wpAny_done (by kernel_rfl) ?_ _
      go_wp2_with fail
      go_end0
      exact⟨rfl,HFB.out⟩
   ·obtain⟨W10,hW10⟩:∃ W10,W10=wd.alloc (.cells #[.string ⟨#[]⟩,.slice none 0 0,.string ⟨#[]⟩,.slice none 0 0] 80):=⟨_,rfl⟩
    have bW10:Below wd.heap.size wd W10:=by rw[hW10];exact (Below.refl _ _).alloc (Nat.le_refl _) _
    have HTIW10:=hide (HTI.out.keep bW10)
    have HNW10:=hide (four_new wd (.string ⟨#[]⟩) (.slice none 0 0) (.string ⟨#[]⟩) (.slice none 0 0) 80)
    rw[<-hW10] at HNW10
    have HWW10:=hide hW10
    clear hW10 bW10
    go_simp
    go_wp2_with fail
    rw[<-HWW10.out]
    clear HWW10
    refine hK.out _ _ (SK.out _ HTIW10.out) (fun hHeld2=>?_)
    clear hK K hHeld
    have hHeld:=hHeld2
    clear hHeld2
    refine wpU_ready (rs:=[6]) (by kernel_rfl) (by simp) ?_
    refine AllU.cons (by decide) rfl (fun K hK=>?_) AllU.nil
    go_simp
    go_wp2_with fail
    refine (C1.out W10).mono ?_
    rintro e W11 ⟨rfl,bW11⟩
    have HTIW11:=hide (HTIW10.out.keep bW11)
    have HNW11:Hid (∀ (j:Nat) (u:Value),[Value.string ⟨#[]⟩,.slice none 0 0,.string ⟨#[]⟩,.slice none 0 0][j]?=some u->W11.cell? ((⟨wd.heap.size,0,none⟩:Addr).add j)=some u):=hide (fun j u h=>cell_keep (HNW10.out j u h) bW11)
    clear bW11 HNW10 HTIW10
    try go_wp2_with fail
    refine hK.out _ _ (SK.out _ HTIW11.out) (fun hHeld2=>?_)
    clear hK K hHeld
    have hHeld:=hHeld2
    clear hHeld2
    refine wpU_ready (rs:=[12]) (by kernel_rfl) (by simp) ?_
    refine AllU.cons (by decide) rfl (fun K hK=>?_) AllU.nil
    go_simp
    go_wp2_with fail
    refine (C2.out W11 HTIW11.out.b).mono ?_
    rintro e W12 ⟨⟨u2,rfl,aW12⟩,bW12⟩
    have HTIW12:=hide (HTIW11.out.keep bW12)
    have HNW12:Hid (∀ (j:Nat) (u:Value),[Value.string ⟨#[]⟩,.slice none 0 0,.string ⟨#[]⟩,.slice none 0 0][j]?=some u->W12.cell? ((⟨wd.heap.size,0,none⟩:Addr).add j)=some u):=hide (fun j u h=>cell_keep (HNW11.out j u h) bW12)
    have HAW12:=hide (own_lower aW12 HTIW11.out.b.size)
    obtain⟨ua,ub,uc,rfl⟩:=own_slice aW12
    clear aW12 bW12 HNW11 HTIW11
    try go_wp2_with fail
    refine hK.out _ _ (SK.out _ HTIW12.out) (fun hHeld2=>?_)
    clear hK K hHeld
    have hHeld:=hHeld2
    clear hHeld2
    refine wpU_ready (rs:=[19]) (by kernel_rfl) (by simp) ?_
    refine AllU.cons (by decide) rfl (fun K hK=>?_) AllU.nil
    go_simp
    go_wp2_with fail
    refine (C3.out W12 HTIW12.out.b).mono ?_
    rintro e W13 ⟨⟨u3,fp3,rfl,aW13⟩,bW13⟩
    have HTIW13:=hide (HTIW12.out.keep bW13)
    have HAW13:=hide (own_below HAW12.out bW13)
    have HNW13:Hid (∀ (j:Nat) (u:Value),[Value.string ⟨#[]⟩,.slice none 0 0,.string ⟨#[]⟩,.slice none 0 0][j]?=some u->W13.cell? ((⟨wd.heap.size,0,none⟩:Addr).add j)=some u):=hide (fun j u h=>cell_keep (HNW12.out j u h) bW13)
    have HKW13:=hide (aW13.lower HTIW12.out.b.size)
    obtain⟨ka,kb,rfl⟩:=kat_slice aW13
    clear aW13 bW13 HAW12 HNW12 HTIW12
    try go_wp2_with fail
    refine hK.out _ _ (SK.out _ HTIW13.out) (fun hHeld2=>?_)
    clear hK K hHeld
    have hHeld:=hHeld2
    clear hHeld2
    refine wpU_p 20 rfl ?_
    have HRz:=hide (own_below HCR.out.r HTIW13.out.b)
    have HSz:Hid (w0.heap.size<=W13.heap.size):=hide (by have:=HTIW13.out.b.size;have:=HCR.out.b;have:=lt_of_block HCR.out.c;omega)
    refine wpU_ready (rs:=[23]) (by kernel_rfl) (by simp) ?_
    refine AllU.last rfl (fun K hK=>?_)
    rw[if_pos (by rfl)]
    refine wp_append_new (.tmp 36) (.tmp 55) 32 rfl w0.heap.size 80 i0 _ 4 80 Tryz.underlying32 hi hz0 hz1 hz2' rfl (by decide) (.slice sp l.length sc) l.length (ndCells l) rfl HRz.out ⟨wd.heap.size,0,none⟩ 1 1 [.string ⟨#[]⟩,.slice none 0 0,.string ⟨#[]⟩,.slice none 0 0] rfl rfl HNW13.out zero_one (by unfold maxLen;omega) (by omega) HSz.out (by decide) ?_
    intro v' w5 hown5 hgr5 hfr5
    obtain⟨g,c,rfl,hgB,hBg,⟨q0,q1,q2,q3⟩,⟨r0,r1,r2,r3⟩,d9,f9,hfa,hfb⟩:=cput_facts (a:=polA p (.slice o1 (List.length l1) k1) (.slice o2 (List.length l2) k2) (.slice o3 (List.length l3) k3) (.slice o4 (List.length l4) k4) (.slice o5 (List.length l5) k5)) HTIW13.out.c HRz.out hown5 hgr5 hfr5 HCR.out.b (.string nm) (.slice ua ub uc) (.string ⟨#[]⟩) (.slice ka (San.treeL p nd.kids).length kb)
    have HFA:=hide (HFIN.out W13 _ _ _ _ _ HTIW13.out.b HAW13.out HKW13.out hfa)
    have HFB:=hide (HFIN.out W13 _ _ _ _ _ HTIW13.out.b HAW13.out HKW13.out hfb)
    clear hown5 hgr5 hfr5 hfa hfb
    refine hK.out _ _ ?_
    clear hK K hHeld HRz HSz HAW13 HKW13 HNW13 HTIW13 HFIN SK C1 C2 C3
    refine wpTo 24 (.pointer (some ⟨g,l.length*4,none⟩)) rfl ?_
    refine wpTo 26 (.pointer (some ⟨B,0,none⟩)) rfl ?_
    refine wpTo 27 (.pointer (some ⟨B,9,none⟩)) rfl ?_
    refine wpAny_ready (rs:=[25,28]) (by kernel_rfl) (by simp) ?_
    refine AllReady.cons rfl (fun K hK=>?_) (AllReady.cons rfl (fun K hK=>?_) AllReady.nil)
    ·go_simp
     go_wp2_with fail
     refine wpAny_ready (rs:=[28]) (by kernel_rfl) (by simp) ?_
     refine AllReady.cons rfl (fun K hK=>?_) AllReady.nil
     go_simp
     go_wp2_with fail
     refine wpAny_done (by kernel_rfl) ?_ _
     go_wp2_with fail
     go_end0
     exact⟨rfl,HFA.out⟩
    ·go_simp
     go_wp2_with fail
     refine wpAny_ready (rs:=[25]) (by kernel_rfl) (by simp) ?_
     refine AllReady.cons rfl (fun K hK=>?_) AllReady.nil
     go_simp
     go_wp2_with fail
     refine wpAny_done (by kernel_rfl) ?_ _
     go_wp2_with fail
     go_end0
     exact⟨rfl,HFB.out⟩
  ·rw[decide_eq_false hel]
   have HR3:Hid (r=(San.allL p nd.kids).foldl San.push (ns,t)):=hide (by rw[HR2.out,if_neg hel])
   have hmf:∀ (fn:Fn) (first cap:Array Value) (w:World),(Instr.makeFunc fn first cap).run Tryz.prog w=.ok (.func fn first cap) w:=fun _ _ _ _=>rfl
   have x3:=tag_cell HBX3.out 3 _ rfl
   have CN:=hide (HE.out w0 w3 B _ nd.kids ns t HV.out HB03.out HKD.out HCS3.out.up HZ.out.2.2.2.1 (by have:=HZ.out;omega) (by have:=HZ.out;omega))
   rw[<-HR3.out] at CN
   clear hel HR2 HR3
   go_wp2_with fail
   refine CN.out.mono ?_
   rintro e w4 ⟨rfl,h4,h5⟩
   have HFIN:=hide (And.intro h4 (HBW3.out.trans h5))
   clear CN h4 h5
   go_wp2_with fail
   go_end0
   exact⟨rfl,HFIN.out⟩
end Go.Proofs.YtkiofbikkhhdfabGreatDoor.Dm
