import Derived.Test.YtkiofbikkhhdfabGreatDoorK14
import Derived.Test.YtkiofbikkhhdfabGreatDoorK11
set_option maxRecDepth 100000
set_option maxHeartbeats 8000000
namespace Go.Proofs.YtkiofbikkhhdfabGreatDoor.Dm
open Go.RowKit
open Utf1

theorem PushEnd.name {w w':World}{B base:Nat}{ov pa bv x y:Value}{l:List (Nd × Value × Value)}{nm tx:ByteArray}{ap:Option Addr}{am ac:Nat}{cp:Option Addr}{cm cc:Nat}{ov':Value}(h:PushEnd w w' B base ov pa bv x y l nm tx ap am ac cp cm cc ov'):∃ w8,w8=w'/\PushEnd w w8 B base ov pa bv x y l nm tx ap am ac cp cm cc ov':=⟨_,rfl,h⟩

theorem start_open (w:World) (base B:Nat) (r:List Nd) (t:List UInt8) (o n:Nat) (name:ByteArray)(h:St w base B r.reverse t o n)(hr:r≠[])(hroot:r.getLast?.map Nd.name=some [])(hM:cntL r+tx t<=100000)(ht:t.length<=100000000)(hn:n<=100000)(hs:name.size<=281474976710656)(hne:bl name≠[]) (_ho:o<=100000)(hv:bl name ∉ voids) (av:Value) (at':List (List UInt8 × List UInt8))(hcl:Clones w base av at') :
  Calls Tryz.prog 79 #[.pointer (some ⟨B,0,none⟩),.string name,av] w fun e w'=>e=.returned (.tuple #[])/\St w' base B (startR (bl name) at' r t o n).1.reverse (startR (bl name) at' r t o n).2.1 (startR (bl name) at' r t o n).2.2.1 (startR (bl name) at' r t o n).2.2.2/\Below base w w':=by
 have f0:=eqlit name []
 rw[decide_eq_false hne] at f0
 have f1:name.toList.isEmpty=false:=by
  cases hh:name.toList with
  | nil=>rw[hh] at f0;cases f0
  | cons=>rfl
 have hall:=wayR_all (bl name) r t hr hroot
 have HMW:=hide (makeWay_st w base B r t o n name h hr hroot hM ht)
 obtain⟨nd,q,hW⟩:∃ nd q,(wayR (bl name) r t).1=nd :: q:=by
  cases hh:(wayR (bl name) r t).1 with
  | nil=>rw[hh] at hall;simp at hall
  | cons a b=>exact⟨a,b,rfl⟩
 have hST:startR (bl name) at' r t o n=(.mk (bl name) at' [] [] :: textIn nd (wayR (bl name) r t).2 :: q,[],max o (q.length+1),n+1):=by
  unfold startR
  rw[if_neg hne,hW]
  simp only[]
  rw[if_neg hv]
 rw[hST]
 obtain⟨t1,ht1⟩:∃ t1,t1=(wayR (bl name) r t).2:=⟨_,rfl⟩
 rw[hW,<-ht1] at hall
 rw[hW,<-ht1,List.reverse_cons] at HMW
 rw[<-ht1,List.reverse_cons,List.reverse_cons]
 have hc:=cnt_text nd t1
 have hk1:=cntN_kids nd
 have hk2:=cntN_kids (textIn nd t1)
 have hl1:=len_cnt nd.kids
 have hl2:=len_cnt (textIn nd t1).kids
 have hlq:=len_cnt q
 have hcq:cntL (nd :: q)=cntN nd+cntL q:=rfl
 have hqr:q.reverse.length=q.length:=List.length_reverse
 have HV:=hide (fun w=>by have:=void_any name w;rw[decide_eq_false hv] at this;exact this)
 have HE:=hide (fun w1 (hw1:St w1 base B (q.reverse++[nd]) t1 o n)=>endText_st w1 base B q.reverse nd t1 o n hw1 (by omega) (by omega) (by omega))
 have hqb:q.length<=100000:=by omega
 clear hST hc hk1 hk2 hl1 hl2 hlq hcq hall hW ht1 h hroot hr hM f0
 go_enter Tryz.func79,Tryz.ntmps79
 go_wp2_with fail
 refine HMW.out.mono ?_
 rintro e w1 ⟨rfl,m1,m2⟩
 have HE1:=hide (HE.out w1 m1)
 have HB1:=hide m2
 clear m1 m2 HMW HE
 go_wp2_with fail
 refine HE1.out.mono ?_
 rintro e w2 ⟨rfl,m1,m2⟩
 have HS2:=hide m1
 have HB2:=hide (HB1.out.trans m2)
 have HB0:Hid (base<=w2.heap.size):=hide (by obtain⟨_,_,h0,_⟩:=HS2.out;exact h0.2.1)
 clear m1 m2 HE1 HB1
 go_wp2_with fail
 refine (clone_any _ _ hs).mono ?_
 rintro e w3 ⟨rfl,m1⟩
 have HS3:=hide (HS2.out.under m1)
 have HB3:=hide (HB2.out.trans (m1.mono HB0.out))
 have HB03:Hid (base<=w3.heap.size):=hide (Nat.le_trans HB0.out m1.size)
 have HCL:=hide (hcl w3 HB03.out HB3.out)
 clear m1 HB2 HS2 HB0 hcl
 go_wp2_with fail
 refine HCL.out.mono ?_
 rintro e w4 ⟨ap,am,ac,rfl,hat,hb4⟩
 have HS4:=hide (HS3.out.under hb4)
 have HB4:=hide (HB3.out.trans (hb4.mono HB03.out))
 have HAT:=hide hat
 clear hat hb4 HS3 HB3 HB03 HCL
 have HA:Hid (Below w4.heap.size w4 (w4.alloc (.cells #[.string name,.slice ap am ac,.string ⟨#[]⟩,.slice none 0 0] 80))):=hide ((Below.refl _ _).alloc (Nat.le_refl _) _)
 obtain⟨pa,bv,h0,hw⟩:=HS4.out.under HA.out
 obtain⟨ov,hB⟩:=h0.bb
 have c4:=tag_cell hB 4 _ rfl
 have f4:=tag_free hB 4
 have hBl:B < w4.heap.size:=by
  obtain⟨pa,bv,h0,hw⟩:=HS4.out
  obtain⟨ov,hB⟩:=h0.bb
  exact lt_of_block hB
 have hB1:B≠w4.heap.size:=Nat.ne_of_lt hBl
 have hB2:w4.heap.size≠B:=Ne.symm hB1
 have H4:Hid (∃ pa bv,St0 ((w4.setCell ⟨B,4,none⟩ (.int .i64 ((n:Int)+1))).alloc (.cells #[.string name,.slice ap am ac,.string ⟨#[]⟩,.slice none 0 0] 80)) base B (q.reverse++[textIn nd t1]) pa bv o (n+1)/\Wait ((w4.setCell ⟨B,4,none⟩ (.int .i64 ((n:Int)+1))).alloc (.cells #[.string name,.slice ap am ac,.string ⟨#[]⟩,.slice none 0 0] 80)) base B pa bv []/\Below base w ((w4.setCell ⟨B,4,none⟩ (.int .i64 ((n:Int)+1))).alloc (.cells #[.string name,.slice ap am ac,.string ⟨#[]⟩,.slice none 0 0] 80))/\World.ownsRow ((w4.setCell ⟨B,4,none⟩ (.int .i64 ((n:Int)+1))).alloc (.cells #[.string name,.slice ap am ac,.string ⟨#[]⟩,.slice none 0 0] 80)) base 108 2 (.slice ap am ac) at'.length (attrCells at')):=hide (by
  obtain⟨pa,bv,h0,hw⟩:=HS4.out
  obtain⟨ov,hB⟩:=h0.bb
  have h4:St (w4.setCell ⟨B,4,none⟩ (.int .i64 ((n+1:Nat):Int))) base B (q.reverse++[textIn nd t1]) [] o (n+1):=⟨pa,_,h0.stays (stays_set hB 4 _) (bb_no_node hB) (fun ov' hb=>(bb_cnt hb _).2),wait_set hB hw 4 _⟩
  have hal:Below (w4.setCell ⟨B,4,none⟩ (.int .i64 ((n+1:Nat):Int))).heap.size (w4.setCell ⟨B,4,none⟩ (.int .i64 ((n+1:Nat):Int))) ((w4.setCell ⟨B,4,none⟩ (.int .i64 ((n+1:Nat):Int))).alloc (.cells #[.string name,.slice ap am ac,.string ⟨#[]⟩,.slice none 0 0] 80)):=(Below.refl _ _).alloc (Nat.le_refl _) _
  obtain⟨pa2,bv2,h5,hw5⟩:=h4.under hal
  have hb4:Below base w (w4.setCell ⟨B,4,none⟩ (.int .i64 ((n+1:Nat):Int))):=HB4.out.setCell (p:=⟨B,4,none⟩) h0.1 _
  refine⟨pa2,bv2,h5,hw5,hb4.trans (hal.mono ?_),own_below (attr_stays HAT.out (stays_set hB 4 _)) hal⟩
  obtain⟨_,_,h6,_⟩:=h4
  exact h6.2.1)
 clear h0 hw hB HS4 HB4 HA HAT
 go_wp2_with fail
 refine (HV.out _).mono ?_
 rintro e w5 ⟨rfl,rfl⟩
 go_wp2_with fail
 have hsz:(w4.setCell ⟨B,4,none⟩ (.int .i64 ((n:Int)+1))).heap.size=w4.heap.size:=by simp
 obtain⟨N,hN⟩:∃ N,N=w4.heap.size:=⟨_,rfl⟩
 have m:=four_new (w4.setCell ⟨B,4,none⟩ (.int .i64 ((n:Int)+1))) (.string name) (.slice ap am ac) (.string ⟨#[]⟩) (.slice none 0 0) 80
 rw[hsz] at m
 obtain⟨w7,hw7⟩:∃ w7,w7=(w4.setCell ⟨B,4,none⟩ (.int .i64 ((n:Int)+1))).alloc (.cells #[.string name,.slice ap am ac,.string ⟨#[]⟩,.slice none 0 0] 80):=⟨_,rfl⟩
 have H7:=H4
 rw[<-hw7] at H7 m ⊢
 rw[<-hN] at m hB1 hB2 ⊢
 have n0:w7.cell? ⟨N,0,none⟩=some (.string name):=m 0 _ rfl
 have n1:w7.cell? ⟨N,1,none⟩=some (.slice ap am ac):=m 1 _ rfl
 have n2:w7.cell? ⟨N,2,none⟩=some (.string ⟨#[]⟩):=m 2 _ rfl
 have n3:w7.cell? ⟨N,3,none⟩=some (.slice none 0 0):=m 3 _ rfl
 obtain⟨pa7,bv7,h7,hwt7,hb7,hat7⟩:=H7.out
 obtain⟨hbB,hbw7,ov7,l,fp,hl7,hB7,hro7,hall7,hnd7⟩:=h7
 obtain⟨op,om,oc,rfl⟩:=own_slice hro7
 have hom:om=l.length:=by
  obtain⟨_,_,e⟩:=own_len hro7
  injection e
 subst hom
 have hll:l.length=q.length+1:=by
  have:=congrArg List.length hl7
  rw[List.length_map,List.length_append,hqr] at this
  exact this
 have HLL:=hide hll
 have hlb:l.length<=100001:=by omega
 have hl1:1<=l.length:=by omega
 clear H4 hw7 m c4 f4 hsz hN H7 hll hqr hqb
 obtain⟨i0,hi,hz0,hz1,hz2⟩:=info_parts infoNode
 obtain⟨wd,hwd⟩:∃ wd,wd=w7.drew:=⟨_,rfl⟩
 have hbd:Below w7.heap.size w7 wd:=by rw[hwd];exact bel_one _
 have o0:wd.cell? ⟨B,0,none⟩=some (.slice op l.length oc):=by rw[hwd];exact tag_cell hB7 0 _ rfl
 have n0:wd.cell? ⟨N,0,none⟩=some (.string name):=by rw[hwd];exact n0
 have n1:wd.cell? ⟨N,1,none⟩=some (.slice ap am ac):=by rw[hwd];exact n1
 have n2:wd.cell? ⟨N,2,none⟩=some (.string ⟨#[]⟩):=by rw[hwd];exact n2
 have n3:wd.cell? ⟨N,3,none⟩=some (.slice none 0 0):=by rw[hwd];exact n3
 obtain⟨wz,hwz⟩:∃ wz,wz=wd.alloc (.cells #[.string ⟨#[]⟩,.slice none 0 0,.string ⟨#[]⟩,.slice none 0 0] 80):=⟨_,rfl⟩
 have hbz:Below wd.heap.size wd wz:=by
  rw[hwz]
  exact (Below.refl _ _).alloc (Nat.le_refl _) _
 have o0z:=cell_keep o0 hbz
 have n0z:=cell_keep n0 hbz
 have n1z:=cell_keep n1 hbz
 have n2z:=cell_keep n2 hbz
 have n3z:=cell_keep n3 hbz
 have hSz:=And.intro o0z (And.intro n0z (And.intro n1z (And.intro n2z n3z)))
 have hb7z:Below w7.heap.size w7 wz:=bel2 hbd hbz
 have HRZ:Hid (_/\BB wz B (.slice op l.length oc) pa7 bv7 (.int .i64 (o:Int)) (.int .i64 ((n+1:Nat):Int))):=hide ⟨own_below hro7 hb7z,(hb7z.block _ (lt_of_block hB7)).trans hB7⟩
 have HNZ:=hide (four_new wd (.string ⟨#[]⟩) (.slice none 0 0) (.string ⟨#[]⟩) (.slice none 0 0) 80)
 rw[<-hwz] at HNZ
 have HSZ:Hid (base<=wz.heap.size):=hide (Nat.le_trans hbw7 hb7z.size)
 have HEND:Hid (∀ (w':World) (ov':Value),PushEnd wz w' B base (.slice op l.length oc) pa7 bv7 (.int .i64 (o:Int)) (.int .i64 ((n+1:Nat):Int)) l name ⟨#[]⟩ ap am ac none 0 0 ov'->∀ o2:Nat,St (w'.setCell ⟨B,3,none⟩ (.int .i64 (o2:Int))).drew base B (q.reverse++[textIn nd t1]++[.mk (bl name) at' [] []]) [] o2 (n+1)/\Below base w (w'.setCell ⟨B,3,none⟩ (.int .i64 (o2:Int))).drew):=hide (by
  intro w' ov' hp o2
  obtain⟨s1,s2,s3⟩:=push_st (bl name) at' ap am ac hbB HSZ.out HRZ.out.2 HRZ.out.1 (hall7.under hb7z) hnd7 (own_below hat7 hb7z) hp
  rw[hl7] at s1
  have hw':St w' base B (q.reverse++[textIn nd t1]++[.mk (bl name) at' [] []]) [] o (n+1):=⟨_,_,s1,hwt7.1,s3 _ _ _ _ (own_below hwt7.2 hb7z)⟩
  obtain⟨pa9,bv9,u0,uw⟩:=hw'
  obtain⟨ov9,uB⟩:=u0.bb
  have hs:St (w'.setCell ⟨B,3,none⟩ (.int .i64 (o2:Int))) base B (q.reverse++[textIn nd t1]++[.mk (bl name) at' [] []]) [] o2 (n+1):=⟨pa9,bv9,u0.stays (stays_set uB 3 _) (bb_no_node uB) (fun ov' hb=>(bb_cnt hb _).1),wait_set uB uw 3 _⟩
  have hb':Below (w'.setCell ⟨B,3,none⟩ (.int .i64 (o2:Int))).heap.size (w'.setCell ⟨B,3,none⟩ (.int .i64 (o2:Int))) (w'.setCell ⟨B,3,none⟩ (.int .i64 (o2:Int))).drew:=bel_one _
  refine⟨hs.under hb',?_⟩
  refine ((((hb7.trans (hb7z.mono hbw7)).trans s2).setCell (p:=⟨B,3,none⟩) hbB _)).trans (hb'.mono ?_)
  obtain⟨_,_,h6,_⟩:=hs
  exact h6.2.1)
 have HWZ:=hide hwz
 clear hwz hbz hb7z hbd hro7 hB7 hall7 hnd7 hl7 hwt7 hb7 hat7 o0z n0z n1z n2z n3z
 refine wp_region_until (m:=7) (S:=fun w'=>w'.cell? ⟨B,0,none⟩=some (.slice op l.length oc)/\w'.cell? ⟨N,0,none⟩=some (.string name)/\w'.cell? ⟨N,1,none⟩=some (.slice ap am ac)/\w'.cell? ⟨N,2,none⟩=some (.string ⟨#[]⟩)/\w'.cell? ⟨N,3,none⟩=some (.slice none 0 0)) (by kernel_rfl) (by rw[<-hwd];exact⟨o0,n0,n1,n2,n3⟩) (fun hHeld=>?_)
 rw[<-hwd] at hHeld ⊢
 clear hwd o0 n0 n1 n2 n3
 refine wpU_p 0 rfl ?_
 refine wpU_p 1 rfl ?_
 refine wpU_p 2 rfl ?_
 refine wpU_p 3 rfl ?_
 refine wpU_p 4 rfl ?_
 refine wpU_p 5 rfl ?_
 refine wpU_ready (rs:=[6]) (by kernel_rfl) (by simp) ?_
 refine AllU.cons (by decide) rfl (fun K hK=>?_) AllU.nil
 go_simp
 go_wp2_with fail
 rw[<-HWZ.out]
 refine hK.out _ _ hSz (fun hHeld2=>?_)
 clear hK K hHeld hSz HWZ
 have hHeld:=hHeld2
 clear hHeld2
 refine wpU_ready (rs:=[7]) (by kernel_rfl) (by simp) ?_
 refine AllU.last rfl (fun K hK=>?_)
 rw[if_pos (by rfl)]
 refine wp_append_new (.tmp 36) (.tmp 39) 32 rfl base 80 i0 _ 4 80 Tryz.underlying32 hi hz0 hz1 hz2 rfl (by decide) (.slice op l.length oc) l.length (ndCells l) rfl HRZ.out.1 ⟨wd.heap.size,0,none⟩ 1 1 [.string ⟨#[]⟩,.slice none 0 0,.string ⟨#[]⟩,.slice none 0 0] rfl rfl HNZ.out zero_one (by unfold maxLen;omega) (by omega) HSZ.out (by decide) ?_
 intro v' w5 hown5 hgr5 hfr5
 obtain⟨g2,c2,rfl,HP⟩:=push_facts hbB HSZ.out HRZ.out.2 HRZ.out.1 hown5 hgr5 hfr5 name ⟨#[]⟩ ap am ac none 0 0
 obtain⟨hgg,q0,q1,q2,q3,r0,r1,r2,r3,q4,r4,hfa,hfb⟩:=HP
 have HFA:=hide hfa
 have HFB:=hide hfb
 have hgg2:B≠g2:=Ne.symm hgg
 clear hown5 hgr5 hfr5 hfa hfb
 refine hK.out _ _ ?_
 clear hK K hHeld
 refine wpTo 8 (.pointer (some ⟨g2,l.length*4,none⟩)) rfl ?_
 refine wpTo 10 (.pointer (some ⟨B,0,none⟩)) rfl ?_
 refine wpTo 11 (.pointer (some ⟨B,0,none⟩)) rfl ?_
 refine wpAny_ready (rs:=[9,12]) (by kernel_rfl) (by simp) ?_
 refine AllReady.cons rfl (fun K hK=>?_) (AllReady.cons rfl (fun K hK=>?_) AllReady.nil)
 ·go_simp
  go_wp2_with fail
  refine wpAny_ready (rs:=[12]) (by kernel_rfl) (by simp) ?_
  refine AllReady.cons rfl (fun K hK=>?_) AllReady.nil
  go_simp
  go_wp2_with fail
  refine wpAny_done (by kernel_rfl) ?_ _
  go_wp2_with fail
  obtain⟨w8,hw8,hp⟩:=HFA.out.name
  rw[<-hw8]
  have c0:(w8.drew).cell? ⟨B,0,none⟩=some (.slice (some ⟨g2,0,none⟩) (l.length+1) c2):=tag_cell hp.1 0 _ rfl
  have c3:(w8.drew).cell? ⟨B,3,none⟩=some (.int .i64 (o:Int)):=tag_cell hp.1 3 _ rfl
  have f3:(w8.drew).frozen? ⟨B,3,none⟩=false:=tag_free hp.1 3
  have HE:=hide (HEND.out w8 _ hp)
  clear hw8 hp HFA HFB
  refine wp_region_any (by kernel_rfl) ?_
  try (change wpAny _ _ _ _ _ _ _ (World.drew _))
  refine wpTo 0 (.pointer (some ⟨B,0,none⟩)) rfl ?_
  refine wpTo 1 (.pointer (some ⟨B,0,none⟩)) rfl ?_
  refine wpTo 2 (.pointer (some ⟨B,0,none⟩)) rfl ?_
  refine wpTo 3 (.pointer (some ⟨B,3,none⟩)) rfl ?_
  refine wpTo 4 (.pointer (some ⟨B,3,none⟩)) rfl ?_
  refine wpTo 6 (.pointer (some ⟨B,0,none⟩)) rfl ?_
  refine wpTo 7 (.pointer (some ⟨B,0,none⟩)) rfl ?_
  refine wpTo 8 (.pointer (some ⟨B,0,none⟩)) rfl ?_
  refine wpAny_ready (rs:=[5,9]) (by kernel_rfl) (by simp) ?_
  refine AllReady.cons rfl (fun K hK=>?_) (AllReady.cons rfl (fun K hK=>?_) AllReady.nil)
  ·go_simp
   go_wp2_with fail
   refine wpAny_ready (rs:=[9]) (by kernel_rfl) (by simp) ?_
   refine AllReady.cons rfl (fun K hK=>?_) AllReady.nil
   go_simp
   go_wp2_with fail
   refine wpTo 10 (.int .i64 ((l.length:Int)+1)) rfl ?_
   refine wpAny_to (i:=11) (v:=.int .i64 (l.length:Int)) (a':=?ax11q234HFA) rfl (by kernel_rfl) (by kernel_rfl) (by kernel_rfl) (fun _ _ _ h=>h) (Or.inl ⟨by rfl,?yi⟩) ?ha ?_
   case yi=>intro w;go_simp;try exact IntWalk.i64_in _ (by omega)
   case ha=>go_simp;try exact rfl
   refine wpAny_ready (rs:=[12]) (by kernel_rfl) (by simp) ?_
   refine AllReady.cons rfl (fun K hK=>?_) AllReady.nil
   go_simp
   go_wp2_with fail
   refine wpTo 13 (.pointer (some ⟨B,0,none⟩)) rfl ?_
   refine wpTo 14 (.pointer (some ⟨B,3,none⟩)) rfl ?_
   refine wpTo 15 (.pointer (some ⟨B,3,none⟩)) rfl ?_
   refine wpAny_ready (rs:=[16]) (by kernel_rfl) (by simp) ?_
   refine AllReady.cons rfl (fun K hK=>?_) AllReady.nil
   go_simp
   go_wp2_with fail
   refine wpAny_done (by kernel_rfl) ?_ _
   go_wp2_with fail
   go_end0
   have HF:=HE.out (max o l.length)
   have hmx:((max o l.length:Nat):Int)=max (o:Int) (l.length:Int):=by omega
   rw[hmx] at HF
   have hlq:max o (q.length+1)=max o l.length:=by rw[HLL.out]
   rw[hlq]
   exact⟨rfl,HF⟩
  ·go_simp
   go_wp2_with fail
   refine wpTo 10 (.int .i64 ((l.length:Int)+1)) rfl ?_
   refine wpAny_to (i:=11) (v:=.int .i64 (l.length:Int)) (a':=?ax11q239HFA) rfl (by kernel_rfl) (by kernel_rfl) (by kernel_rfl) (fun _ _ _ h=>h) (Or.inl ⟨by rfl,?yi⟩) ?ha ?_
   case yi=>intro w;go_simp;try exact IntWalk.i64_in _ (by omega)
   case ha=>go_simp;try exact rfl
   refine wpAny_ready (rs:=[5]) (by kernel_rfl) (by simp) ?_
   refine AllReady.cons rfl (fun K hK=>?_) AllReady.nil
   go_simp
   go_wp2_with fail
   refine wpAny_ready (rs:=[12]) (by kernel_rfl) (by simp) ?_
   refine AllReady.cons rfl (fun K hK=>?_) AllReady.nil
   go_simp
   go_wp2_with fail
   refine wpTo 13 (.pointer (some ⟨B,0,none⟩)) rfl ?_
   refine wpTo 14 (.pointer (some ⟨B,3,none⟩)) rfl ?_
   refine wpTo 15 (.pointer (some ⟨B,3,none⟩)) rfl ?_
   refine wpAny_ready (rs:=[16]) (by kernel_rfl) (by simp) ?_
   refine AllReady.cons rfl (fun K hK=>?_) AllReady.nil
   go_simp
   go_wp2_with fail
   refine wpAny_done (by kernel_rfl) ?_ _
   go_wp2_with fail
   go_end0
   have HF:=HE.out (max o l.length)
   have hmx:((max o l.length:Nat):Int)=max (o:Int) (l.length:Int):=by omega
   rw[hmx] at HF
   have hlq:max o (q.length+1)=max o l.length:=by rw[HLL.out]
   rw[hlq]
   exact⟨rfl,HF⟩
 ·go_simp
  go_wp2_with fail
  refine wpAny_ready (rs:=[9]) (by kernel_rfl) (by simp) ?_
  refine AllReady.cons rfl (fun K hK=>?_) AllReady.nil
  go_simp
  go_wp2_with fail
  refine wpAny_done (by kernel_rfl) ?_ _
  go_wp2_with fail
  obtain⟨w8,hw8,hp⟩:=HFB.out.name
  rw[<-hw8]
  have c0:(w8.drew).cell? ⟨B,0,none⟩=some (.slice (some ⟨g2,0,none⟩) (l.length+1) c2):=tag_cell hp.1 0 _ rfl
  have c3:(w8.drew).cell? ⟨B,3,none⟩=some (.int .i64 (o:Int)):=tag_cell hp.1 3 _ rfl
  have f3:(w8.drew).frozen? ⟨B,3,none⟩=false:=tag_free hp.1 3
  have HE:=hide (HEND.out w8 _ hp)
  clear hw8 hp HFA HFB
  refine wp_region_any (by kernel_rfl) ?_
  try (change wpAny _ _ _ _ _ _ _ (World.drew _))
  refine wpTo 0 (.pointer (some ⟨B,0,none⟩)) rfl ?_
  refine wpTo 1 (.pointer (some ⟨B,0,none⟩)) rfl ?_
  refine wpTo 2 (.pointer (some ⟨B,0,none⟩)) rfl ?_
  refine wpTo 3 (.pointer (some ⟨B,3,none⟩)) rfl ?_
  refine wpTo 4 (.pointer (some ⟨B,3,none⟩)) rfl ?_
  refine wpTo 6 (.pointer (some ⟨B,0,none⟩)) rfl ?_
  refine wpTo 7 (.pointer (some ⟨B,0,none⟩)) rfl ?_
  refine wpTo 8 (.pointer (some ⟨B,0,none⟩)) rfl ?_
  refine wpAny_ready (rs:=[5,9]) (by kernel_rfl) (by simp) ?_
  refine AllReady.cons rfl (fun K hK=>?_) (AllReady.cons rfl (fun K hK=>?_) AllReady.nil)
  ·go_simp
   go_wp2_with fail
   refine wpAny_ready (rs:=[9]) (by kernel_rfl) (by simp) ?_
   refine AllReady.cons rfl (fun K hK=>?_) AllReady.nil
   go_simp
   go_wp2_with fail
   refine wpTo 10 (.int .i64 ((l.length:Int)+1)) rfl ?_
   refine wpAny_to (i:=11) (v:=.int .i64 (l.length:Int)) (a':=?ax11q234HFB) rfl (by kernel_rfl) (by kernel_rfl) (by kernel_rfl) (fun _ _ _ h=>h) (Or.inl ⟨by rfl,?yi⟩) ?ha ?_
   case yi=>intro w;go_simp;try exact IntWalk.i64_in _ (by omega)
   case ha=>go_simp;try exact rfl
   refine wpAny_ready (rs:=[12]) (by kernel_rfl) (by simp) ?_
   refine AllReady.cons rfl (fun K hK=>?_) AllReady.nil
   go_simp
   go_wp2_with fail
   refine wpTo 13 (.pointer (some ⟨B,0,none⟩)) rfl ?_
   refine wpTo 14 (.pointer (some ⟨B,3,none⟩)) rfl ?_
   refine wpTo 15 (.pointer (some ⟨B,3,none⟩)) rfl ?_
   refine wpAny_ready (rs:=[16]) (by kernel_rfl) (by simp) ?_
   refine AllReady.cons rfl (fun K hK=>?_) AllReady.nil
   go_simp
   go_wp2_with fail
   refine wpAny_done (by kernel_rfl) ?_ _
   go_wp2_with fail
   go_end0
   have HF:=HE.out (max o l.length)
   have hmx:((max o l.length:Nat):Int)=max (o:Int) (l.length:Int):=by omega
   rw[hmx] at HF
   have hlq:max o (q.length+1)=max o l.length:=by rw[HLL.out]
   rw[hlq]
   exact⟨rfl,HF⟩
  ·go_simp
   go_wp2_with fail
   refine wpTo 10 (.int .i64 ((l.length:Int)+1)) rfl ?_
   refine wpAny_to (i:=11) (v:=.int .i64 (l.length:Int)) (a':=?ax11q239HFB) rfl (by kernel_rfl) (by kernel_rfl) (by kernel_rfl) (fun _ _ _ h=>h) (Or.inl ⟨by rfl,?yi⟩) ?ha ?_
   case yi=>intro w;go_simp;try exact IntWalk.i64_in _ (by omega)
   case ha=>go_simp;try exact rfl
   refine wpAny_ready (rs:=[5]) (by kernel_rfl) (by simp) ?_
   refine AllReady.cons rfl (fun K hK=>?_) AllReady.nil
   go_simp
   go_wp2_with fail
   refine wpAny_ready (rs:=[12]) (by kernel_rfl) (by simp) ?_
   refine AllReady.cons rfl (fun K hK=>?_) AllReady.nil
   go_simp
   go_wp2_with fail
   refine wpTo 13 (.pointer (some ⟨B,0,none⟩)) rfl ?_
   refine wpTo 14 (.pointer (some ⟨B,3,none⟩)) rfl ?_
   refine wpTo 15 (.pointer (some ⟨B,3,none⟩)) rfl ?_
   refine wpAny_ready (rs:=[16]) (by kernel_rfl) (by simp) ?_
   refine AllReady.cons rfl (fun K hK=>?_) AllReady.nil
   go_simp
   go_wp2_with fail
   refine wpAny_done (by kernel_rfl) ?_ _
   go_wp2_with fail
   go_end0
   have HF:=HE.out (max o l.length)
   have hmx:((max o l.length:Nat):Int)=max (o:Int) (l.length:Int):=by omega
   rw[hmx] at HF
   have hlq:max o (q.length+1)=max o l.length:=by rw[HLL.out]
   rw[hlq]
   exact⟨rfl,HF⟩
end Go.Proofs.YtkiofbikkhhdfabGreatDoor.Dm
