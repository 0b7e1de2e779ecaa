import Derived.Test.YtkiofbikkhhdfabGreatDoorSX5
import Derived.Test.YtkiofbikkhhdfabGreatDoorK11
import Derived.Test.YtkiofbikkhhdfabGreatDoorK04
import Derived.Test.YtkiofbikkhhdfabGreatDoorK07
import Derived.Test.YtkiofbikkhhdfabGreatDoorK19
set_option maxRecDepth 100000
set_option maxHeartbeats 16000000
namespace Go.Proofs.YtkiofbikkhhdfabGreatDoor.Dm
open Go.RowKit
open Utf1
structure CPut (w w':World) (base B:Nat) (a:Nat->Value) (sv pa bv v':Value) (n:Nat) (xs:List Value):Prop where
 c:CB w' B a v' pa bv
 r:w'.ownsRow base 80 4 v' n xs
 f:v'.ownBlock=sv.ownBlock\/v'.ownBlock=some w.heap.size
 b:Below base w w'
 k:∀ k,k < w.heap.size->k≠B->some k≠sv.ownBlock->w'.heap[k]?=w.heap[k]?
theorem cput_facts {w w5:World}{B base n:Nat}{a:Nat->Value}{sv pa bv v':Value}{xs:List Value}(hB:CB w B a sv pa bv)(hr:w.ownsRow base 80 4 sv n xs)
  (hown:w5.ownsRow base 80 4 v' (n+1) (xs++[.string ⟨#[]⟩,.slice none 0 0,.string ⟨#[]⟩,.slice none 0 0]))(hgr:w.grownBy w5 sv.ownBlock)(hfr:v'.ownBlock=sv.ownBlock\/v'.ownBlock=some w.heap.size)(hbB:base<=B) (x0 x1 x2 x3:Value) :
  ∃ g c,v'=.slice (some ⟨g,0,none⟩) (n+1) c/\g≠B/\B≠g /\
   (w5.cell? ⟨g,n*4,none⟩=some (.string ⟨#[]⟩)/\w5.cell? ⟨g,n*4+1,none⟩=some (.slice none 0 0)/\w5.cell? ⟨g,n*4+2,none⟩=some (.string ⟨#[]⟩)/\w5.cell? ⟨g,n*4+3,none⟩=some (.slice none 0 0)) /\
   (w5.frozen? ⟨g,n*4,none⟩=false/\w5.frozen? ⟨g,n*4+1,none⟩=false/\w5.frozen? ⟨g,n*4+2,none⟩=false/\w5.frozen? ⟨g,n*4+3,none⟩=false) /\
   w5.cell? ⟨B,9,none⟩=some sv/\w5.frozen? ⟨B,9,none⟩=false /\
   CPut w (((((w5.setCell ⟨g,n*4,none⟩ x0).setCell ⟨g,n*4+1,none⟩ x1).setCell ⟨g,n*4+2,none⟩ x2).setCell ⟨g,n*4+3,none⟩ x3).setCell ⟨B,9,none⟩ v') base B a sv pa bv v' (n+1) (xs++[x0,x1,x2,x3]) /\
   CPut w (((((w5.setCell ⟨B,9,none⟩ v').setCell ⟨g,n*4,none⟩ x0).setCell ⟨g,n*4+1,none⟩ x1).setCell ⟨g,n*4+2,none⟩ x2).setCell ⟨g,n*4+3,none⟩ x3) base B a sv pa bv v' (n+1) (xs++[x0,x1,x2,x3]):=by
 obtain⟨g,c,rfl,hcell⟩:=own_at hown (by omega)
 have hBl:=lt_of_block hB
 have hlen:xs.length=n*4:=hr.1
 have hsB:sv.ownBlock≠some B:=own_apart hr hB (by decide)
 have hB5:CB w5 B a sv pa bv:=(hgr.block _ hBl (fun e=>hsB e.symm)).trans hB
 have hgB:g≠B:=fun e=>own_apart hown hB5 (by decide) (by rw[e];rfl)
 have hat:∀ j,j < 4->w5.cell? ⟨g,n*4+j,none⟩=[Value.string ⟨#[]⟩,.slice none 0 0,.string ⟨#[]⟩,.slice none 0 0][j]?:=by
  intro j hj
  rw[hcell _ (by omega),List.getElem?_append_right (by omega),hlen,Nat.add_sub_cancel_left]
 have hfz:∀ j,w5.frozen? ⟨g,j,none⟩=false:=by
  intro j
  obtain⟨_,⟨e,_⟩ | ⟨g',cap',cur,e,_,hg,_⟩⟩:=hown
  ·cases e
  ·cases e
   exact tag_free hg j
 have hgb:base<=g:=(hown.lt g rfl).1
 have hbel:Below base w w5:=(Below.refl base w).grown hgr (by omega) (fun j hj=>(hr.lt j hj).1)
 have hne9:(Value.slice (some ⟨g,0,none⟩) (n+1) c).ownBlock≠some B:=fun e=>hgB (by simpa [Value.ownBlock] using e)
 have hk:∀ k,k < w.heap.size->k≠B->some k≠sv.ownBlock->k≠g:=by
  rintro k hk h1 h2 rfl
  rcases hfr with e | e
  ·exact h2 e
  ·have:k=w.heap.size:=by simpa [Value.ownBlock] using e
   omega
 have e4:((((xs++[Value.string ⟨#[]⟩,.slice none 0 0,.string ⟨#[]⟩,.slice none 0 0]).set (n*4) x0).set (n*4+1) x1).set (n*4+2) x2).set (n*4+3) x3=xs++[x0,x1,x2,x3]:=by rw[<-hlen];exact set_four xs _ _ _ _ _ _ _ _
 refine⟨g,c,rfl,hgB,Ne.symm hgB,⟨hat 0 (by decide),hat 1 (by decide),hat 2 (by decide),hat 3 (by decide)⟩,⟨hfz _,hfz _,hfz _,hfz _⟩,tag_cell hB5 9 _ rfl,tag_free hB5 9,⟨?_,?_,hfr,?_,?_⟩,⟨?_,?_,hfr,?_,?_⟩⟩
 ·refine tok_set (cs:=#[a 0,a 1,a 2,a 3,a 4,a 5,a 6,a 7,a 8,sv,pa,bv]) ?_ 9 _
  rw[Below.heap_setCell _ _ _ _ (by simpa using Ne.symm hgB),Below.heap_setCell _ _ _ _ (by simpa using Ne.symm hgB),Below.heap_setCell _ _ _ _ (by simpa using Ne.symm hgB),Below.heap_setCell _ _ _ _ (by simpa using Ne.symm hgB)]
  exact hB5
 ·rw[<-e4]
  exact ownsRow_setCell_other (own_put (own_put (own_put (own_put hown _ _) _ _) _ _) _ _) (a:=⟨B,9,none⟩) hne9 _
 ·exact ((((hbel.setCell (p:=⟨g,n*4,none⟩) hgb _).setCell (p:=⟨g,n*4+1,none⟩) hgb _).setCell (p:=⟨g,n*4+2,none⟩) hgb _).setCell (p:=⟨g,n*4+3,none⟩) hgb _).setCell (p:=⟨B,9,none⟩) hbB _
 ·intro k hkl h1 h2
  have h3:=hk k hkl h1 h2
  rw[Below.heap_setCell _ _ _ _ (by simpa using h1),Below.heap_setCell _ _ _ _ (by simpa using h3),Below.heap_setCell _ _ _ _ (by simpa using h3),Below.heap_setCell _ _ _ _ (by simpa using h3),Below.heap_setCell _ _ _ _ (by simpa using h3)]
  exact hgr.block k hkl h2
 ·show _=_
  rw[Below.heap_setCell _ _ _ _ (by simpa using Ne.symm hgB),Below.heap_setCell _ _ _ _ (by simpa using Ne.symm hgB),Below.heap_setCell _ _ _ _ (by simpa using Ne.symm hgB),Below.heap_setCell _ _ _ _ (by simpa using Ne.symm hgB)]
  exact tok_set hB5 9 _
 ·rw[<-e4]
  exact own_put (own_put (own_put (own_put (ownsRow_setCell_other hown (a:=⟨B,9,none⟩) hne9 _) _ _) _ _) _ _) _ _
 ·exact ((((hbel.setCell (p:=⟨B,9,none⟩) hbB _).setCell (p:=⟨g,n*4,none⟩) hgb _).setCell (p:=⟨g,n*4+1,none⟩) hgb _).setCell (p:=⟨g,n*4+2,none⟩) hgb _).setCell (p:=⟨g,n*4+3,none⟩) hgb _
 ·intro k hkl h1 h2
  have h3:=hk k hkl h1 h2
  rw[Below.heap_setCell _ _ _ _ (by simpa using h3),Below.heap_setCell _ _ _ _ (by simpa using h3),Below.heap_setCell _ _ _ _ (by simpa using h3),Below.heap_setCell _ _ _ _ (by simpa using h3),Below.heap_setCell _ _ _ _ (by simpa using h1)]
  exact hgr.block k hkl h2
theorem cend_any (w:World) (base B:Nat) (a:Nat->Value) (sv pa bv:Value) (n:Nat) (xs:List Value) (t:List UInt8)(hB:CB w B a sv pa bv)(hW:CWait w base B pa bv t)(hr:w.ownsRow base 80 4 sv n xs)(hn:n<=1000000)(hbB:base<=B)(ht:t≠[]) :
  Calls Tryz.prog 108 #[.pointer (some ⟨B,0,none⟩)] w fun e w'=>e=.returned (.tuple #[])/\∃ v',CB w' B a v' (.pointer none) (.slice none 0 0)/\w'.ownsRow base 80 4 v' (n+1) (xs++[.string ⟨#[]⟩,.slice none 0 0,.string ⟨t.toArray⟩,.slice none 0 0]) /\
   (v'.ownBlock=sv.ownBlock\/∃ g,v'.ownBlock=some g/\w.heap.size<=g)/\Below base w w'/\(∀ k,k < w.heap.size->k≠B->some k≠sv.ownBlock->some k≠bv.ownBlock->w'.heap[k]?=w.heap[k]?):=by
 obtain⟨i0,hi,hz0,hz1,hz2⟩:=info_parts infoNode
 have hBl:=lt_of_block hB
 have hsb:∀ k,bv.ownBlock=some k->sv.ownBlock≠some k:=by
  intro k hk e
  obtain⟨_,⟨rfl,_⟩ | ⟨g,cap,cur,rfl,_,hg,_⟩⟩:=hW.2
  ·cases hk
  ·have:g=k:=by simpa [Value.ownBlock] using hk
   subst this
   exact own_apart hr hg (by decide) e
 obtain⟨bp,bm,bc,rfl⟩:=own_slice hW.2
 have hbm:bm=t.length:=by
  obtain⟨_,_,e⟩:=own_len hW.2
  injection e with _ e
  rw[byte_len] at e
  exact e
 have hm0:bm≠0:=by rw[hbm];simpa using ht
 obtain⟨sp,sc,rfl⟩:=own_len hr
 have CL:=hide (clen_any w B a _ _ bp bm bc hB)
 have hgt:0 < bm:=by omega
 obtain⟨wd,hwd⟩:∃ wd,wd=w.drew:=⟨_,rfl⟩
 have HBD:Hid (Below w.heap.size w wd):=hide (by rw[hwd];exact bel_one _)
 have hBd:CB wd B a (.slice sp n sc) pa (.slice bp bm bc):=(HBD.out.block _ hBl).trans hB
 have c9:wd.cell? ⟨B,9,none⟩=some (.slice sp n sc):=tag_cell hBd 9 _ rfl
 have HW:Hid (CWait wd base B pa (.slice bp bm bc) t):=hide ⟨hW.1,own_below hW.2 HBD.out⟩
 have HR:Hid (wd.ownsRow base 80 4 (.slice sp n sc) n xs):=hide (own_below hr HBD.out)
 have HB:=hide hBd
 have HSB:=hide hsb
 have HT:=hide ht
 have HDS:Hid (B < wd.heap.size/\base<=B):=hide ⟨by have:=HBD.out.size;omega,hbB⟩
 have HFIN:Hid (∀ (wz w5:World) (v':Value),Stays wd wz (blk (.slice bp bm bc))->Below base wd wz->CPut wz w5 base B a (.slice sp n sc) pa (.slice bp bm bc) v' (n+1) (xs++[.string ⟨#[]⟩,.slice none 0 0,.string ⟨t.toArray⟩,.slice none 0 0])->Calls Tryz.prog 83 #[.pointer (some ⟨B,10,none⟩)] w5 fun e w'=>e=.returned (.tuple #[])/\∃ v',CB w' B a v' (.pointer none) (.slice none 0 0)/\w'.ownsRow base 80 4 v' (n+1) (xs++[.string ⟨#[]⟩,.slice none 0 0,.string ⟨t.toArray⟩,.slice none 0 0]) /\
   (v'.ownBlock=(Value.slice sp n sc).ownBlock\/∃ g,v'.ownBlock=some g/\w.heap.size<=g)/\Below base w w'/\(∀ k,k < w.heap.size->k≠B->some k≠(Value.slice sp n sc).ownBlock->some k≠(Value.slice bp bm bc).ownBlock->w'.heap[k]?=w.heap[k]?)):=hide (by
  intro wz w5 v' hst hbz hp
  refine (creset_any w5 B a _ _ _ hp.c).mono ?_
  rintro e w' ⟨rfl,rfl⟩
  have h1:=(cb_set hp.c (.pointer none)).1
  have hbw:Below base w wd:=HBD.out.mono (by omega)
  refine⟨rfl,v',(cb_set h1 (.slice none 0 0)).2,own_set (own_set hp.r hp.c (by decide) 10 _) h1 (by decide) 11 _,?_,?_,?_⟩
  ·refine hp.f.imp id fun e=>⟨_,e,?_⟩
   have:=hst.size
   have:=HBD.out.size
   omega
  ·exact (((hbw.trans hbz).trans hp.b).setCell (p:=⟨B,10,none⟩) hbB _).setCell (p:=⟨B,11,none⟩) hbB _
  ·intro k hk k1 k2 k3
   have hkd:k < wd.heap.size:=Nat.lt_of_lt_of_le hk HBD.out.size
   rw[Below.heap_setCell _ _ _ _ (by simpa using k1),Below.heap_setCell _ _ _ _ (by simpa using k1),hp.k k (Nat.lt_of_lt_of_le hkd hst.size) k1 k2,hst.block k hkd (fun e=>k3 (by unfold blk at e;exact (show (Value.slice bp bm bc).ownBlock=some k by simpa using e).symm)),HBD.out.block k hk])
 clear hB hW hr hsb hbB hBd hbm hm0 ht
 go_enter Tryz.func108,Tryz.ntmps108
 go_wp2_with fail
 refine CL.out.mono ?_
 rintro e w1 ⟨rfl,rfl⟩
 clear CL
 go_wp2_with fail
 refine wp_region_until (m:=11) (S:=fun w'=>w'.cell? ⟨B,9,none⟩=some (.slice sp n sc)) (by kernel_rfl) (by rw[<-hwd];exact c9) (fun hHeld=>?_)
 rw[<-hwd] at hHeld ⊢
 clear hwd c9
 refine wpU_p 0 rfl ?_
 refine wpU_p 1 rfl ?_
 refine wpU_p 2 rfl ?_
 refine wpU_p 3 rfl ?_
 refine wpU_p 4 rfl ?_
 refine wpU_p 5 rfl ?_
 refine wpU_p 6 rfl ?_
 refine wpU_p 9 rfl ?_
 refine wpU_ready (rs:=[7,10]) (by kernel_rfl) (by simp) ?_
 refine AllU.cons (by decide) rfl (fun K hK=>?_) (AllU.cons (by decide) rfl (fun K hK=>?_) AllU.nil)
 ·have CS:=hide (cstring_any wd B base a _ _ _ t HB.out HW.out HT.out)
  go_simp
  go_wp2_with fail
  refine CS.out.mono ?_
  rintro e w2 ⟨rfl,hbw2,hsw2,hww2⟩
  clear CS
  try go_wp2_with fail
  refine hK.out _ _ (tag_cell hbw2 9 _ rfl) (fun hHeld2=>?_)
  clear hK K hHeld
  have hHeld:=hHeld2
  clear hHeld2
  refine wpU_p 8 rfl ?_
  obtain⟨wz,hwz⟩:∃ wz,wz=w2.alloc (.cells #[.string ⟨#[]⟩,.slice none 0 0,.string ⟨#[]⟩,.slice none 0 0] 80):=⟨_,rfl⟩
  have hbz:Below w2.heap.size w2 wz:=by rw[hwz];exact (Below.refl _ _).alloc (Nat.le_refl _) _
  have HBz:Hid (CB wz B a (.slice sp n sc) pa (.slice bp bm bc)):=hide ((hbz.block _ (lt_of_block hbw2)).trans hbw2)
  have HRz:Hid (wz.ownsRow base 80 4 (.slice sp n sc) n xs):=hide (own_below (own_stays HR.out hsw2.block (fun k hk h=>by unfold blk at h;exact HSB.out k (by simpa using h) hk)) hbz)
  have HNz:=hide (four_new w2 (.string ⟨#[]⟩) (.slice none 0 0) (.string ⟨#[]⟩) (.slice none 0 0) 80)
  rw[<-hwz] at HNz
  have HSTz:Hid (Stays wd wz (blk (.slice bp bm bc))):=hide ⟨Nat.le_trans hsw2.size hbz.size,fun k hk h=>(hbz.block k (Nat.lt_of_lt_of_le hk hsw2.size)).trans (hsw2.block k hk h),hsw2.attr⟩
  have HBLz:Hid (Below base wd wz):=hide (hww2.trans (hbz.mono (by have:=hsw2.size;have:=HDS.out;omega)))
  have HSz:Hid (base<=wz.heap.size):=hide (by have:=hsw2.size;have:=hbz.size;have:=HDS.out;omega)
  have hz9:=tag_cell HBz.out 9 _ rfl
  have HWZ:=hide hwz
  clear hwz hbz hbw2 hsw2 hww2
  refine wpU_ready (rs:=[10]) (by kernel_rfl) (by simp) ?_
  refine AllU.cons (by decide) rfl (fun K hK=>?_) AllU.nil
  go_simp
  go_wp2_with fail
  rw[<-HWZ.out]
  clear HWZ
  refine hK.out _ _ hz9 (fun hHeld2=>?_)
  clear hK K hHeld
  have hHeld:=hHeld2
  clear hHeld2
  clear hz9
  refine wpU_ready (rs:=[11]) (by kernel_rfl) (by simp) ?_
  refine AllU.last rfl (fun K hK=>?_)
  rw[if_pos (by rfl)]
  refine wp_append_new (.tmp 10) (.tmp 17) 32 rfl base 80 i0 _ 4 80 Tryz.underlying32 hi hz0 hz1 hz2 rfl (by decide) (.slice sp n sc) n xs rfl HRz.out ⟨w2.heap.size,0,none⟩ 1 1 [.string ⟨#[]⟩,.slice none 0 0,.string ⟨#[]⟩,.slice none 0 0] rfl rfl HNz.out zero_one (by unfold maxLen;omega) (by omega) HSz.out (by decide) ?_
  intro v' w5 hown5 hgr5 hfr5
  obtain⟨g,c,rfl,hgB,hBg,⟨q0,q1,q2,q3⟩,⟨r0,r1,r2,r3⟩,d9,f9,hfa,hfb⟩:=cput_facts HBz.out HRz.out hown5 hgr5 hfr5 HDS.out.2 (.string ⟨#[]⟩) (.slice none 0 0) (.string ⟨t.toArray⟩) (.slice none 0 0)
  have HFA:=hide (HFIN.out wz _ _ HSTz.out HBLz.out hfa)
  have HFB:=hide (HFIN.out wz _ _ HSTz.out HBLz.out hfb)
  clear hown5 hgr5 hfr5 hfa hfb
  refine hK.out _ _ ?_
  clear hK K hHeld HBz HRz HNz HSz HSTz HBLz HFIN
  refine wpTo 12 (.pointer (some ⟨g,n*4,none⟩)) rfl ?_
  refine wpTo 14 (.pointer (some ⟨B,0,none⟩)) rfl ?_
  refine wpTo 15 (.pointer (some ⟨B,9,none⟩)) rfl ?_
  refine wpAny_ready (rs:=[13,16]) (by kernel_rfl) (by simp) ?_
  refine AllReady.cons rfl (fun K hK=>?_) (AllReady.cons rfl (fun K hK=>?_) AllReady.nil)
  ·go_simp
   go_wp2_with fail
   refine wpAny_ready (rs:=[16]) (by kernel_rfl) (by simp) ?_
   refine AllReady.cons rfl (fun K hK=>?_) AllReady.nil
   go_simp
   go_wp2_with fail
   refine wpAny_done (by kernel_rfl) ?_ _
   go_wp2_with fail
   refine HFA.out.mono ?_
   rintro e w' ⟨rfl,h⟩
   go_wp2_with fail
   go_end0
   exact⟨rfl,h⟩
  ·go_simp
   go_wp2_with fail
   refine wpAny_ready (rs:=[13]) (by kernel_rfl) (by simp) ?_
   refine AllReady.cons rfl (fun K hK=>?_) AllReady.nil
   go_simp
   go_wp2_with fail
   refine wpAny_done (by kernel_rfl) ?_ _
   go_wp2_with fail
   refine HFB.out.mono ?_
   rintro e w' ⟨rfl,h⟩
   go_wp2_with fail
   go_end0
   exact⟨rfl,h⟩
 ·obtain⟨w2,hw2⟩:∃ w2,w2=wd.alloc (.cells #[.string ⟨#[]⟩,.slice none 0 0,.string ⟨#[]⟩,.slice none 0 0] 80):=⟨_,rfl⟩
  have hb2:Below wd.heap.size wd w2:=by rw[hw2];exact (Below.refl _ _).alloc (Nat.le_refl _) _
  have hB2:CB w2 B a (.slice sp n sc) pa (.slice bp bm bc):=(hb2.block _ HDS.out.1).trans HB.out
  have hW2:CWait w2 base B pa (.slice bp bm bc) t:=⟨HW.out.1,own_below HW.out.2 hb2⟩
  have HR2:=hide (own_below HR.out hb2)
  have hn2:=four_new wd (.string ⟨#[]⟩) (.slice none 0 0) (.string ⟨#[]⟩) (.slice none 0 0) 80
  rw[<-hw2] at hn2
  have hz2b:w2.heap[wd.heap.size]?=some (.cells #[.string ⟨#[]⟩,.slice none 0 0,.string ⟨#[]⟩,.slice none 0 0] 80 (0,0)):=by rw[hw2];exact new_block _ _ _
  have HN2:=hide hn2
  have HB2:=hide hB2
  have HW2:=hide hW2
  have HBL2:=hide hb2
  have HZ2:=hide hz2b
  have hz9:=tag_cell hB2 9 _ rfl
  have HWZ:=hide hw2
  clear hw2 hb2 hB2 hW2 hn2 hz2b
  go_simp
  go_wp2_with fail
  rw[<-HWZ.out]
  clear HWZ
  refine hK.out _ _ hz9 (fun hHeld2=>?_)
  clear hK K hHeld
  have hHeld:=hHeld2
  clear hHeld2
  clear hz9
  refine wpU_ready (rs:=[7]) (by kernel_rfl) (by simp) ?_
  refine AllU.cons (by decide) rfl (fun K hK=>?_) AllU.nil
  have CS:=hide (cstring_any w2 B base a _ _ _ t HB2.out HW2.out HT.out)
  go_simp
  go_wp2_with fail
  refine CS.out.mono ?_
  rintro e wz ⟨rfl,hbwz,hswz,hwwz⟩
  clear CS
  try go_wp2_with fail
  have HBz:=hide hbwz
  have hbbv:wd.heap.size ∉ blk (.slice bp bm bc):=fun h=>by
   have:=(own_lt HW.out.2 _ h).2
   omega
  have HNz:Hid (∀ (j:Nat) (u:Value),[Value.string ⟨#[]⟩,.slice none 0 0,.string ⟨#[]⟩,.slice none 0 0][j]?=some u->wz.cell? ((⟨wd.heap.size,0,none⟩:Addr).add j)=some u):=hide (fun j u h=>by
   have hzz:=(hswz.block wd.heap.size (lt_of_block HZ2.out) hbbv).trans HZ2.out
   rw[add_plain,Nat.zero_add]
   exact tag_cell hzz j u (by simpa using h))
  have HRz:Hid (wz.ownsRow base 80 4 (.slice sp n sc) n xs):=hide (own_stays HR2.out hswz.block (fun k hk h=>by unfold blk at h;exact HSB.out k (by simpa using h) hk))
  have HSTz:Hid (Stays wd wz (blk (.slice bp bm bc))):=hide ⟨Nat.le_trans HBL2.out.size hswz.size,fun k hk h=>(hswz.block k (Nat.lt_of_lt_of_le hk HBL2.out.size) h).trans (HBL2.out.block k hk),fun k hk cs fz e=>hswz.attr k hk cs fz (by rw[HBL2.out.block k (Array.getElem?_eq_some_iff.1 e).1];exact e)⟩
  have HBLz:Hid (Below base wd wz):=hide ((HBL2.out.mono (by have:=HDS.out;omega)).trans hwwz)
  have HSz:Hid (base<=wz.heap.size):=hide (by have:=hswz.size;have:=HBL2.out.size;have:=HDS.out;omega)
  refine hK.out _ _ (tag_cell hbwz 9 _ rfl) (fun hHeld2=>?_)
  clear hK K hHeld
  have hHeld:=hHeld2
  clear hHeld2
  clear hbwz hswz hwwz hbbv HN2 HB2 HW2 HBL2 HZ2 HR2
  refine wpU_p 8 rfl ?_
  refine wpU_ready (rs:=[11]) (by kernel_rfl) (by simp) ?_
  refine AllU.last rfl (fun K hK=>?_)
  rw[if_pos (by rfl)]
  refine wp_append_new (.tmp 10) (.tmp 17) 32 rfl base 80 i0 _ 4 80 Tryz.underlying32 hi hz0 hz1 hz2 rfl (by decide) (.slice sp n sc) n xs rfl HRz.out ⟨wd.heap.size,0,none⟩ 1 1 [.string ⟨#[]⟩,.slice none 0 0,.string ⟨#[]⟩,.slice none 0 0] rfl rfl HNz.out zero_one (by unfold maxLen;omega) (by omega) HSz.out (by decide) ?_
  intro v' w5 hown5 hgr5 hfr5
  obtain⟨g,c,rfl,hgB,hBg,⟨q0,q1,q2,q3⟩,⟨r0,r1,r2,r3⟩,d9,f9,hfa,hfb⟩:=cput_facts HBz.out HRz.out hown5 hgr5 hfr5 HDS.out.2 (.string ⟨#[]⟩) (.slice none 0 0) (.string ⟨t.toArray⟩) (.slice none 0 0)
  have HFA:=hide (HFIN.out wz _ _ HSTz.out HBLz.out hfa)
  have HFB:=hide (HFIN.out wz _ _ HSTz.out HBLz.out hfb)
  clear hown5 hgr5 hfr5 hfa hfb
  refine hK.out _ _ ?_
  clear hK K hHeld HBz HRz HNz HSz HSTz HBLz HFIN
  refine wpTo 12 (.pointer (some ⟨g,n*4,none⟩)) rfl ?_
  refine wpTo 14 (.pointer (some ⟨B,0,none⟩)) rfl ?_
  refine wpTo 15 (.pointer (some ⟨B,9,none⟩)) rfl ?_
  refine wpAny_ready (rs:=[13,16]) (by kernel_rfl) (by simp) ?_
  refine AllReady.cons rfl (fun K hK=>?_) (AllReady.cons rfl (fun K hK=>?_) AllReady.nil)
  ·go_simp
   go_wp2_with fail
   refine wpAny_ready (rs:=[16]) (by kernel_rfl) (by simp) ?_
   refine AllReady.cons rfl (fun K hK=>?_) AllReady.nil
   go_simp
   go_wp2_with fail
   refine wpAny_done (by kernel_rfl) ?_ _
   go_wp2_with fail
   refine HFA.out.mono ?_
   rintro e w' ⟨rfl,h⟩
   go_wp2_with fail
   go_end0
   exact⟨rfl,h⟩
  ·go_simp
   go_wp2_with fail
   refine wpAny_ready (rs:=[13]) (by kernel_rfl) (by simp) ?_
   refine AllReady.cons rfl (fun K hK=>?_) AllReady.nil
   go_simp
   go_wp2_with fail
   refine wpAny_done (by kernel_rfl) ?_ _
   go_wp2_with fail
   refine HFB.out.mono ?_
   rintro e w' ⟨rfl,h⟩
   go_wp2_with fail
   go_end0
   exact⟨rfl,h⟩
end Go.Proofs.YtkiofbikkhhdfabGreatDoor.Dm
