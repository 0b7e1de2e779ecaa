import Derived.Test.YtkiofbikkhhdfabGreatDoorK19
set_option maxRecDepth 100000
set_option maxHeartbeats 4000000
namespace Go.Proofs.YtkiofbikkhhdfabGreatDoor.To
open Go.RowKit
open Utf1
theorem infoAttr:(Tryz.prog.info? 108).map (fun i=>(i.zero,i.size,i.bytes))=some (some (.agg #[.string ⟨#[]⟩,.string ⟨#[]⟩]),2,32):=by kernel_rfl
theorem two_new (w:World) (x y:Value) (t:TypeId):∀ (j:Nat) (u:Value),[x,y][j]?=some u->(w.alloc (.cells #[x,y] t)).cell? ((⟨w.heap.size,0,none⟩:Addr).add j)=some u:=by
 intro j u hj
 match j,hj with
 | 0,hj =>
  simp at hj
  subst hj
  simp[Addr.add]
 | 1,hj =>
  simp at hj
  subst hj
  simp[Addr.add]
 | _+2,hj=>simp at hj
theorem two_one (a b:ByteArray):∀ u∈[Value.string a,.string b],u.oneCell'=true:=by
 intro u hu
 simp at hu
 rcases hu with rfl | rfl <;> rfl
theorem Glob.drew {w:World}(h:Glob w):Glob w.drew:=h
theorem tag_keep (w0:World) (start:Bool) (nm:ByteArray) (tg:Option (Tk × List UInt8)) (N n:Nat) (a:Act) (wr:World)(hN:N<=4294967280)(hg:Glob w0)(hJ:JKeep w0 start nm tg N n a wr) :
  ∃ rest,findLabel tagCode 3=some (.seq .skip rest)/\rest.wp Tryz.prog (jumps (fun l' a' w'=>∃ n',n' < n/\tagJ w0 start nm tg N n' l' a' w') (bodyPost Tryz.prog Tryz.f50 (TagPost tg w0))) a wr:=by
 unfold JKeep at hJ
 obtain⟨s,hJ⟩:=hJ;obtain⟨name,hJ⟩:=hJ;obtain⟨value,hJ⟩:=hJ;obtain⟨acc,hJ⟩:=hJ;obtain⟨k,hJ⟩:=hJ;obtain⟨av,hJ⟩:=hJ;obtain⟨u1,hJ⟩:=hJ;obtain⟨u5,hJ⟩:=hJ;obtain⟨u8,hJ⟩:=hJ;obtain⟨u11,hJ⟩:=hJ;obtain⟨u12,hJ⟩:=hJ;obtain⟨u13,hJ⟩:=hJ;obtain⟨u14,hJ⟩:=hJ;obtain⟨u15,hJ⟩:=hJ;obtain⟨u16,hJ⟩:=hJ;obtain⟨u17,hJ⟩:=hJ;obtain⟨u18,hJ⟩:=hJ;obtain⟨u19,hJ⟩:=hJ;obtain⟨u20,hJ⟩:=hJ;obtain⟨u21,hJ⟩:=hJ;obtain⟨u22,hJ⟩:=hJ;obtain⟨u23,hJ⟩:=hJ;obtain⟨u24,hJ⟩:=hJ;obtain⟨u25,hJ⟩:=hJ;obtain⟨u26,hJ⟩:=hJ;obtain⟨u27,hJ⟩:=hJ;obtain⟨u28,hJ⟩:=hJ;obtain⟨u29,hJ⟩:=hJ;obtain⟨u30,hJ⟩:=hJ;obtain⟨u31,hJ⟩:=hJ;obtain⟨u32,hJ⟩:=hJ;obtain⟨u33,hJ⟩:=hJ;obtain⟨u34,hJ⟩:=hJ;obtain⟨u35,hJ⟩:=hJ;obtain⟨u36,hJ⟩:=hJ;obtain⟨u37,hJ⟩:=hJ;obtain⟨u38,hJ⟩:=hJ;obtain⟨u39,hJ⟩:=hJ;obtain⟨u40,hJ⟩:=hJ;obtain⟨u41,hJ⟩:=hJ;obtain⟨u42,hJ⟩:=hJ;obtain⟨u43,hJ⟩:=hJ;obtain⟨u44,hJ⟩:=hJ;obtain⟨u45,hJ⟩:=hJ;obtain⟨u46,hJ⟩:=hJ;obtain⟨u47,hJ⟩:=hJ;obtain⟨u48,hJ⟩:=hJ;obtain⟨u49,hJ⟩:=hJ;obtain⟨u50,hJ⟩:=hJ;obtain⟨u51,hJ⟩:=hJ;obtain⟨u52,hJ⟩:=hJ;obtain⟨u53,hJ⟩:=hJ;obtain⟨u54,hJ⟩:=hJ;obtain⟨u55,hJ⟩:=hJ;obtain⟨u56,hJ⟩:=hJ;obtain⟨u57,hJ⟩:=hJ;obtain⟨u58,hJ⟩:=hJ;obtain⟨u59,hJ⟩:=hJ;obtain⟨u60,hJ⟩:=hJ;obtain⟨u61,hJ⟩:=hJ;obtain⟨u62,hJ⟩:=hJ;obtain⟨u63,hJ⟩:=hJ;obtain⟨u64,hJ⟩:=hJ;obtain⟨u65,hJ⟩:=hJ;obtain⟨u66,hJ⟩:=hJ;obtain⟨u67,hJ⟩:=hJ;obtain⟨u68,hJ⟩:=hJ;obtain⟨u69,hJ⟩:=hJ;obtain⟨u70,hJ⟩:=hJ;obtain⟨u71,hJ⟩:=hJ;obtain⟨u72,hJ⟩:=hJ;obtain⟨u73,hJ⟩:=hJ;obtain⟨u74,hJ⟩:=hJ;obtain⟨u75,hJ⟩:=hJ;obtain⟨u76,hJ⟩:=hJ;obtain⟨u77,hJ⟩:=hJ;obtain⟨u78,hJ⟩:=hJ;obtain⟨u79,hJ⟩:=hJ;obtain⟨u80,hJ⟩:=hJ;obtain⟨u81,hJ⟩:=hJ;obtain⟨u82,hJ⟩:=hJ;obtain⟨u83,hJ⟩:=hJ;obtain⟨u84,hJ⟩:=hJ;obtain⟨u85,hJ⟩:=hJ;obtain⟨u86,hJ⟩:=hJ;obtain⟨u87,hJ⟩:=hJ;obtain⟨u88,hJ⟩:=hJ;obtain⟨u89,hJ⟩:=hJ;obtain⟨u90,hJ⟩:=hJ;obtain⟨u91,hJ⟩:=hJ;obtain⟨u92,hJ⟩:=hJ;obtain⟨u93,hJ⟩:=hJ;obtain⟨u94,hJ⟩:=hJ;obtain⟨u95,hJ⟩:=hJ;obtain⟨u96,hJ⟩:=hJ;obtain⟨u97,hJ⟩:=hJ;obtain⟨u98,hJ⟩:=hJ;obtain⟨u99,hJ⟩:=hJ;obtain⟨u100,hJ⟩:=hJ;obtain⟨u101,hJ⟩:=hJ;obtain⟨u102,hJ⟩:=hJ;obtain⟨u103,hJ⟩:=hJ;obtain⟨u104,hJ⟩:=hJ;obtain⟨u105,hJ⟩:=hJ;obtain⟨u106,hJ⟩:=hJ;obtain⟨u107,hJ⟩:=hJ;obtain⟨u108,hJ⟩:=hJ;obtain⟨u109,hJ⟩:=hJ;obtain⟨u110,hJ⟩:=hJ;obtain⟨u111,hJ⟩:=hJ;obtain⟨u112,hJ⟩:=hJ;obtain⟨u113,hJ⟩:=hJ;obtain⟨u114,hJ⟩:=hJ;obtain⟨u115,hJ⟩:=hJ;obtain⟨u116,hJ⟩:=hJ;obtain⟨u117,hJ⟩:=hJ;obtain⟨u118,hJ⟩:=hJ;obtain⟨u119,hJ⟩:=hJ;obtain⟨u120,hJ⟩:=hJ;obtain⟨u121,hJ⟩:=hJ;obtain⟨u122,hJ⟩:=hJ;obtain⟨u123,hJ⟩:=hJ;obtain⟨u124,hJ⟩:=hJ;obtain⟨u125,hJ⟩:=hJ;obtain⟨hrel,ha⟩:=hJ;subst ha
 obtain⟨hn,hsk,hname,hval,hst,HT⟩:=hrel
 have hlo:=fun w=>lower_any name w
 have hLs:(⟨(lower (bl name)).toArray⟩:ByteArray).size=name.size:=by
  rw[size_mk]
  unfold lower
  rw[List.length_map,bl_len]
 have hLb:bl ⟨(lower (bl name)).toArray⟩=lower (bl name):=rfl
 generalize (⟨(lower (bl name)).toArray⟩:ByteArray)=L at hlo hLs hLb
 rw[<-hLb] at HT
 clear hLb
 have HST:=hide hst
 clear hst
 refine⟨_,rfl,?_⟩
 go_wp2_with fail
 refine (hlo _).mono ?_
 rintro e w1 ⟨rfl,hb1⟩
 obtain⟨c,w2,hc0,hc1,hcz,hlk,hup,hlk2,hmid⟩:=keep_map (HST.out.below hb1) L (by omega) (by omega)
 have HM:=hide hmid
 clear hmid hlo HST hb1
 by_cases hin:start=false\/bl L∈acc.map Prod.fst
 ·have HS:Hid (∀ v,TagSt w0 w2 start nm (addAt acc (bl L) v) (k+1) av):=hide fun v=>(HM.out v).same hin
  have hT:=(HM.out []).2.1
  cases start
  ·have t0:w2.cell? ⟨w0.heap.size+1,0,none⟩=some (.int .i64 3):=tag_cell hT 0 _ rfl
   clear hT hin hcz HM
   go_wp2_with fail
   go_step3
   refine (⟨4*s.size+3,by omega,?_⟩:∃ n',n' < n/\tagJ w0 _ nm tg N n' 0 _ _)
   show JBet _ _ _ _ _ _ _ _
   unfold JBet
   (repeat apply Exists.intro)
   refine⟨⟨rfl,?_,HS.out (res (bl value)),HT⟩,rfl⟩
   omega
  ·have t0:w2.cell? ⟨w0.heap.size+1,0,none⟩=some (.int .i64 2):=tag_cell hT 0 _ rfl
   have hc2:(c+1==1)=false:=beq_eq_false_iff_ne.2 (by
    have:c≠0:=fun h=>(hcz.1 h) (by simpa using hin)
    omega)
   clear hT hin hcz HM
   go_wp2_with fail
   go_step3
   refine (⟨4*s.size+3,by omega,?_⟩:∃ n',n' < n/\tagJ w0 _ nm tg N n' 0 _ _)
   show JBet _ _ _ _ _ _ _ _
   unfold JBet
   (repeat apply Exists.intro)
   refine⟨⟨rfl,?_,HS.out (res (bl value)),HT⟩,rfl⟩
   omega
 ·have hs:start=true:=by
   cases start
   ·exact absurd (Or.inl rfl) hin
   ·rfl
  subst hs
  have hni:bl L ∉ acc.map Prod.fst:=fun h=>hin (Or.inr h)
  have hcz0:c=0:=hcz.2 hni
  have hc2:(c+1==1)=true:=by
   rw[hcz0]
   rfl
  clear hcz0
  obtain⟨hR,hT,hown,-,hacc,hbw⟩:=HM.out []
  obtain⟨ap,am,ac,rfl⟩:=own_slice hown
  have t0:w2.cell? ⟨w0.heap.size+1,0,none⟩=some (.int .i64 2):=tag_cell hT 0 _ rfl
  have t2:w2.cell? ⟨w0.heap.size+1,2,none⟩=some (.slice ap am ac):=tag_cell hT 2 _ rfl
  have HG:=hide (hg.below hbw)
  have hrv:=fun w hg=>resolve_any value (by omega) w hg
  have hRb:bl ⟨(res (bl value)).toArray⟩=res (bl value):=rfl
  generalize (⟨(res (bl value)).toArray⟩:ByteArray)=RV at hrv hRb
  rw[<-hRb] at HT
  have HO:=hide (And.intro hR (And.intro hT hown))
  have HB:=hide (And.intro hacc hbw)
  clear hR hT hown hacc hbw hRb hin hcz
  go_wp2_with fail
  refine wp_region_any (by kernel_rfl) ?_
  try (change wpAny _ _ _ _ _ _ _ (World.drew _))
  refine wpT 0 (.pointer (some ⟨w0.heap.size+1,2,none⟩)) rfl ?_
  refine wpT 2 (.string L) rfl ?_
  refine wpT 3 (.string value) rfl ?_
  obtain⟨i0,hi,hz0,hz1,hz2⟩:=info_parts infoAttr
  refine wpAny_ready (rs:=[1,4]) (by kernel_rfl) (by simp) ?_
  refine AllReady.cons rfl (fun K hK=>?_) (AllReady.cons rfl (fun K hK=>?_) AllReady.nil)
  ·go_simp
   go_wp2_with fail
   refine wpAny_ready (rs:=[4]) (by kernel_rfl) (by simp) ?_
   refine AllReady.cons rfl (fun K hK=>?_) AllReady.nil
   go_simp
   go_wp2_with fail
   refine (hrv _ HG.out.drew).mono ?_
   rintro e w3 ⟨rfl,hb3⟩
   go_wp2_with fail
   have MID:=hide ((HM.out (bl RV)).below (bel_drew hb3))
   have hsz3:w0.heap.size<=w3.heap.size:=MID.out.2.2.2.2.2.size
   have hak:acc.length<=k:=MID.out.2.2.2.2.1
   refine wpT 5 (.agg #[.string L,.string RV]) rfl ?_
   refine wpAny_ready (rs:=[6]) (by kernel_rfl) (by simp) ?_
   refine AllReady.cons rfl (fun K hK=>?_) AllReady.nil
   go_simp
   go_wp2_with fail
   refine wpAny_ready (rs:=[7]) (by kernel_rfl) (by simp) ?_
   refine AllReady.cons rfl (fun K hK=>?_) AllReady.nil
   rw[if_pos (by rfl)]
   refine wp_append_own _ (.tmp 106) (.tmp 111) 43 rfl w0.heap.size 108 i0 _ 2 32 Tryz.underlying43 hi hz0 hz1 hz2 rfl (by decide) (.slice ap am ac) acc.length (attrCells acc) rfl (MID.out.2.2.1.alloc _) ⟨w3.heap.size,0,none⟩ 1 1 [.string L,.string RV] rfl rfl (two_new _ _ _ _) (two_one _ _) (by unfold maxLen;omega) (by omega) (by simp;omega) ?_
   intro v' w5 hown5 hgr5 _
   obtain⟨bp,bm,bc,rfl⟩:=own_slice hown5
   obtain⟨d1,d2,hst5⟩:=keep_append MID.out hni hown5 hgr5
   have HS5:=hide hst5
   clear hst5 hown5 hgr5
   refine hK _ _ ?_
   clear hK K
   refine wpT 8 (.pointer (some ⟨w0.heap.size+1,2,none⟩)) rfl ?_
   refine wpAny_ready (rs:=[9]) (by kernel_rfl) (by simp) ?_
   refine AllReady.cons rfl (fun K hK=>?_) AllReady.nil
   go_simp
   go_wp2_with fail
   refine wpAny_done (by kernel_rfl) ?_ _
   go_wp2_with fail
   go_step3
   refine (⟨4*s.size+3,by omega,?_⟩:∃ n',n' < n/\tagJ w0 _ nm tg N n' 0 _ _)
   show JBet _ _ _ _ _ _ _ _
   unfold JBet
   (repeat apply Exists.intro)
   refine⟨⟨rfl,?_,HS5.out,HT⟩,rfl⟩
   omega
  ·go_simp
   go_wp2_with fail
   refine (hrv _ HG.out.drew).mono ?_
   rintro e w3 ⟨rfl,hb3⟩
   have t3:w3.cell? ⟨w0.heap.size+1,2,none⟩=some (.slice ap am ac):=tag_cell ((HM.out (bl RV)).below (bel_drew hb3)).2.1 2 _ rfl
   go_wp2_with fail
   refine wpT 5 (.agg #[.string L,.string RV]) rfl ?_
   have t4:(w3.alloc (.cells #[.string L,.string RV] 108)).cell? ⟨w0.heap.size+1,2,none⟩=some (.slice ap am ac):=(World.cell?_of_block (Below.heap_alloc _ _ _ (cell_lt t3))).trans t3
   have MID:=hide ((HM.out (bl RV)).below (bel_drew hb3))
   have hsz3:w0.heap.size<=w3.heap.size:=MID.out.2.2.2.2.2.size
   have hak:acc.length<=k:=MID.out.2.2.2.2.1
   refine wpAny_ready (rs:=[1,6]) (by kernel_rfl) (by simp) ?_
   refine AllReady.cons rfl (fun K hK=>?_) (AllReady.cons rfl (fun K hK=>?_) AllReady.nil)
   ·go_simp
    go_wp2_with fail
    refine wpAny_ready (rs:=[6]) (by kernel_rfl) (by simp) ?_
    refine AllReady.cons rfl (fun K hK=>?_) AllReady.nil
    go_simp
    go_wp2_with fail
    refine wpAny_ready (rs:=[7]) (by kernel_rfl) (by simp) ?_
    refine AllReady.cons rfl (fun K hK=>?_) AllReady.nil
    rw[if_pos (by rfl)]
    refine wp_append_own _ (.tmp 106) (.tmp 111) 43 rfl w0.heap.size 108 i0 _ 2 32 Tryz.underlying43 hi hz0 hz1 hz2 rfl (by decide) (.slice ap am ac) acc.length (attrCells acc) rfl (MID.out.2.2.1.alloc _) ⟨w3.heap.size,0,none⟩ 1 1 [.string L,.string RV] rfl rfl (two_new _ _ _ _) (two_one _ _) (by unfold maxLen;omega) (by omega) (by simp;omega) ?_
    intro v' w5 hown5 hgr5 _
    obtain⟨bp,bm,bc,rfl⟩:=own_slice hown5
    obtain⟨d1,d2,hst5⟩:=keep_append MID.out hni hown5 hgr5
    have HS5:=hide hst5
    clear hst5 hown5 hgr5
    refine hK _ _ ?_
    clear hK K
    refine wpT 8 (.pointer (some ⟨w0.heap.size+1,2,none⟩)) rfl ?_
    refine wpAny_ready (rs:=[9]) (by kernel_rfl) (by simp) ?_
    refine AllReady.cons rfl (fun K hK=>?_) AllReady.nil
    go_simp
    go_wp2_with fail
    refine wpAny_done (by kernel_rfl) ?_ _
    go_wp2_with fail
    go_step3
    refine (⟨4*s.size+3,by omega,?_⟩:∃ n',n' < n/\tagJ w0 _ nm tg N n' 0 _ _)
    show JBet _ _ _ _ _ _ _ _
    unfold JBet
    (repeat apply Exists.intro)
    refine⟨⟨rfl,?_,HS5.out,HT⟩,rfl⟩
    omega
   ·go_simp
    go_wp2_with fail
    refine wpAny_ready (rs:=[1]) (by kernel_rfl) (by simp) ?_
    refine AllReady.cons rfl (fun K hK=>?_) AllReady.nil
    go_simp
    go_wp2_with fail
    refine wpAny_ready (rs:=[7]) (by kernel_rfl) (by simp) ?_
    refine AllReady.cons rfl (fun K hK=>?_) AllReady.nil
    rw[if_pos (by rfl)]
    refine wp_append_own _ (.tmp 106) (.tmp 111) 43 rfl w0.heap.size 108 i0 _ 2 32 Tryz.underlying43 hi hz0 hz1 hz2 rfl (by decide) (.slice ap am ac) acc.length (attrCells acc) rfl (MID.out.2.2.1.alloc _) ⟨w3.heap.size,0,none⟩ 1 1 [.string L,.string RV] rfl rfl (two_new _ _ _ _) (two_one _ _) (by unfold maxLen;omega) (by omega) (by simp;omega) ?_
    intro v' w5 hown5 hgr5 _
    obtain⟨bp,bm,bc,rfl⟩:=own_slice hown5
    obtain⟨d1,d2,hst5⟩:=keep_append MID.out hni hown5 hgr5
    have HS5:=hide hst5
    clear hst5 hown5 hgr5
    refine hK _ _ ?_
    clear hK K
    refine wpT 8 (.pointer (some ⟨w0.heap.size+1,2,none⟩)) rfl ?_
    refine wpAny_ready (rs:=[9]) (by kernel_rfl) (by simp) ?_
    refine AllReady.cons rfl (fun K hK=>?_) AllReady.nil
    go_simp
    go_wp2_with fail
    refine wpAny_done (by kernel_rfl) ?_ _
    go_wp2_with fail
    go_step3
    refine (⟨4*s.size+3,by omega,?_⟩:∃ n',n' < n/\tagJ w0 _ nm tg N n' 0 _ _)
    show JBet _ _ _ _ _ _ _ _
    unfold JBet
    (repeat apply Exists.intro)
    refine⟨⟨rfl,?_,HS5.out,HT⟩,rfl⟩
    omega
end Go.Proofs.YtkiofbikkhhdfabGreatDoor.To
