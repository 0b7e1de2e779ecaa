import Derived.Test.YtkiofbikkhhdfabGreatDoorK15
import Derived.Test.YtkiofbikkhhdfabGreatDoorK10
import Derived.Test.YtkiofbikkhhdfabGreatDoorU6
import Derived.Test.YtkiofbikkhhdfabGreatDoorK17
import Derived.Test.YtkiofbikkhhdfabGreatDoorRaw
namespace Go.Proofs.YtkiofbikkhhdfabGreatDoor.To
open Go.RowKit
open Utf1
theorem infoAttr:(Tryz.prog.info? 108).map (fun i=>(i.zero,i.size,i.bytes))=some (some (.agg #[.string ⟨#[]⟩,.string ⟨#[]⟩]),2,32):=by kernel_rfl
theorem two_new (w:World) (x y:Value) (t:TypeId):∀ (j:Nat) (u:Value),[x,y][j]?=some u->(w.alloc (.cells #[x,y] t)).cell? ((⟨w.heap.size,0,none⟩:Addr).add j)=some u:=by
 intro j u hj
 match j,hj with
 | 0,hj =>
  simp at hj
  subst hj
  simp[Addr.add]
 | 1,hj =>
  simp at hj
  subst hj
  simp[Addr.add]
 | _+2,hj=>simp at hj
theorem two_one (a b:ByteArray):∀ u∈[Value.string a,.string b],u.oneCell'=true:=by
 intro u hu
 simp at hu
 rcases hu with rfl | rfl <;> rfl
theorem Glob.drew {w:World}(h:Glob w):Glob w.drew:=h
set_option maxRecDepth 100000 in
set_option maxHeartbeats 4000000 in
theorem tag_keep (w0:World) (start:Bool) (nm:ByteArray) (tg:Option (Tk × List UInt8)) (N n:Nat) (a:Act) (wr:World)(hN:N<=4294967280)(hg:Glob w0)(hJ:JKeep w0 start nm tg N n a wr) :
  ∃ rest,findLabel tagCode 3=some (.seq .skip rest)/\rest.wp Tryz.prog (jumps (fun l' a' w'=>∃ n',n' < n/\tagJ w0 start nm tg N n' l' a' w') (bodyPost Tryz.prog Tryz.f50 (TagPost tg w0))) a wr:=by
 unfold JKeep at hJ
 obtain⟨s,hJ⟩:=hJ;obtain⟨name,hJ⟩:=hJ;obtain⟨value,hJ⟩:=hJ;obtain⟨acc,hJ⟩:=hJ;obtain⟨k,hJ⟩:=hJ;obtain⟨av,hJ⟩:=hJ;obtain⟨u1,hJ⟩:=hJ;obtain⟨u5,hJ⟩:=hJ;obtain⟨u8,hJ⟩:=hJ;obtain⟨u11,hJ⟩:=hJ;obtain⟨u12,hJ⟩:=hJ;obtain⟨u13,hJ⟩:=hJ;obtain⟨u14,hJ⟩:=hJ;obtain⟨u15,hJ⟩:=hJ;obtain⟨u16,hJ⟩:=hJ;obtain⟨u17,hJ⟩:=hJ;obtain⟨u18,hJ⟩:=hJ;obtain⟨u19,hJ⟩:=hJ;obtain⟨u20,hJ⟩:=hJ;obtain⟨u21,hJ⟩:=hJ;obtain⟨u22,hJ⟩:=hJ;obtain⟨u23,hJ⟩:=hJ;obtain⟨u24,hJ⟩:=hJ;obtain⟨u25,hJ⟩:=hJ;obtain⟨u26,hJ⟩:=hJ;obtain⟨u27,hJ⟩:=hJ;obtain⟨u28,hJ⟩:=hJ;obtain⟨u29,hJ⟩:=hJ;obtain⟨u30,hJ⟩:=hJ;obtain⟨u31,hJ⟩:=hJ;obtain⟨u32,hJ⟩:=hJ;obtain⟨u33,hJ⟩:=hJ;obtain⟨u34,hJ⟩:=hJ;obtain⟨u35,hJ⟩:=hJ;obtain⟨u36,hJ⟩:=hJ;obtain⟨u37,hJ⟩:=hJ;obtain⟨u38,hJ⟩:=hJ;obtain⟨u39,hJ⟩:=hJ;obtain⟨u40,hJ⟩:=hJ;obtain⟨u41,hJ⟩:=hJ;obtain⟨u42,hJ⟩:=hJ;obtain⟨u43,hJ⟩:=hJ;obtain⟨u44,hJ⟩:=hJ;obtain⟨u45,hJ⟩:=hJ;obtain⟨u46,hJ⟩:=hJ;obtain⟨u47,hJ⟩:=hJ;obtain⟨u48,hJ⟩:=hJ;obtain⟨u49,hJ⟩:=hJ;obtain⟨u50,hJ⟩:=hJ;obtain⟨u51,hJ⟩:=hJ;obtain⟨u52,hJ⟩:=hJ;obtain⟨u53,hJ⟩:=hJ;obtain⟨u54,hJ⟩:=hJ;obtain⟨u55,hJ⟩:=hJ;obtain⟨u56,hJ⟩:=hJ;obtain⟨u57,hJ⟩:=hJ;obtain⟨u58,hJ⟩:=hJ;obtain⟨u59,hJ⟩:=hJ;obtain⟨u60,hJ⟩:=hJ;obtain⟨u61,hJ⟩:=hJ;obtain⟨u62,hJ⟩:=hJ;obtain⟨u63,hJ⟩:=hJ;obtain⟨u64,hJ⟩:=hJ;obtain⟨u65,hJ⟩:=hJ;obtain⟨u66,hJ⟩:=hJ;obtain⟨u67,hJ⟩:=hJ;obtain⟨u68,hJ⟩:=hJ;obtain⟨u69,hJ⟩:=hJ;obtain⟨u70,hJ⟩:=hJ;obtain⟨u71,hJ⟩:=hJ;obtain⟨u72,hJ⟩:=hJ;obtain⟨u73,hJ⟩:=hJ;obtain⟨u74,hJ⟩:=hJ;obtain⟨u75,hJ⟩:=hJ;obtain⟨u76,hJ⟩:=hJ;obtain⟨u77,hJ⟩:=hJ;obtain⟨u78,hJ⟩:=hJ;obtain⟨u79,hJ⟩:=hJ;obtain⟨u80,hJ⟩:=hJ;obtain⟨u81,hJ⟩:=hJ;obtain⟨u82,hJ⟩:=hJ;obtain⟨u83,hJ⟩:=hJ;obtain⟨u84,hJ⟩:=hJ;obtain⟨u85,hJ⟩:=hJ;obtain⟨u86,hJ⟩:=hJ;obtain⟨u87,hJ⟩:=hJ;obtain⟨u88,hJ⟩:=hJ;obtain⟨u89,hJ⟩:=hJ;obtain⟨u90,hJ⟩:=hJ;obtain⟨u91,hJ⟩:=hJ;obtain⟨u92,hJ⟩:=hJ;obtain⟨u93,hJ⟩:=hJ;obtain⟨u94,hJ⟩:=hJ;obtain⟨u95,hJ⟩:=hJ;obtain⟨u96,hJ⟩:=hJ;obtain⟨u97,hJ⟩:=hJ;obtain⟨u98,hJ⟩:=hJ;obtain⟨u99,hJ⟩:=hJ;obtain⟨u100,hJ⟩:=hJ;obtain⟨u101,hJ⟩:=hJ;obtain⟨u102,hJ⟩:=hJ;obtain⟨u103,hJ⟩:=hJ;obtain⟨u104,hJ⟩:=hJ;obtain⟨u105,hJ⟩:=hJ;obtain⟨u106,hJ⟩:=hJ;obtain⟨u107,hJ⟩:=hJ;obtain⟨u108,hJ⟩:=hJ;obtain⟨u109,hJ⟩:=hJ;obtain⟨u110,hJ⟩:=hJ;obtain⟨u111,hJ⟩:=hJ;obtain⟨u112,hJ⟩:=hJ;obtain⟨u113,hJ⟩:=hJ;obtain⟨u114,hJ⟩:=hJ;obtain⟨u115,hJ⟩:=hJ;obtain⟨u116,hJ⟩:=hJ;obtain⟨u117,hJ⟩:=hJ;obtain⟨u118,hJ⟩:=hJ;obtain⟨u119,hJ⟩:=hJ;obtain⟨u120,hJ⟩:=hJ;obtain⟨u121,hJ⟩:=hJ;obtain⟨u122,hJ⟩:=hJ;obtain⟨u123,hJ⟩:=hJ;obtain⟨u124,hJ⟩:=hJ;obtain⟨u125,hJ⟩:=hJ;obtain⟨hrel,ha⟩:=hJ;subst ha
 obtain⟨hn,hsk,hname,hval,hst,HT⟩:=hrel
 have hlo:=fun w=>lower_any name w
 have hLs:(⟨(lower (bl name)).toArray⟩:ByteArray).size=name.size:=by
  rw[size_mk]
  unfold lower
  rw[List.length_map,bl_len]
 have hLb:bl ⟨(lower (bl name)).toArray⟩=lower (bl name):=rfl
 generalize (⟨(lower (bl name)).toArray⟩:ByteArray)=L at hlo hLs hLb
 rw[<-hLb] at HT
 clear hLb
 have HST:=hide hst
 clear hst
 refine⟨_,rfl,?_⟩
 go_wp2_with fail
 refine (hlo _).mono ?_
 rintro e w1 ⟨rfl,hb1⟩
 obtain⟨c,w2,hc0,hc1,hcz,hlk,hup,hlk2,hmid⟩:=keep_map (HST.out.below hb1) L (by omega) (by omega)
 have HM:=hide hmid
 clear hmid hlo HST hb1
 by_cases hin:start=false\/bl L∈acc.map Prod.fst
 ·have HS:Hid (∀ v,TagSt w0 w2 start nm (addAt acc (bl L) v) (k+1) av):=hide fun v=>(HM.out v).same hin
  have hT:=(HM.out []).2.1
  cases start
  ·have t0:w2.cell? ⟨w0.heap.size+1,0,none⟩=some (.int .i64 3):=tag_cell hT 0 _ rfl
   clear hT hin hcz HM
   go_wp2_with fail
   go_step3
   refine (⟨4*s.size+3,by omega,?_⟩:∃ n',n' < n/\tagJ w0 _ nm tg N n' 0 _ _)
   show JBet _ _ _ _ _ _ _ _
   unfold JBet
   (repeat apply Exists.intro)
   refine⟨⟨rfl,?_,HS.out (res (bl value)),HT⟩,rfl⟩
   omega
  ·have t0:w2.cell? ⟨w0.heap.size+1,0,none⟩=some (.int .i64 2):=tag_cell hT 0 _ rfl
   have hc2:(c+1==1)=false:=beq_eq_false_iff_ne.2 (by
    have:c≠0:=fun h=>(hcz.1 h) (by simpa using hin)
    omega)
   clear hT hin hcz HM
   go_wp2_with fail
   go_step3
   refine (⟨4*s.size+3,by omega,?_⟩:∃ n',n' < n/\tagJ w0 _ nm tg N n' 0 _ _)
   show JBet _ _ _ _ _ _ _ _
   unfold JBet
   (repeat apply Exists.intro)
   refine⟨⟨rfl,?_,HS.out (res (bl value)),HT⟩,rfl⟩
   omega
 ·have hs:start=true:=by
   cases start
   ·exact absurd (Or.inl rfl) hin
   ·rfl
  subst hs
  have hni:bl L ∉ acc.map Prod.fst:=fun h=>hin (Or.inr h)
  have hcz0:c=0:=hcz.2 hni
  have hc2:(c+1==1)=true:=by
   rw[hcz0]
   rfl
  clear hcz0
  obtain⟨hR,hT,hown,-,hacc,hbw⟩:=HM.out []
  obtain⟨ap,am,ac,rfl⟩:=own_slice hown
  have t0:w2.cell? ⟨w0.heap.size+1,0,none⟩=some (.int .i64 2):=tag_cell hT 0 _ rfl
  have t2:w2.cell? ⟨w0.heap.size+1,2,none⟩=some (.slice ap am ac):=tag_cell hT 2 _ rfl
  have HG:=hide (hg.below hbw)
  have hrv:=fun w hg=>resolve_any value (by omega) w hg
  have hRb:bl ⟨(res (bl value)).toArray⟩=res (bl value):=rfl
  generalize (⟨(res (bl value)).toArray⟩:ByteArray)=RV at hrv hRb
  rw[<-hRb] at HT
  have HO:=hide (And.intro hR (And.intro hT hown))
  have HB:=hide (And.intro hacc hbw)
  clear hR hT hown hacc hbw hRb hin hcz
  go_wp2_with fail
  refine wp_region_any (by kernel_rfl) ?_
  try (change wpAny _ _ _ _ _ _ _ (World.drew _))
  refine wpAny_to (i:=0) (v:=.pointer (some ⟨w0.heap.size+1,2,none⟩)) (a':=?ax0) rfl (by kernel_rfl) (by kernel_rfl) (by kernel_rfl) (fun _ _ _ h=>h) (Or.inl ⟨by rfl,?yi⟩) ?ha ?_
  case yi=>intro w;go_simp
  case ha=>go_simp;exact rfl
  refine wpAny_to (i:=2) (v:=.string L) (a':=?ax2) rfl (by kernel_rfl) (by kernel_rfl) (by kernel_rfl) (fun _ _ _ h=>h) (Or.inl ⟨by rfl,?yi⟩) ?ha ?_
  case yi=>intro w;go_simp
  case ha=>go_simp;exact rfl
  refine wpAny_to (i:=3) (v:=.string value) (a':=?ax3) rfl (by kernel_rfl) (by kernel_rfl) (by kernel_rfl) (fun _ _ _ h=>h) (Or.inl ⟨by rfl,?yi⟩) ?ha ?_
  case yi=>intro w;go_simp
  case ha=>go_simp;exact rfl
  obtain⟨i0,hi,hz0,hz1,hz2⟩:=info_parts infoAttr
  refine wpAny_ready (rs:=[1,4]) (by kernel_rfl) (by simp) ?_
  refine AllReady.cons rfl (fun K hK=>?_) (AllReady.cons rfl (fun K hK=>?_) AllReady.nil)
  ·go_simp
   go_wp2_with fail
   refine wpAny_ready (rs:=[4]) (by kernel_rfl) (by simp) ?_
   refine AllReady.cons rfl (fun K hK=>?_) AllReady.nil
   go_simp
   go_wp2_with fail
   refine (hrv _ HG.out.drew).mono ?_
   rintro e w3 ⟨rfl,hb3⟩
   go_wp2_with fail
   have MID:=hide ((HM.out (bl RV)).below (bel_drew hb3))
   have hsz3:w0.heap.size<=w3.heap.size:=MID.out.2.2.2.2.2.size
   have hak:acc.length<=k:=MID.out.2.2.2.2.1
   refine wpAny_to (i:=5) (v:=.agg #[.string L,.string RV]) (a':=?ay5a) rfl (by kernel_rfl) (by kernel_rfl) (by kernel_rfl) (fun _ _ _ h=>h) (Or.inl ⟨by rfl,?yi⟩) ?ha ?_
   case yi=>intro w;go_simp
   case ha=>go_simp;exact rfl
   refine wpAny_ready (rs:=[6]) (by kernel_rfl) (by simp) ?_
   refine AllReady.cons rfl (fun K hK=>?_) AllReady.nil
   go_simp
   go_wp2_with fail
   refine wpAny_ready (rs:=[7]) (by kernel_rfl) (by simp) ?_
   refine AllReady.cons rfl (fun K hK=>?_) AllReady.nil
   rw[if_pos (by rfl)]
   refine wp_append_own _ (.tmp 106) (.tmp 111) 43 rfl w0.heap.size 108 i0 _ 2 32 Tryz.underlying43 hi hz0 hz1 hz2 rfl (by decide) (.slice ap am ac) acc.length (attrCells acc) rfl (MID.out.2.2.1.alloc _) ⟨w3.heap.size,0,none⟩ 1 1 [.string L,.string RV] rfl rfl (two_new _ _ _ _) (two_one _ _) (by unfold maxLen;omega) (by omega) (by simp;omega) ?_
   intro v' w5 hown5 hgr5 _
   obtain⟨bp,bm,bc,rfl⟩:=own_slice hown5
   obtain⟨d1,d2,hst5⟩:=keep_append MID.out hni hown5 hgr5
   have HS5:=hide hst5
   clear hst5 hown5 hgr5
   refine hK _ _ ?_
   clear hK K
   refine wpAny_to (i:=8) (v:=.pointer (some ⟨w0.heap.size+1,2,none⟩)) (a':=?ay8a) rfl (by kernel_rfl) (by kernel_rfl) (by kernel_rfl) (fun _ _ _ h=>h) (Or.inl ⟨by rfl,?yi⟩) ?ha ?_
   case yi=>intro w;go_simp
   case ha=>go_simp;exact rfl
   refine wpAny_ready (rs:=[9]) (by kernel_rfl) (by simp) ?_
   refine AllReady.cons rfl (fun K hK=>?_) AllReady.nil
   go_simp
   go_wp2_with fail
   refine wpAny_done (by kernel_rfl) ?_ _
   go_wp2_with fail
   go_step3
   refine (⟨4*s.size+3,by omega,?_⟩:∃ n',n' < n/\tagJ w0 _ nm tg N n' 0 _ _)
   show JBet _ _ _ _ _ _ _ _
   unfold JBet
   (repeat apply Exists.intro)
   refine⟨⟨rfl,?_,HS5.out,HT⟩,rfl⟩
   omega
  ·go_simp
   go_wp2_with fail
   refine (hrv _ HG.out.drew).mono ?_
   rintro e w3 ⟨rfl,hb3⟩
   have t3:w3.cell? ⟨w0.heap.size+1,2,none⟩=some (.slice ap am ac):=tag_cell ((HM.out (bl RV)).below (bel_drew hb3)).2.1 2 _ rfl
   go_wp2_with fail
   refine wpAny_to (i:=5) (v:=.agg #[.string L,.string RV]) (a':=?ay5q) rfl (by kernel_rfl) (by kernel_rfl) (by kernel_rfl) (fun _ _ _ h=>h) (Or.inl ⟨by rfl,?yi⟩) ?ha ?_
   case yi=>intro w;go_simp
   case ha=>go_simp;exact rfl
   have t4:(w3.alloc (.cells #[.string L,.string RV] 108)).cell? ⟨w0.heap.size+1,2,none⟩=some (.slice ap am ac):=(World.cell?_of_block (Below.heap_alloc _ _ _ (cell_lt t3))).trans t3
   have MID:=hide ((HM.out (bl RV)).below (bel_drew hb3))
   have hsz3:w0.heap.size<=w3.heap.size:=MID.out.2.2.2.2.2.size
   have hak:acc.length<=k:=MID.out.2.2.2.2.1
   refine wpAny_ready (rs:=[1,6]) (by kernel_rfl) (by simp) ?_
   refine AllReady.cons rfl (fun K hK=>?_) (AllReady.cons rfl (fun K hK=>?_) AllReady.nil)
   ·go_simp
    go_wp2_with fail
    refine wpAny_ready (rs:=[6]) (by kernel_rfl) (by simp) ?_
    refine AllReady.cons rfl (fun K hK=>?_) AllReady.nil
    go_simp
    go_wp2_with fail
    refine wpAny_ready (rs:=[7]) (by kernel_rfl) (by simp) ?_
    refine AllReady.cons rfl (fun K hK=>?_) AllReady.nil
    rw[if_pos (by rfl)]
    refine wp_append_own _ (.tmp 106) (.tmp 111) 43 rfl w0.heap.size 108 i0 _ 2 32 Tryz.underlying43 hi hz0 hz1 hz2 rfl (by decide) (.slice ap am ac) acc.length (attrCells acc) rfl (MID.out.2.2.1.alloc _) ⟨w3.heap.size,0,none⟩ 1 1 [.string L,.string RV] rfl rfl (two_new _ _ _ _) (two_one _ _) (by unfold maxLen;omega) (by omega) (by simp;omega) ?_
    intro v' w5 hown5 hgr5 _
    obtain⟨bp,bm,bc,rfl⟩:=own_slice hown5
    obtain⟨d1,d2,hst5⟩:=keep_append MID.out hni hown5 hgr5
    have HS5:=hide hst5
    clear hst5 hown5 hgr5
    refine hK _ _ ?_
    clear hK K
    refine wpAny_to (i:=8) (v:=.pointer (some ⟨w0.heap.size+1,2,none⟩)) (a':=?ay8b) rfl (by kernel_rfl) (by kernel_rfl) (by kernel_rfl) (fun _ _ _ h=>h) (Or.inl ⟨by rfl,?yi⟩) ?ha ?_
    case yi=>intro w;go_simp
    case ha=>go_simp;exact rfl
    refine wpAny_ready (rs:=[9]) (by kernel_rfl) (by simp) ?_
    refine AllReady.cons rfl (fun K hK=>?_) AllReady.nil
    go_simp
    go_wp2_with fail
    refine wpAny_done (by kernel_rfl) ?_ _
    go_wp2_with fail
    go_step3
    refine (⟨4*s.size+3,by omega,?_⟩:∃ n',n' < n/\tagJ w0 _ nm tg N n' 0 _ _)
    show JBet _ _ _ _ _ _ _ _
    unfold JBet
    (repeat apply Exists.intro)
    refine⟨⟨rfl,?_,HS5.out,HT⟩,rfl⟩
    omega
   ·go_simp
    go_wp2_with fail
    refine wpAny_ready (rs:=[1]) (by kernel_rfl) (by simp) ?_
    refine AllReady.cons rfl (fun K hK=>?_) AllReady.nil
    go_simp
    go_wp2_with fail
    refine wpAny_ready (rs:=[7]) (by kernel_rfl) (by simp) ?_
    refine AllReady.cons rfl (fun K hK=>?_) AllReady.nil
    rw[if_pos (by rfl)]
    refine wp_append_own _ (.tmp 106) (.tmp 111) 43 rfl w0.heap.size 108 i0 _ 2 32 Tryz.underlying43 hi hz0 hz1 hz2 rfl (by decide) (.slice ap am ac) acc.length (attrCells acc) rfl (MID.out.2.2.1.alloc _) ⟨w3.heap.size,0,none⟩ 1 1 [.string L,.string RV] rfl rfl (two_new _ _ _ _) (two_one _ _) (by unfold maxLen;omega) (by omega) (by simp;omega) ?_
    intro v' w5 hown5 hgr5 _
    obtain⟨bp,bm,bc,rfl⟩:=own_slice hown5
    obtain⟨d1,d2,hst5⟩:=keep_append MID.out hni hown5 hgr5
    have HS5:=hide hst5
    clear hst5 hown5 hgr5
    refine hK _ _ ?_
    clear hK K
    refine wpAny_to (i:=8) (v:=.pointer (some ⟨w0.heap.size+1,2,none⟩)) (a':=?ay8c) rfl (by kernel_rfl) (by kernel_rfl) (by kernel_rfl) (fun _ _ _ h=>h) (Or.inl ⟨by rfl,?yi⟩) ?ha ?_
    case yi=>intro w;go_simp
    case ha=>go_simp;exact rfl
    refine wpAny_ready (rs:=[9]) (by kernel_rfl) (by simp) ?_
    refine AllReady.cons rfl (fun K hK=>?_) AllReady.nil
    go_simp
    go_wp2_with fail
    refine wpAny_done (by kernel_rfl) ?_ _
    go_wp2_with fail
    go_step3
    refine (⟨4*s.size+3,by omega,?_⟩:∃ n',n' < n/\tagJ w0 _ nm tg N n' 0 _ _)
    show JBet _ _ _ _ _ _ _ _
    unfold JBet
    (repeat apply Exists.intro)
    refine⟨⟨rfl,?_,HS5.out,HT⟩,rfl⟩
    omega
end Go.Proofs.YtkiofbikkhhdfabGreatDoor.To
namespace Go.Proofs.YtkiofbikkhhdfabGreatDoor.To
open Go.RowKit
open Utf1
theorem beg3 {l:List UInt8}(h:beg l=3):∃ d r,l=60 :: d :: r:=by
 cases l with
 | nil=>cases h
 | cons c t =>
  by_cases hc:c=60
  ·subst hc
   rw[beg_lt] at h
   cases t with
   | nil=>cases h
   | cons d r=>exact⟨d,r,rfl⟩
  ·rw[beg_ne t hc] at h
   cases h
theorem tag_pass (w0:World) (start:Bool) (nm:ByteArray) (tg:Option (Tk × List UInt8)) (N:Nat)(hN:N<=4294967280)(hg:Glob w0) (n l:Nat) (a:Act) (w:World)(hJ:tagJ w0 start nm tg N n l a w) :
  ∃ rest,findLabel tagCode l=some rest/\rest.wp Tryz.prog (jumps (fun l' a' w'=>∃ n',n' < n/\tagJ w0 start nm tg N n' l' a' w') (bodyPost Tryz.prog Tryz.f50 (TagPost tg w0))) a w :=
 match l,hJ with
 | 0,hJ=>of_label (tag_between w0 start nm tg N n a w hN hJ)
 | 1,hJ=>tag_none w0 start nm tg N n a w hJ
 | 2,hJ=>tag_end w0 start nm tg N n a w hN hJ
 | 3,hJ=>of_label (tag_keep w0 start nm tg N n a w hN hg hJ)
 | 4,hJ=>tag_quoted w0 start nm tg N n a w hN hJ (fun n a w h=>tag_keep w0 start nm tg N n a w hN hg h)
 | _+5,hJ=>hJ.elim
theorem to_between {w0:World}{start:Bool}{nm:ByteArray}{tg:Option (Tk × List UInt8)}{N:Nat}{c:Code}{a:Act}{w:World}(hN:N<=4294967280)(hf:findLabel tagCode 0=some (.seq .skip c)) (n:Nat)(hJ:JBet w0 start nm tg N n a w) :
  c.wp Tryz.prog (jumps (fun l' a' w'=>∃ n',tagJ w0 start nm tg N n' l' a' w') (bodyPost Tryz.prog Tryz.f50 (TagPost tg w0))) a w:=by
 obtain⟨rest,h1,h2⟩:=tag_between w0 start nm tg N n a w hN hJ
 rw[hf] at h1
 cases h1
 exact Code.wp_mono (jumps_mono (fun l a w ⟨n',_,h2⟩=>⟨n',h2⟩)) h2
theorem three_a (w:World) (a b c:Obj):(((w.alloc a).alloc b).alloc c).heap[w.heap.size]?=some a:=by
 show (((w.heap.push a).push b).push c)[w.heap.size]?=_
 rw[Array.getElem?_push,if_neg (by simp;omega),Array.getElem?_push,if_neg (by simp),Array.getElem?_push,if_pos rfl]
theorem three_b (w:World) (a b c:Obj):(((w.alloc a).alloc b).alloc c).heap[w.heap.size+1]?=some b:=by
 show (((w.heap.push a).push b).push c)[w.heap.size+1]?=_
 rw[Array.getElem?_push,if_neg (by simp),Array.getElem?_push,if_pos (by simp)]
theorem three_c (w:World) (a b c:Obj):(((w.alloc a).alloc b).alloc c).heap[w.heap.size+2]?=some c:=by
 show (((w.heap.push a).push b).push c)[w.heap.size+2]?=_
 rw[Array.getElem?_push,if_pos (by simp)]
theorem three_w (w:World) (a b c:Obj):Below w.heap.size w (((w.alloc a).alloc b).alloc c):=(((Below.refl _ _).alloc (Nat.le_refl _) _).alloc (by simp) _).alloc (by simp;omega) _
theorem tag_math {l b:List UInt8}{NA S3 L:ByteArray}(start:Bool)(hs:(l.getD 1 0=47) ↔ start=false)(hb:tagBody l=b) (HNA:bl NA=b.takeWhile (fun x=>!isNm x)) (H3:bl S3=b.dropWhile (fun x=>!isNm x))(hL:bl L=lower (bl NA)):tagOf l=(attrsOf [] (bl S3)).map (mkTk start L):=by
 unfold tagOf
 rw[hb,<-H3,<-HNA,<-hL]
 cases attrsOf [] (bl S3) with
 | none=>rfl
 | some p =>
  obtain⟨a,cl,r⟩:=p
  simp only
  cases start
  ·rw[if_pos (hs.2 rfl)]
   rfl
  ·rw[if_neg (by intro h;cases hs.1 h)]
   rfl
theorem calls_world {P:Program}{f:FuncId}{args:Array Value}{w:World}{R:Ending->World->Prop}(h:∀ wA,wA=w->Calls P f args wA R):Calls P f args w R:=h w rfl
theorem tag_start {w0 wA w3:World}{kd:Bool}(hR:wA.heap[w0.heap.size]?=some (.cells #[.int .i64 0,.string ⟨#[]⟩,.slice none 0 0,.bool false,.string ⟨#[]⟩] 45 (0,0)))
  (hT:wA.heap[w0.heap.size+1]?=some (.cells #[.int .i64 (if kd then 2 else 3),.string ⟨#[]⟩,.slice none 0 0,.bool false,.string ⟨#[]⟩] 45 (0,0)))(hM:wA.heap[w0.heap.size+2]?=some (.map #[] 0))(hb0:Below w0.heap.size w0 wA)(hb:Below wA.heap.size wA w3) (nm:ByteArray) :
  w3.cell? ⟨w0.heap.size+1,1,none⟩=some (.string ⟨#[]⟩)/\w3.frozen? ⟨w0.heap.size+1,1,none⟩=false/\TagSt w0 (w3.setCell ⟨w0.heap.size+1,1,none⟩ (.string nm)) kd nm [] 0 (.slice none 0 0):=by
 have a1:=(hb.block _ (lt_of_block hR)).trans hR
 have a2:=(hb.block _ (lt_of_block hT)).trans hT
 have a3:=(hb.block _ (lt_of_block hM)).trans hM
 have ha:atts kd []=[]:=by cases kd <;> rfl
 refine⟨tag_cell a2 1 _ rfl,tag_free a2 1,?_,?_,?_,⟨.map [],?_,⟨[],rfl⟩,?_⟩,Nat.le_refl _,?_⟩
 ·exact (Below.heap_setCell _ _ _ _ (by simp)).trans a1
 ·exact tok_set a2 1 _
 ·rw[ha]
  exact World.ownsRow_nil _ _ _ _
 ·exact⟨#[],0,(Below.heap_setCell _ _ _ _ (by simp)).trans a3,⟨by simp,MapKept.stamped_empty 0,by simp⟩,by simp,rfl⟩
 ·intro n
  exact⟨0,rfl,by omega,by omega,by simp⟩
 ·exact (hb0.trans (hb.mono hb0.size)).setCell (p:=⟨w0.heap.size+1,1,none⟩) (Nat.le_succ _) _
set_option maxRecDepth 100000 in
set_option maxHeartbeats 4000000 in
theorem readTag_any (s:ByteArray) (w:World)(hg:Glob w)(hs:s.size<=4294967280)(hb:beg (bl s)=3) :
  Calls Tryz.prog 50 #[.string s] w fun e w'=>TagPost (tagOf (bl s)) w e w':=by
 obtain⟨d,r,hl⟩:=beg3 hb
 have h1:=ext_one hl
 have hz:=size_ext_one s
 have hs1:2<=s.size:=by rw[<-bl_len,hl];simp
 have hmm:=@run_makeMap Tryz.prog
 have i00:=fun w=>idx0 h1 w
 by_cases hd:d=47
 ·have h2:bl ((s.extract 1 s.size).extract 1 (s.extract 1 s.size).size)=r:=ext_one h1
  have hz2:=size_ext_one (s.extract 1 s.size)
  have hs2:1<=(s.extract 1 s.size).size:=by omega
  rw[hz] at h2 hz2
  generalize hS2:(s.extract 1 s.size).extract 1 (s.size - 1)=S2 at h2 hz2
  obtain⟨NA,S3,HNA,H3,hz3,HP3⟩:=pass_noneE S2 ⟨#[9,10,12,13,32,47,62]⟩ (fun x=>!isNm x) set_nm (by omega)
  obtain⟨z,hzz⟩:∃ z:Int,z=(d.toNat:Int):=⟨_,rfl⟩
  have i0:∀ w,(Instr.index 9 (.string (s.extract 1 s.size)) (.int .i64 0)).run Tryz.prog w=.ok (.int .u8 z) w:=by
   rw[hzz]
   exact i00
  have hzb:(z==47)=true:=by
   rw[hzz,hd]
   rfl
  have hlo:=fun w=>lower_any NA w
  have hLb:bl ⟨(lower (bl NA)).toArray⟩=lower (bl NA):=rfl
  generalize (⟨(lower (bl NA)).toArray⟩:ByteArray)=L at hlo hLb
  have HT:Hid (tagOf (bl s)=(attrsOf [] (bl S3)).map (mkTk false L)):=hide (tag_math false (by rw[hl];simp[hd]) (b:=bl S2) (by rw[h2,hl,hd];rfl) HNA.out H3.out hLb)
  clear i00 hzz hl h1 h2 hb
  go_enter Tryz.func50,Tryz.ntmps50
  go_wp2
  refine wp_scope_all (tagJ w false L (tagOf (bl s)) s.size) (tag_pass w false L (tagOf (bl s)) s.size hs hg) ?_
  go_wp2_with fail
  refine calls_world ?_
  intro wA hwA
  have HW:=hide hwA
  clear hwA
  refine (noneOf_c _ _).mono ?_
  rintro e w1 ⟨rfl,hc1,-,hb1⟩
  go_wp2_with fail
  refine (HP3.out _ _ hc1).mono ?_
  rintro e w2 ⟨rfl,hb2⟩
  go_wp2_with fail
  refine (hlo _).mono ?_
  rintro e w3 ⟨rfl,hb3⟩
  have hbA:=bel2 hb1 (bel2 hb2 (hb3.mono (Nat.le_refl _)))
  obtain⟨d1,d2,hst⟩:=tag_start (w0:=w) (kd:=false) (by rw[HW.out];exact three_a _ _ _ _) (by rw[HW.out];exact three_b _ _ _ _) (by rw[HW.out];exact three_c _ _ _ _) (by rw[HW.out];exact three_w _ _ _ _) hbA L
  have HST:=hide hst
  clear hst hbA hb1 hb2 hb3 hc1
  go_wp2_with fail
  go_step3
  go_step
  go_step
  refine to_between hs rfl (4*S3.size+3) ?_
  unfold JBet
  (repeat apply Exists.intro)
  refine⟨⟨rfl,?_,HST.out,HT⟩,rfl⟩
  omega
 ·obtain⟨NA,S3,HNA,H3,hz3,HP3⟩:=pass_noneE (s.extract 1 s.size) ⟨#[9,10,12,13,32,47,62]⟩ (fun x=>!isNm x) set_nm (by omega)
  obtain⟨z,hzz⟩:∃ z:Int,z=(d.toNat:Int):=⟨_,rfl⟩
  have i0:∀ w,(Instr.index 9 (.string (s.extract 1 s.size)) (.int .i64 0)).run Tryz.prog w=.ok (.int .u8 z) w:=by
   rw[hzz]
   exact i00
  have hzb:(z==47)=false:=beq_eq_false_iff_ne.2 (by
   intro e
   apply hd
   have:d=UInt8.ofNat 47:=(u8_eq (by decide)).2 (by omega)
   exact this)
  have hlo:=fun w=>lower_any NA w
  have hLb:bl ⟨(lower (bl NA)).toArray⟩=lower (bl NA):=rfl
  generalize (⟨(lower (bl NA)).toArray⟩:ByteArray)=L at hlo hLb
  have HT:Hid (tagOf (bl s)=(attrsOf [] (bl S3)).map (mkTk true L)):=hide (tag_math true (by rw[hl];simp[hd]) (b:=bl (s.extract 1 s.size)) (by rw[h1,hl];unfold tagBody;rw[if_neg (by simpa using hd)];rfl) HNA.out H3.out hLb)
  clear i00 hzz hl h1 hb
  go_enter Tryz.func50,Tryz.ntmps50
  go_wp2
  refine wp_scope_all (tagJ w true L (tagOf (bl s)) s.size) (tag_pass w true L (tagOf (bl s)) s.size hs hg) ?_
  go_wp2_with fail
  refine calls_world ?_
  intro wA hwA
  have HW:=hide hwA
  clear hwA
  refine (noneOf_c _ _).mono ?_
  rintro e w1 ⟨rfl,hc1,-,hb1⟩
  go_wp2_with fail
  refine (HP3.out _ _ hc1).mono ?_
  rintro e w2 ⟨rfl,hb2⟩
  go_wp2_with fail
  refine (hlo _).mono ?_
  rintro e w3 ⟨rfl,hb3⟩
  have hbA:=bel2 hb1 (bel2 hb2 (hb3.mono (Nat.le_refl _)))
  obtain⟨d1,d2,hst⟩:=tag_start (w0:=w) (kd:=true) (by rw[HW.out];exact three_a _ _ _ _) (by rw[HW.out];exact three_b _ _ _ _) (by rw[HW.out];exact three_c _ _ _ _) (by rw[HW.out];exact three_w _ _ _ _) hbA L
  have HST:=hide hst
  clear hst hbA hb1 hb2 hb3 hc1
  go_wp2_with fail
  go_step3
  go_step
  go_step
  refine to_between hs rfl (4*S3.size+3) ?_
  unfold JBet
  (repeat apply Exists.intro)
  refine⟨⟨rfl,?_,HST.out,HT⟩,rfl⟩
  omega
end Go.Proofs.YtkiofbikkhhdfabGreatDoor.To
namespace Go.Proofs.YtkiofbikkhhdfabGreatDoor
open Go.RowKit
open Utf1 Pol8
set_option maxRecDepth 100000 in
set_option maxHeartbeats 8000000 in
theorem pdropped_any (n:ByteArray) (w:World) :
  Calls Tryz.prog 68 #[.string n] w fun e w'=>e=.returned (.bool (San.dropB (bl n)))/\w'=w:=by
 have C0:=hide (Dm.raw_any n)
 obtain⟨R,hR⟩:∃ R,R=San.dropB (bl n):=⟨_,rfl⟩
 rw[<-hR]
 unfold San.dropB at hR
 have g0:=eq_lit n [101,109,98,101,100]
 by_cases h0:bl n=[101,109,98,101,100]
 ·rw[decide_eq_true h0] at g0
  have HR:Hid (R=true):=hide (by rw[hR,decide_eq_true (show bl n∈San.dropL by rw[h0];decide),Bool.or_true])
  clear hR C0 h0
  go_enter Tryz.func68,Tryz.ntmps68
  go_wp2_with fail
  go_ret
  rw[HR.out]
  exact⟨rfl,rfl⟩
 rw[decide_eq_false h0] at g0
 have g1:=eq_lit n [102,111,114,109]
 by_cases h1:bl n=[102,111,114,109]
 ·rw[decide_eq_true h1] at g1
  have HR:Hid (R=true):=hide (by rw[hR,decide_eq_true (show bl n∈San.dropL by rw[h1];decide),Bool.or_true])
  clear hR C0 h0 h1
  go_enter Tryz.func68,Tryz.ntmps68
  go_wp2_with fail
  go_ret
  rw[HR.out]
  exact⟨rfl,rfl⟩
 rw[decide_eq_false h1] at g1
 have g2:=eq_lit n [109,97,116,104]
 by_cases h2:bl n=[109,97,116,104]
 ·rw[decide_eq_true h2] at g2
  have HR:Hid (R=true):=hide (by rw[hR,decide_eq_true (show bl n∈San.dropL by rw[h2];decide),Bool.or_true])
  clear hR C0 h0 h1 h2
  go_enter Tryz.func68,Tryz.ntmps68
  go_wp2_with fail
  go_ret
  rw[HR.out]
  exact⟨rfl,rfl⟩
 rw[decide_eq_false h2] at g2
 have g3:=eq_lit n [111,98,106,101,99,116]
 by_cases h3:bl n=[111,98,106,101,99,116]
 ·rw[decide_eq_true h3] at g3
  have HR:Hid (R=true):=hide (by rw[hR,decide_eq_true (show bl n∈San.dropL by rw[h3];decide),Bool.or_true])
  clear hR C0 h0 h1 h2 h3
  go_enter Tryz.func68,Tryz.ntmps68
  go_wp2_with fail
  go_ret
  rw[HR.out]
  exact⟨rfl,rfl⟩
 rw[decide_eq_false h3] at g3
 have g4:=eq_lit n [115,101,108,101,99,116]
 by_cases h4:bl n=[115,101,108,101,99,116]
 ·rw[decide_eq_true h4] at g4
  have HR:Hid (R=true):=hide (by rw[hR,decide_eq_true (show bl n∈San.dropL by rw[h4];decide),Bool.or_true])
  clear hR C0 h0 h1 h2 h3 h4
  go_enter Tryz.func68,Tryz.ntmps68
  go_wp2_with fail
  go_ret
  rw[HR.out]
  exact⟨rfl,rfl⟩
 rw[decide_eq_false h4] at g4
 have g5:=eq_lit n [115,118,103]
 by_cases h5:bl n=[115,118,103]
 ·rw[decide_eq_true h5] at g5
  have HR:Hid (R=true):=hide (by rw[hR,decide_eq_true (show bl n∈San.dropL by rw[h5];decide),Bool.or_true])
  clear hR C0 h0 h1 h2 h3 h4 h5
  go_enter Tryz.func68,Tryz.ntmps68
  go_wp2_with fail
  go_ret
  rw[HR.out]
  exact⟨rfl,rfl⟩
 rw[decide_eq_false h5] at g5
 have g6:=eq_lit n [116,101,109,112,108,97,116,101]
 by_cases h6:bl n=[116,101,109,112,108,97,116,101]
 ·rw[decide_eq_true h6] at g6
  have HR:Hid (R=true):=hide (by rw[hR,decide_eq_true (show bl n∈San.dropL by rw[h6];decide),Bool.or_true])
  clear hR C0 h0 h1 h2 h3 h4 h5 h6
  go_enter Tryz.func68,Tryz.ntmps68
  go_wp2_with fail
  go_ret
  rw[HR.out]
  exact⟨rfl,rfl⟩
 rw[decide_eq_false h6] at g6
 have g7:=eq_lit n [110,111,115,99,114,105,112,116]
 by_cases h7:bl n=[110,111,115,99,114,105,112,116]
 ·rw[decide_eq_true h7] at g7
  have HR:Hid (R=true):=hide (by rw[hR,decide_eq_true (show bl n∈San.dropL by rw[h7];decide),Bool.or_true])
  clear hR C0 h0 h1 h2 h3 h4 h5 h6 h7
  go_enter Tryz.func68,Tryz.ntmps68
  go_wp2_with fail
  go_ret
  rw[HR.out]
  exact⟨rfl,rfl⟩
 rw[decide_eq_false h7] at g7
 have g8:=eq_lit n [102,114,97,109,101,115,101,116]
 by_cases h8:bl n=[102,114,97,109,101,115,101,116]
 ·rw[decide_eq_true h8] at g8
  have HR:Hid (R=true):=hide (by rw[hR,decide_eq_true (show bl n∈San.dropL by rw[h8];decide),Bool.or_true])
  clear hR C0 h0 h1 h2 h3 h4 h5 h6 h7 h8
  go_enter Tryz.func68,Tryz.ntmps68
  go_wp2_with fail
  go_ret
  rw[HR.out]
  exact⟨rfl,rfl⟩
 rw[decide_eq_false h8] at g8
 have HR:Hid (R=(rawOf (bl n)).isSome):=hide (by
  rw[hR,decide_eq_false,Bool.or_false]
  simp only[San.dropL,List.mem_cons,List.not_mem_nil,or_false,not_or]
  exact⟨h0,h1,h2,h3,h4,h5,h6,h7,h8⟩)
 clear h0 h1 h2 h3 h4 h5 h6 h7 h8 hR
 generalize (rawOf (bl n)).getD false=g at C0
 generalize (rawOf (bl n)).isSome=r1 at C0 HR
 go_enter Tryz.func68,Tryz.ntmps68
 go_wp2_with fail
 refine (C0.out _).mono ?_
 rintro e w1 ⟨rfl,rfl⟩
 clear C0
 go_wp2_with fail
 go_ret
 rw[HR.out]
 exact⟨rfl,rfl⟩
end Go.Proofs.YtkiofbikkhhdfabGreatDoor
