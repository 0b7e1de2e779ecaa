import Derived.Test.YtkiofbikkhhdfabGreatDoorK11
import Derived.Test.YtkiofbikkhhdfabGreatDoorU4
set_option maxRecDepth 100000
set_option maxHeartbeats 16000000
namespace Go.Proofs.YtkiofbikkhhdfabGreatDoor.To
open Go.RowKit
open Utf1
theorem tag_quoted (w0:World) (start:Bool) (nm:ByteArray) (tg:Option (Tk × List UInt8)) (N n:Nat) (a:Act) (wr:World)(hN:N<=4294967280)(hJ:JQuo w0 start nm tg N n a wr)
  (hkeep:∀ n a w,JKeep w0 start nm tg N n a w->∃ rest,findLabel tagCode 3=some (.seq .skip rest)/\rest.wp Tryz.prog (jumps (fun l' a' w'=>∃ n',n' < n/\tagJ w0 start nm tg N n' l' a' w') (bodyPost Tryz.prog Tryz.f50 (TagPost tg w0))) a w) :
  ∃ rest,findLabel tagCode 4=some rest/\rest.wp Tryz.prog (jumps (fun l' a' w'=>∃ n',n' < n/\tagJ w0 start nm tg N n' l' a' w') (bodyPost Tryz.prog Tryz.f50 (TagPost tg w0))) a wr:=by
 unfold JQuo at hJ
 obtain⟨s,hJ⟩:=hJ;obtain⟨name,hJ⟩:=hJ;obtain⟨q,hJ⟩:=hJ;obtain⟨v,hJ⟩:=hJ;obtain⟨acc,hJ⟩:=hJ;obtain⟨k,hJ⟩:=hJ;obtain⟨av,hJ⟩:=hJ;obtain⟨u1,hJ⟩:=hJ;obtain⟨u5,hJ⟩:=hJ;obtain⟨u7,hJ⟩:=hJ;obtain⟨u8,hJ⟩:=hJ;obtain⟨u11,hJ⟩:=hJ;obtain⟨u12,hJ⟩:=hJ;obtain⟨u13,hJ⟩:=hJ;obtain⟨u14,hJ⟩:=hJ;obtain⟨u15,hJ⟩:=hJ;obtain⟨u16,hJ⟩:=hJ;obtain⟨u17,hJ⟩:=hJ;obtain⟨u18,hJ⟩:=hJ;obtain⟨u19,hJ⟩:=hJ;obtain⟨u20,hJ⟩:=hJ;obtain⟨u21,hJ⟩:=hJ;obtain⟨u22,hJ⟩:=hJ;obtain⟨u23,hJ⟩:=hJ;obtain⟨u24,hJ⟩:=hJ;obtain⟨u25,hJ⟩:=hJ;obtain⟨u26,hJ⟩:=hJ;obtain⟨u27,hJ⟩:=hJ;obtain⟨u28,hJ⟩:=hJ;obtain⟨u29,hJ⟩:=hJ;obtain⟨u30,hJ⟩:=hJ;obtain⟨u31,hJ⟩:=hJ;obtain⟨u32,hJ⟩:=hJ;obtain⟨u33,hJ⟩:=hJ;obtain⟨u34,hJ⟩:=hJ;obtain⟨u35,hJ⟩:=hJ;obtain⟨u36,hJ⟩:=hJ;obtain⟨u37,hJ⟩:=hJ;obtain⟨u38,hJ⟩:=hJ;obtain⟨u39,hJ⟩:=hJ;obtain⟨u40,hJ⟩:=hJ;obtain⟨u41,hJ⟩:=hJ;obtain⟨u42,hJ⟩:=hJ;obtain⟨u43,hJ⟩:=hJ;obtain⟨u44,hJ⟩:=hJ;obtain⟨u45,hJ⟩:=hJ;obtain⟨u46,hJ⟩:=hJ;obtain⟨u47,hJ⟩:=hJ;obtain⟨u48,hJ⟩:=hJ;obtain⟨u49,hJ⟩:=hJ;obtain⟨u50,hJ⟩:=hJ;obtain⟨u51,hJ⟩:=hJ;obtain⟨u52,hJ⟩:=hJ;obtain⟨u53,hJ⟩:=hJ;obtain⟨u54,hJ⟩:=hJ;obtain⟨u55,hJ⟩:=hJ;obtain⟨u56,hJ⟩:=hJ;obtain⟨u57,hJ⟩:=hJ;obtain⟨u58,hJ⟩:=hJ;obtain⟨u59,hJ⟩:=hJ;obtain⟨u60,hJ⟩:=hJ;obtain⟨u61,hJ⟩:=hJ;obtain⟨u62,hJ⟩:=hJ;obtain⟨u63,hJ⟩:=hJ;obtain⟨u64,hJ⟩:=hJ;obtain⟨u65,hJ⟩:=hJ;obtain⟨u66,hJ⟩:=hJ;obtain⟨u67,hJ⟩:=hJ;obtain⟨u68,hJ⟩:=hJ;obtain⟨u69,hJ⟩:=hJ;obtain⟨u70,hJ⟩:=hJ;obtain⟨u71,hJ⟩:=hJ;obtain⟨u72,hJ⟩:=hJ;obtain⟨u73,hJ⟩:=hJ;obtain⟨u74,hJ⟩:=hJ;obtain⟨u75,hJ⟩:=hJ;obtain⟨u76,hJ⟩:=hJ;obtain⟨u77,hJ⟩:=hJ;obtain⟨u78,hJ⟩:=hJ;obtain⟨u79,hJ⟩:=hJ;obtain⟨u80,hJ⟩:=hJ;obtain⟨u81,hJ⟩:=hJ;obtain⟨u82,hJ⟩:=hJ;obtain⟨u83,hJ⟩:=hJ;obtain⟨u84,hJ⟩:=hJ;obtain⟨u85,hJ⟩:=hJ;obtain⟨u86,hJ⟩:=hJ;obtain⟨u87,hJ⟩:=hJ;obtain⟨u88,hJ⟩:=hJ;obtain⟨u89,hJ⟩:=hJ;obtain⟨u90,hJ⟩:=hJ;obtain⟨u91,hJ⟩:=hJ;obtain⟨u92,hJ⟩:=hJ;obtain⟨u93,hJ⟩:=hJ;obtain⟨u94,hJ⟩:=hJ;obtain⟨u95,hJ⟩:=hJ;obtain⟨u96,hJ⟩:=hJ;obtain⟨u97,hJ⟩:=hJ;obtain⟨u98,hJ⟩:=hJ;obtain⟨u99,hJ⟩:=hJ;obtain⟨u100,hJ⟩:=hJ;obtain⟨u101,hJ⟩:=hJ;obtain⟨u102,hJ⟩:=hJ;obtain⟨u103,hJ⟩:=hJ;obtain⟨u104,hJ⟩:=hJ;obtain⟨u105,hJ⟩:=hJ;obtain⟨u106,hJ⟩:=hJ;obtain⟨u107,hJ⟩:=hJ;obtain⟨u108,hJ⟩:=hJ;obtain⟨u109,hJ⟩:=hJ;obtain⟨u110,hJ⟩:=hJ;obtain⟨u111,hJ⟩:=hJ;obtain⟨u112,hJ⟩:=hJ;obtain⟨u113,hJ⟩:=hJ;obtain⟨u114,hJ⟩:=hJ;obtain⟨u115,hJ⟩:=hJ;obtain⟨u116,hJ⟩:=hJ;obtain⟨u117,hJ⟩:=hJ;obtain⟨u118,hJ⟩:=hJ;obtain⟨u119,hJ⟩:=hJ;obtain⟨u120,hJ⟩:=hJ;obtain⟨u121,hJ⟩:=hJ;obtain⟨u122,hJ⟩:=hJ;obtain⟨u123,hJ⟩:=hJ;obtain⟨u124,hJ⟩:=hJ;obtain⟨u125,hJ⟩:=hJ;obtain⟨hrel,ha⟩:=hJ;subst ha
 obtain⟨hn,hsk,hname,hst,HS,HT⟩:=hrel
 have hs1:1<=s.size:=by
  rw[<-bl_len,HS.out]
  simp
 have hq:=ext_head HS.out
 have hr:=ext_one HS.out
 have hqs:(s.extract 0 1).size=1:=by rw[<-bl_len,hq];rfl
 have hrs:=size_ext_one s
 obtain⟨V,C,HV,HC,hVC,HP⟩:=pass_noneE (s.extract 1 s.size) (s.extract 0 1) (fun x=>x != q) (by intro x;rw[hq];simp only[List.contains_cons,List.contains_nil,Bool.or_false];rfl) (by omega)
 rw[hr] at HV HC
 have HST:=hide hst
 have HK:=hide hkeep
 clear hq hr hkeep hst
 refine⟨_,rfl,?_⟩
 go_wp2
 refine wp_region_any (by kernel_rfl) ?_
 try (change wpAny _ _ _ _ _ _ _ (World.drew _))
 refine wpT 0 (.string s) rfl ?_
 refine wpAny_to (i:=1) (v:=.string (s.extract 1 s.size)) (a':=?ax1) rfl (by kernel_rfl) (by kernel_rfl) (by kernel_rfl) (fun _ _ _ h=>h) (Or.inl ⟨by rfl,?yi⟩) ?ha ?_
 case yi=>intro w;go_simp;intro h;exfalso;omega
 case ha=>go_simp;exact rfl
 refine wpT 2 (.string (s.extract 0 1)) rfl ?_
 refine wpAny_ready (rs:=[3]) (by kernel_rfl) (by simp) ?_
 refine AllReady.cons rfl (fun K hK=>?_) AllReady.nil
 go_simp
 go_wp2_with fail
 refine (noneOf_c (s.extract 0 1) _).mono ?_
 rintro e w1 ⟨rfl,hc1,hz1,hb1⟩
 go_wp2_with fail
 refine wpAny_ready (rs:=[4]) (by kernel_rfl) (by simp) ?_
 refine AllReady.cons rfl (fun K hK=>?_) AllReady.nil
 go_simp
 go_wp2_with fail
 refine (HP.out _ _ hc1).mono ?_
 rintro e w2 ⟨rfl,hb2⟩
 go_wp2_with fail
 refine wpT 5 (.tuple #[.string V,.string C]) rfl ?_
 refine wpT 6 (.string V) rfl ?_
 refine wpT 7 (.string C) rfl ?_
 refine wpT 8 (.string V) rfl ?_
 refine wpT 9 (.string C) rfl ?_
 refine wpAny_done (by kernel_rfl) ?_ _
 have hst2:=hide (HST.out.below (w1:=w2) (bel2 (bel_drew hb1) hb2))
 clear hb1 hb2 hc1 hz1 HP
 have HD:=HC.out
 rcases hD:v.dropWhile (fun x=>x != q) with _ | ⟨z,r⟩
 ·rw[hD] at HD
  have hE:=empty_of HD
  have HT2:Hid (tg=none):=hide (by rw[HT.out,hD];rfl)
  clear hD HD HT HC HV HS HK
  obtain⟨hR,_,_,_,_,hb⟩:=hst2.out
  have HR:=hide (And.intro hR hb)
  clear hR hb hst2 HST
  go_wp2_with fail
  go_step3
  refine (⟨0,by omega,?_⟩:∃ n',n' < n/\tagJ w0 start nm tg N n' 1 _ _)
  show JNon _ _ _ _ _
  unfold JNon
  (repeat apply Exists.intro)
  refine⟨⟨rfl,HR.out.1,HR.out.2,HT2⟩,rfl⟩
 ·rw[hD] at HD
  have hE:=nonempty_of HD
  have hr:=ext_one HD
  have hC1:1<=C.size:=by rw[<-bl_len,HD];simp
  have hrs2:=size_ext_one C
  have HT2:Hid (tg=(attrsOf (addAt acc (lower (bl name)) (res (bl V))) (bl (C.extract 1 C.size))).map (mkTk start nm)):=hide (by rw[HT.out,hD,HV.out,hr])
  clear hD HD HT HC HV HS hr
  go_wp2_with fail
  go_step3
  go_step
  go_step
  refine to_label (n:=n) HK.out rfl (4*(C.extract 1 C.size).size+4) (by omega) ?_
  unfold JKeep
  (repeat apply Exists.intro)
  refine⟨⟨rfl,by omega,hname,by omega,hst2.out,HT2⟩,rfl⟩
end Go.Proofs.YtkiofbikkhhdfabGreatDoor.To
namespace Go.Proofs.YtkiofbikkhhdfabGreatDoor.To
open Go.RowKit
open Utf1
theorem pre_cons {p:UInt8}{l:List UInt8}(h:[p].isPrefixOf l=true):∃ u,l=p :: u:=by
 cases l with
 | nil=>simp at h
 | cons x u =>
  have:p=x:=by simpa using h
  exact⟨u,by rw[this]⟩
theorem tag_between (w0:World) (start:Bool) (nm:ByteArray) (tg:Option (Tk × List UInt8)) (N n:Nat) (a:Act) (wr:World)(hN:N<=4294967280)(hJ:JBet w0 start nm tg N n a wr) :
  ∃ rest,findLabel tagCode 0=some (.seq .skip rest)/\rest.wp Tryz.prog (jumps (fun l' a' w'=>∃ n',n' < n/\tagJ w0 start nm tg N n' l' a' w') (bodyPost Tryz.prog Tryz.f50 (TagPost tg w0))) a wr:=by
 unfold JBet at hJ
 obtain⟨s,hJ⟩:=hJ;obtain⟨acc,hJ⟩:=hJ;obtain⟨k,hJ⟩:=hJ;obtain⟨av,hJ⟩:=hJ;obtain⟨u1,hJ⟩:=hJ;obtain⟨u5,hJ⟩:=hJ;obtain⟨u6,hJ⟩:=hJ;obtain⟨u7,hJ⟩:=hJ;obtain⟨u8,hJ⟩:=hJ;obtain⟨u11,hJ⟩:=hJ;obtain⟨u12,hJ⟩:=hJ;obtain⟨u13,hJ⟩:=hJ;obtain⟨u14,hJ⟩:=hJ;obtain⟨u15,hJ⟩:=hJ;obtain⟨u16,hJ⟩:=hJ;obtain⟨u17,hJ⟩:=hJ;obtain⟨u18,hJ⟩:=hJ;obtain⟨u19,hJ⟩:=hJ;obtain⟨u20,hJ⟩:=hJ;obtain⟨u21,hJ⟩:=hJ;obtain⟨u22,hJ⟩:=hJ;obtain⟨u23,hJ⟩:=hJ;obtain⟨u24,hJ⟩:=hJ;obtain⟨u25,hJ⟩:=hJ;obtain⟨u26,hJ⟩:=hJ;obtain⟨u27,hJ⟩:=hJ;obtain⟨u28,hJ⟩:=hJ;obtain⟨u29,hJ⟩:=hJ;obtain⟨u30,hJ⟩:=hJ;obtain⟨u31,hJ⟩:=hJ;obtain⟨u32,hJ⟩:=hJ;obtain⟨u33,hJ⟩:=hJ;obtain⟨u34,hJ⟩:=hJ;obtain⟨u35,hJ⟩:=hJ;obtain⟨u36,hJ⟩:=hJ;obtain⟨u37,hJ⟩:=hJ;obtain⟨u38,hJ⟩:=hJ;obtain⟨u39,hJ⟩:=hJ;obtain⟨u40,hJ⟩:=hJ;obtain⟨u41,hJ⟩:=hJ;obtain⟨u42,hJ⟩:=hJ;obtain⟨u43,hJ⟩:=hJ;obtain⟨u44,hJ⟩:=hJ;obtain⟨u45,hJ⟩:=hJ;obtain⟨u46,hJ⟩:=hJ;obtain⟨u47,hJ⟩:=hJ;obtain⟨u48,hJ⟩:=hJ;obtain⟨u49,hJ⟩:=hJ;obtain⟨u50,hJ⟩:=hJ;obtain⟨u51,hJ⟩:=hJ;obtain⟨u52,hJ⟩:=hJ;obtain⟨u53,hJ⟩:=hJ;obtain⟨u54,hJ⟩:=hJ;obtain⟨u55,hJ⟩:=hJ;obtain⟨u56,hJ⟩:=hJ;obtain⟨u57,hJ⟩:=hJ;obtain⟨u58,hJ⟩:=hJ;obtain⟨u59,hJ⟩:=hJ;obtain⟨u60,hJ⟩:=hJ;obtain⟨u61,hJ⟩:=hJ;obtain⟨u62,hJ⟩:=hJ;obtain⟨u63,hJ⟩:=hJ;obtain⟨u64,hJ⟩:=hJ;obtain⟨u65,hJ⟩:=hJ;obtain⟨u66,hJ⟩:=hJ;obtain⟨u67,hJ⟩:=hJ;obtain⟨u68,hJ⟩:=hJ;obtain⟨u69,hJ⟩:=hJ;obtain⟨u70,hJ⟩:=hJ;obtain⟨u71,hJ⟩:=hJ;obtain⟨u72,hJ⟩:=hJ;obtain⟨u73,hJ⟩:=hJ;obtain⟨u74,hJ⟩:=hJ;obtain⟨u75,hJ⟩:=hJ;obtain⟨u76,hJ⟩:=hJ;obtain⟨u77,hJ⟩:=hJ;obtain⟨u78,hJ⟩:=hJ;obtain⟨u79,hJ⟩:=hJ;obtain⟨u80,hJ⟩:=hJ;obtain⟨u81,hJ⟩:=hJ;obtain⟨u82,hJ⟩:=hJ;obtain⟨u83,hJ⟩:=hJ;obtain⟨u84,hJ⟩:=hJ;obtain⟨u85,hJ⟩:=hJ;obtain⟨u86,hJ⟩:=hJ;obtain⟨u87,hJ⟩:=hJ;obtain⟨u88,hJ⟩:=hJ;obtain⟨u89,hJ⟩:=hJ;obtain⟨u90,hJ⟩:=hJ;obtain⟨u91,hJ⟩:=hJ;obtain⟨u92,hJ⟩:=hJ;obtain⟨u93,hJ⟩:=hJ;obtain⟨u94,hJ⟩:=hJ;obtain⟨u95,hJ⟩:=hJ;obtain⟨u96,hJ⟩:=hJ;obtain⟨u97,hJ⟩:=hJ;obtain⟨u98,hJ⟩:=hJ;obtain⟨u99,hJ⟩:=hJ;obtain⟨u100,hJ⟩:=hJ;obtain⟨u101,hJ⟩:=hJ;obtain⟨u102,hJ⟩:=hJ;obtain⟨u103,hJ⟩:=hJ;obtain⟨u104,hJ⟩:=hJ;obtain⟨u105,hJ⟩:=hJ;obtain⟨u106,hJ⟩:=hJ;obtain⟨u107,hJ⟩:=hJ;obtain⟨u108,hJ⟩:=hJ;obtain⟨u109,hJ⟩:=hJ;obtain⟨u110,hJ⟩:=hJ;obtain⟨u111,hJ⟩:=hJ;obtain⟨u112,hJ⟩:=hJ;obtain⟨u113,hJ⟩:=hJ;obtain⟨u114,hJ⟩:=hJ;obtain⟨u115,hJ⟩:=hJ;obtain⟨u116,hJ⟩:=hJ;obtain⟨u117,hJ⟩:=hJ;obtain⟨u118,hJ⟩:=hJ;obtain⟨u119,hJ⟩:=hJ;obtain⟨u120,hJ⟩:=hJ;obtain⟨u121,hJ⟩:=hJ;obtain⟨u122,hJ⟩:=hJ;obtain⟨u123,hJ⟩:=hJ;obtain⟨u124,hJ⟩:=hJ;obtain⟨u125,hJ⟩:=hJ;obtain⟨hrel,ha⟩:=hJ;subst ha
 obtain⟨hn,hsk,hst,HT⟩:=hrel
 obtain⟨G,S1,HG,H1,hz1,HP1⟩:=pass_oneE s ⟨#[9,10,12,13,32,47]⟩ isGap set_gap (by omega)
 have HST:=hide hst
 clear hst
 refine⟨_,rfl,?_⟩
 go_wp2_with fail
 refine (oneOf_c _ _).mono ?_
 rintro e w1 ⟨rfl,hc1,-,hb1⟩
 go_wp2_with fail
 refine (HP1.out _ _ hc1).mono ?_
 rintro e w2 ⟨rfl,hb2⟩
 have ST2:=hide (HST.out.below (bel2 hb1 hb2))
 clear HST hb1 hb2 hc1 HP1
 have HD:=H1.out
 rcases hD:(bl s).dropWhile isGap with _ | ⟨c,t⟩
 ·rw[hD] at HD
  have hE:=empty_of HD
  have HT2:Hid (tg=none):=hide (by rw[HT.out,attrsOf_nil _ _ hD];rfl)
  clear hD HD HT HG H1
  obtain⟨hR,_,_,_,_,hb⟩:=ST2.out
  have HR:=hide (And.intro hR hb)
  clear hR hb ST2
  go_wp2_with fail
  go_step3
  refine (⟨0,by omega,?_⟩:∃ n',n' < n/\tagJ w0 start nm tg N n' 1 _ _)
  show JNon _ _ _ _ _
  unfold JNon
  (repeat apply Exists.intro)
  refine⟨⟨rfl,HR.out.1,HR.out.2,HT2⟩,rfl⟩
 rw[hD] at HD
 have hE:=nonempty_of HD
 have hS1:1<=S1.size:=by rw[<-bl_len,HD];simp
 have i00:=fun w=>idx0 HD w
 obtain⟨z,hz⟩:∃ z:Int,z=(c.toNat:Int):=⟨_,rfl⟩
 have i0:∀ w,(Instr.index 9 (.string S1) (.int .i64 0)).run Tryz.prog w=.ok (.int .u8 z) w:=by
  rw[hz]
  exact i00
 clear i00
 by_cases hc:c=62
 ·have hzb:(z==62)=true:=by
   rw[hz,hc]
   rfl
  have HT2:Hid (tg=some (mkTk start nm (acc,[47].isSuffixOf (bl G),(bl S1).drop 1))):=hide (by rw[HT.out,attrsOf_end acc _ t (by rw[hD,hc]),HG.out,HD];rfl)
  clear hD HD HT HG H1 hz hc
  go_wp2_with fail
  go_step3
  refine (⟨1,by omega,?_⟩:∃ n',n' < n/\tagJ w0 start nm tg N n' 2 _ _)
  show JEnd _ _ _ _ _ _ _ _
  unfold JEnd
  (repeat apply Exists.intro)
  refine⟨⟨rfl,?_,?_,?_,ST2.out,HT2⟩,rfl⟩ <;> omega
 have hzb:(z==62)=false:=beq_eq_false_iff_ne.2 (by
  intro e
  apply hc
  have:c=UInt8.ofNat 62:=(u8_eq (by decide)).2 (by omega)
  exact this)
 obtain⟨NA,S2,HNA,H2,hz2,hna,HP2⟩:=pass_firstE S1 ⟨#[9,10,12,13,32,47,62,61]⟩ c t (fun x=>!isAt x) set_at (by omega) HD
 obtain⟨X3,S3,_,H3,hz3,HP3⟩:=pass_oneE S2 ⟨#[9,10,12,13,32]⟩ isBl set_bl (by omega)
 have hd3:(t.dropWhile (fun x=>!isAt x)).dropWhile isBl=bl S3:=by rw[H3.out,H2.out]
 have MATH:=hide (And.intro hD (And.intro hc hd3))
 clear hD HD HG H1 H2 H3 hz hc hd3
 go_wp2_with fail
 refine (noneOf_c _ _).mono ?_
 rintro e w3 ⟨rfl,hc3,hy3,hb3⟩
 have HY3:=hide hy3
 clear hy3
 go_wp2_with fail
 refine (first_c _ _ _ hc3).mono ?_
 rintro e w4 ⟨rfl,hA4,hO4,hB4,hb4⟩
 go_wp2_with fail
 refine (HP2.out w2.heap.size _ _ _ w4 hA4 hO4 hB4 (by have:=HY3.out;omega) (by omega) (by have:=HY3.out;omega)).mono ?_
 rintro e w5 ⟨rfl,hb5⟩
 have ST5:=hide (ST2.out.below (hb3.trans ((hb4.mono hb3.size).trans hb5)))
 clear ST2 hb3 hb4 hb5 hc3 hA4 hO4 hB4 HY3 HP2
 go_wp2_with fail
 refine (oneOf_c _ _).mono ?_
 rintro e w6 ⟨rfl,hc6,-,hb6⟩
 go_wp2_with fail
 refine (HP3.out _ _ hc6).mono ?_
 rintro e w7 ⟨rfl,hb7⟩
 have ST7:=hide (ST5.out.below (bel2 hb6 hb7))
 clear ST5 hb6 hb7 hc6 HP3
 by_cases hp:[61].isPrefixOf (bl S3)=true
 case neg =>
  have hpf:[61].isPrefixOf (bl S3)=false:=Bool.eq_false_iff.2 hp
  have HT2:Hid (tg=(attrsOf (addAt acc (lower (bl NA)) (res (bl ⟨#[]⟩))) (bl S3)).map (mkTk start nm)):=hide (by rw[HT.out,attrsOf_one acc _ t c _ _ _ MATH.out.1 MATH.out.2.1 (one_plain c t _ MATH.out.2.2 hpf),HNA.out])
  have hpre:=fun w=>pre_c S3 61 false hpf w
  clear hp hpf HT
  go_wp2_with fail
  refine (hpre _).mono ?_
  rintro e w8 ⟨rfl,rfl⟩
  go_wp2_with fail
  go_step3
  refine (⟨4*S3.size+4,by omega,?_⟩:∃ n',n' < n/\tagJ w0 start nm tg N n' 3 _ _)
  show JKeep _ _ _ _ _ _ _ _
  unfold JKeep
  (repeat apply Exists.intro)
  refine⟨⟨rfl,?_,?_,Nat.zero_le _,ST7.out,HT2⟩,rfl⟩ <;> omega
 obtain⟨u,hu⟩:=pre_cons hp
 have hS3:1<=S3.size:=by rw[<-bl_len,hu];simp
 have hsz:=size_ext_one S3
 obtain⟨X4,S4,_,H4,hz4,HP4⟩:=pass_oneE (S3.extract 1 S3.size) ⟨#[9,10,12,13,32]⟩ isBl set_bl (by omega)
 rw[ext_one hu] at H4
 have hpre:=fun w=>pre_c S3 61 true hp w
 have MATH2:=hide (And.intro MATH.out.1 (And.intro MATH.out.2.1 (MATH.out.2.2.trans hu)))
 clear hu hp MATH
 go_wp2_with fail
 refine (hpre _).mono ?_
 rintro e w8 ⟨rfl,rfl⟩
 clear hpre
 go_wp2_with fail
 refine wp_region_any (by kernel_rfl) ?_
 try (change wpAny _ _ _ _ _ _ _ (World.drew _))
 refine wpT 0 (.string S3) rfl ?_
 refine wpAny_to (i:=1) (v:=.string (S3.extract 1 S3.size)) (a':=?ax1) rfl (by kernel_rfl) (by kernel_rfl) (by kernel_rfl) (fun _ _ _ h=>h) (Or.inl ⟨by rfl,?yi⟩) ?ha ?_
 case yi=>intro w;go_simp;intro h;exfalso;omega
 case ha=>go_simp;exact rfl
 refine wpAny_ready (rs:=[2]) (by kernel_rfl) (by simp) ?_
 refine AllReady.cons rfl (fun K hK=>?_) AllReady.nil
 go_simp
 go_wp2_with fail
 refine (oneOf_c ⟨#[9,10,12,13,32]⟩ _).mono ?_
 rintro e w9 ⟨rfl,hc9,-,hb9⟩
 go_wp2_with fail
 refine wpAny_ready (rs:=[3]) (by kernel_rfl) (by simp) ?_
 refine AllReady.cons rfl (fun K hK=>?_) AllReady.nil
 go_simp
 go_wp2_with fail
 refine (HP4.out _ _ hc9).mono ?_
 rintro e w10 ⟨rfl,hb10⟩
 go_wp2_with fail
 refine wpT 4 (.tuple #[.string X4,.string S4]) rfl ?_
 refine wpT 5 (.string X4) rfl ?_
 refine wpT 6 (.string S4) rfl ?_
 refine wpT 7 (.string S4) rfl ?_
 refine wpAny_done (by kernel_rfl) ?_ _
 have ST10:=hide (ST7.out.below (bel2 (bel_drew hb9) hb10))
 clear ST7 hb9 hb10 hc9 HP4
 by_cases hq1:[34].isPrefixOf (bl S4)=true
 ·obtain⟨v,hv⟩:=pre_cons hq1
  have hpre:=fun w=>pre_c S4 34 true hq1 w
  have HT2:Hid (tg=(match v.dropWhile (fun x=>x != 34) with | []=>none | _ :: r=>attrsOf (addAt acc (lower (bl NA)) (res (v.takeWhile (fun x=>x != 34)))) r).map (mkTk start nm)):=hide (by rw[HT.out,attrs_quote acc _ t u v c 34 MATH2.out.1 MATH2.out.2.1 MATH2.out.2.2 (by rw[<-H4.out,hv]) (.inl rfl),HNA.out];cases v.dropWhile (fun x=>x != 34) <;> rfl)
  have HV:=hide hv
  clear hq1 hv HT
  go_wp2_with fail
  refine (hpre _).mono ?_
  rintro e w11 ⟨rfl,rfl⟩
  go_wp2_with fail
  go_step3
  refine (⟨4*S4.size+5,by omega,?_⟩:∃ n',n' < n/\tagJ w0 start nm tg N n' 4 _ _)
  show JQuo _ _ _ _ _ _ _ _
  unfold JQuo
  (repeat apply Exists.intro)
  refine⟨⟨rfl,?_,?_,ST10.out,HV,HT2⟩,rfl⟩ <;> omega
 have hq1f:[34].isPrefixOf (bl S4)=false:=Bool.eq_false_iff.2 hq1
 have hpre1:=fun w=>pre_c S4 34 false hq1f w
 by_cases hq2:[39].isPrefixOf (bl S4)=true
 ·obtain⟨v,hv⟩:=pre_cons hq2
  have hpre:=fun w=>pre_c S4 39 true hq2 w
  have HT2:Hid (tg=(match v.dropWhile (fun x=>x != 39) with | []=>none | _ :: r=>attrsOf (addAt acc (lower (bl NA)) (res (v.takeWhile (fun x=>x != 39)))) r).map (mkTk start nm)):=hide (by rw[HT.out,attrs_quote acc _ t u v c 39 MATH2.out.1 MATH2.out.2.1 MATH2.out.2.2 (by rw[<-H4.out,hv]) (.inr rfl),HNA.out];cases v.dropWhile (fun x=>x != 39) <;> rfl)
  have HV:=hide hv
  clear hq1 hq1f hq2 hv HT
  go_wp2_with fail
  refine (hpre1 _).mono ?_
  rintro e w11 ⟨rfl,rfl⟩
  go_wp2_with fail
  refine (hpre _).mono ?_
  rintro e w12 ⟨rfl,rfl⟩
  go_wp2_with fail
  go_step3
  refine (⟨4*S4.size+5,by omega,?_⟩:∃ n',n' < n/\tagJ w0 start nm tg N n' 4 _ _)
  show JQuo _ _ _ _ _ _ _ _
  unfold JQuo
  (repeat apply Exists.intro)
  refine⟨⟨rfl,?_,?_,ST10.out,HV,HT2⟩,rfl⟩ <;> omega
 have hq2f:[39].isPrefixOf (bl S4)=false:=Bool.eq_false_iff.2 hq2
 have hpre2:=fun w=>pre_c S4 39 false hq2f w
 obtain⟨VA,S5,HVA,H5,hz5,HP5⟩:=pass_noneE S4 ⟨#[9,10,12,13,32,62]⟩ (fun x=>!isVa x) set_va (by omega)
 have HT2:Hid (tg=(attrsOf (addAt acc (lower (bl NA)) (res (bl VA))) (bl S5)).map (mkTk start nm)):=hide (by
  rw[HT.out,HNA.out,HVA.out,H5.out]
  cases hl:bl S4 with
  | nil=>rw[attrsOf_one acc _ t c _ _ _ MATH2.out.1 MATH2.out.2.1 (one_none c t u MATH2.out.2.2 (by rw[<-H4.out,hl]))];rfl
  | cons q v =>
   rw[hl] at hq1f hq2f
   rw[attrsOf_one acc _ t c _ _ _ MATH2.out.1 MATH2.out.2.1 (one_bare c q t u v MATH2.out.2.2 (by rw[<-H4.out,hl]) (by rintro (rfl | rfl) <;> simp_all))])
 clear hq1 hq1f hq2 hq2f HT MATH2
 go_wp2_with fail
 refine (hpre1 _).mono ?_
 rintro e w11 ⟨rfl,rfl⟩
 go_wp2_with fail
 refine (hpre2 _).mono ?_
 rintro e w12 ⟨rfl,rfl⟩
 clear hpre1 hpre2
 go_wp2_with fail
 refine (noneOf_c _ _).mono ?_
 rintro e w13 ⟨rfl,hc13,-,hb13⟩
 go_wp2_with fail
 refine (HP5.out _ _ hc13).mono ?_
 rintro e w14 ⟨rfl,hb14⟩
 have ST14:=hide (ST10.out.below (bel2 hb13 hb14))
 clear ST10 hb13 hb14 hc13 HP5
 go_wp2_with fail
 go_step3
 refine (⟨4*S5.size+4,by omega,?_⟩:∃ n',n' < n/\tagJ w0 start nm tg N n' 3 _ _)
 show JKeep _ _ _ _ _ _ _ _
 unfold JKeep
 (repeat apply Exists.intro)
 refine⟨⟨rfl,?_,?_,?_,ST14.out,HT2⟩,rfl⟩ <;> omega
end Go.Proofs.YtkiofbikkhhdfabGreatDoor.To
namespace Go.Proofs.YtkiofbikkhhdfabGreatDoor.To
open Go.RowKit
open Utf1
theorem beg3 {l:List UInt8}(h:beg l=3):∃ d r,l=60 :: d :: r:=by
 cases l with
 | nil=>cases h
 | cons c t =>
  by_cases hc:c=60
  ·subst hc
   rw[beg_lt] at h
   cases t with
   | nil=>cases h
   | cons d r=>exact⟨d,r,rfl⟩
  ·rw[beg_ne t hc] at h
   cases h
theorem tag_pass (w0:World) (start:Bool) (nm:ByteArray) (tg:Option (Tk × List UInt8)) (N:Nat)(hN:N<=4294967280)(hg:Glob w0) (n l:Nat) (a:Act) (w:World)(hJ:tagJ w0 start nm tg N n l a w) :
  ∃ rest,findLabel tagCode l=some rest/\rest.wp Tryz.prog (jumps (fun l' a' w'=>∃ n',n' < n/\tagJ w0 start nm tg N n' l' a' w') (bodyPost Tryz.prog Tryz.f50 (TagPost tg w0))) a w :=
 match l,hJ with
 | 0,hJ=>of_label (tag_between w0 start nm tg N n a w hN hJ)
 | 1,hJ=>tag_none w0 start nm tg N n a w hJ
 | 2,hJ=>tag_end w0 start nm tg N n a w hN hJ
 | 3,hJ=>of_label (tag_keep w0 start nm tg N n a w hN hg hJ)
 | 4,hJ=>tag_quoted w0 start nm tg N n a w hN hJ (fun n a w h=>tag_keep w0 start nm tg N n a w hN hg h)
 | _+5,hJ=>hJ.elim
theorem to_between {w0:World}{start:Bool}{nm:ByteArray}{tg:Option (Tk × List UInt8)}{N:Nat}{c:Code}{a:Act}{w:World}(hN:N<=4294967280)(hf:findLabel tagCode 0=some (.seq .skip c)) (n:Nat)(hJ:JBet w0 start nm tg N n a w) :
  c.wp Tryz.prog (jumps (fun l' a' w'=>∃ n',tagJ w0 start nm tg N n' l' a' w') (bodyPost Tryz.prog Tryz.f50 (TagPost tg w0))) a w:=by
 obtain⟨rest,h1,h2⟩:=tag_between w0 start nm tg N n a w hN hJ
 rw[hf] at h1
 cases h1
 exact Code.wp_mono (jumps_mono (fun l a w ⟨n',_,h2⟩=>⟨n',h2⟩)) h2
theorem three_a (w:World) (a b c:Obj):(((w.alloc a).alloc b).alloc c).heap[w.heap.size]?=some a:=by
 show (((w.heap.push a).push b).push c)[w.heap.size]?=_
 rw[Array.getElem?_push,if_neg (by simp;omega),Array.getElem?_push,if_neg (by simp),Array.getElem?_push,if_pos rfl]
theorem three_b (w:World) (a b c:Obj):(((w.alloc a).alloc b).alloc c).heap[w.heap.size+1]?=some b:=by
 show (((w.heap.push a).push b).push c)[w.heap.size+1]?=_
 rw[Array.getElem?_push,if_neg (by simp),Array.getElem?_push,if_pos (by simp)]
theorem three_c (w:World) (a b c:Obj):(((w.alloc a).alloc b).alloc c).heap[w.heap.size+2]?=some c:=by
 show (((w.heap.push a).push b).push c)[w.heap.size+2]?=_
 rw[Array.getElem?_push,if_pos (by simp)]
theorem three_w (w:World) (a b c:Obj):Below w.heap.size w (((w.alloc a).alloc b).alloc c):=(((Below.refl _ _).alloc (Nat.le_refl _) _).alloc (by simp) _).alloc (by simp;omega) _
theorem tag_math {l b:List UInt8}{NA S3 L:ByteArray}(start:Bool)(hs:(l.getD 1 0=47) ↔ start=false)(hb:tagBody l=b) (HNA:bl NA=b.takeWhile (fun x=>!isNm x)) (H3:bl S3=b.dropWhile (fun x=>!isNm x))(hL:bl L=lower (bl NA)):tagOf l=(attrsOf [] (bl S3)).map (mkTk start L):=by
 unfold tagOf
 rw[hb,<-H3,<-HNA,<-hL]
 cases attrsOf [] (bl S3) with
 | none=>rfl
 | some p =>
  obtain⟨a,cl,r⟩:=p
  simp only
  cases start
  ·rw[if_pos (hs.2 rfl)]
   rfl
  ·rw[if_neg (by intro h;cases hs.1 h)]
   rfl
theorem calls_world {P:Program}{f:FuncId}{args:Array Value}{w:World}{R:Ending->World->Prop}(h:∀ wA,wA=w->Calls P f args wA R):Calls P f args w R:=h w rfl
theorem tag_start {w0 wA w3:World}{kd:Bool}(hR:wA.heap[w0.heap.size]?=some (.cells #[.int .i64 0,.string ⟨#[]⟩,.slice none 0 0,.bool false,.string ⟨#[]⟩] 45 (0,0)))
  (hT:wA.heap[w0.heap.size+1]?=some (.cells #[.int .i64 (if kd then 2 else 3),.string ⟨#[]⟩,.slice none 0 0,.bool false,.string ⟨#[]⟩] 45 (0,0)))(hM:wA.heap[w0.heap.size+2]?=some (.map #[] 0))(hb0:Below w0.heap.size w0 wA)(hb:Below wA.heap.size wA w3) (nm:ByteArray) :
  w3.cell? ⟨w0.heap.size+1,1,none⟩=some (.string ⟨#[]⟩)/\w3.frozen? ⟨w0.heap.size+1,1,none⟩=false/\TagSt w0 (w3.setCell ⟨w0.heap.size+1,1,none⟩ (.string nm)) kd nm [] 0 (.slice none 0 0):=by
 have a1:=(hb.block _ (lt_of_block hR)).trans hR
 have a2:=(hb.block _ (lt_of_block hT)).trans hT
 have a3:=(hb.block _ (lt_of_block hM)).trans hM
 have ha:atts kd []=[]:=by cases kd <;> rfl
 refine⟨tag_cell a2 1 _ rfl,tag_free a2 1,?_,?_,?_,⟨.map [],?_,⟨[],rfl⟩,?_⟩,Nat.le_refl _,?_⟩
 ·exact (Below.heap_setCell _ _ _ _ (by simp)).trans a1
 ·exact tok_set a2 1 _
 ·rw[ha]
  exact World.ownsRow_nil _ _ _ _
 ·exact⟨#[],0,(Below.heap_setCell _ _ _ _ (by simp)).trans a3,⟨by simp,MapKept.stamped_empty 0,by simp⟩,by simp,rfl⟩
 ·intro n
  exact⟨0,rfl,by omega,by omega,by simp⟩
 ·exact (hb0.trans (hb.mono hb0.size)).setCell (p:=⟨w0.heap.size+1,1,none⟩) (Nat.le_succ _) _
theorem readTag_any (s:ByteArray) (w:World)(hg:Glob w)(hs:s.size<=4294967280)(hb:beg (bl s)=3) :
  Calls Tryz.prog 50 #[.string s] w fun e w'=>TagPost (tagOf (bl s)) w e w':=by
 obtain⟨d,r,hl⟩:=beg3 hb
 have h1:=ext_one hl
 have hz:=size_ext_one s
 have hs1:2<=s.size:=by rw[<-bl_len,hl];simp
 have hmm:=@run_makeMap Tryz.prog
 have i00:=fun w=>idx0 h1 w
 by_cases hd:d=47
 ·have h2:bl ((s.extract 1 s.size).extract 1 (s.extract 1 s.size).size)=r:=ext_one h1
  have hz2:=size_ext_one (s.extract 1 s.size)
  have hs2:1<=(s.extract 1 s.size).size:=by omega
  rw[hz] at h2 hz2
  generalize hS2:(s.extract 1 s.size).extract 1 (s.size - 1)=S2 at h2 hz2
  obtain⟨NA,S3,HNA,H3,hz3,HP3⟩:=pass_noneE S2 ⟨#[9,10,12,13,32,47,62]⟩ (fun x=>!isNm x) set_nm (by omega)
  obtain⟨z,hzz⟩:∃ z:Int,z=(d.toNat:Int):=⟨_,rfl⟩
  have i0:∀ w,(Instr.index 9 (.string (s.extract 1 s.size)) (.int .i64 0)).run Tryz.prog w=.ok (.int .u8 z) w:=by
   rw[hzz]
   exact i00
  have hzb:(z==47)=true:=by
   rw[hzz,hd]
   rfl
  have hlo:=fun w=>lower_any NA w
  have hLb:bl ⟨(lower (bl NA)).toArray⟩=lower (bl NA):=rfl
  generalize (⟨(lower (bl NA)).toArray⟩:ByteArray)=L at hlo hLb
  have HT:Hid (tagOf (bl s)=(attrsOf [] (bl S3)).map (mkTk false L)):=hide (tag_math false (by rw[hl];simp[hd]) (b:=bl S2) (by rw[h2,hl,hd];rfl) HNA.out H3.out hLb)
  clear i00 hzz hl h1 h2 hb
  go_enter Tryz.func50,Tryz.ntmps50
  go_wp2
  refine wp_scope_all (tagJ w false L (tagOf (bl s)) s.size) (tag_pass w false L (tagOf (bl s)) s.size hs hg) ?_
  go_wp2_with fail
  refine calls_world ?_
  intro wA hwA
  have HW:=hide hwA
  clear hwA
  refine (noneOf_c _ _).mono ?_
  rintro e w1 ⟨rfl,hc1,-,hb1⟩
  go_wp2_with fail
  refine (HP3.out _ _ hc1).mono ?_
  rintro e w2 ⟨rfl,hb2⟩
  go_wp2_with fail
  refine (hlo _).mono ?_
  rintro e w3 ⟨rfl,hb3⟩
  have hbA:=bel2 hb1 (bel2 hb2 (hb3.mono (Nat.le_refl _)))
  obtain⟨d1,d2,hst⟩:=tag_start (w0:=w) (kd:=false) (by rw[HW.out];exact three_a _ _ _ _) (by rw[HW.out];exact three_b _ _ _ _) (by rw[HW.out];exact three_c _ _ _ _) (by rw[HW.out];exact three_w _ _ _ _) hbA L
  have HST:=hide hst
  clear hst hbA hb1 hb2 hb3 hc1
  go_wp2_with fail
  go_step3
  go_step
  go_step
  refine to_between hs rfl (4*S3.size+3) ?_
  unfold JBet
  (repeat apply Exists.intro)
  refine⟨⟨rfl,?_,HST.out,HT⟩,rfl⟩
  omega
 ·obtain⟨NA,S3,HNA,H3,hz3,HP3⟩:=pass_noneE (s.extract 1 s.size) ⟨#[9,10,12,13,32,47,62]⟩ (fun x=>!isNm x) set_nm (by omega)
  obtain⟨z,hzz⟩:∃ z:Int,z=(d.toNat:Int):=⟨_,rfl⟩
  have i0:∀ w,(Instr.index 9 (.string (s.extract 1 s.size)) (.int .i64 0)).run Tryz.prog w=.ok (.int .u8 z) w:=by
   rw[hzz]
   exact i00
  have hzb:(z==47)=false:=beq_eq_false_iff_ne.2 (by
   intro e
   apply hd
   have:d=UInt8.ofNat 47:=(u8_eq (by decide)).2 (by omega)
   exact this)
  have hlo:=fun w=>lower_any NA w
  have hLb:bl ⟨(lower (bl NA)).toArray⟩=lower (bl NA):=rfl
  generalize (⟨(lower (bl NA)).toArray⟩:ByteArray)=L at hlo hLb
  have HT:Hid (tagOf (bl s)=(attrsOf [] (bl S3)).map (mkTk true L)):=hide (tag_math true (by rw[hl];simp[hd]) (b:=bl (s.extract 1 s.size)) (by rw[h1,hl];unfold tagBody;rw[if_neg (by simpa using hd)];rfl) HNA.out H3.out hLb)
  clear i00 hzz hl h1 hb
  go_enter Tryz.func50,Tryz.ntmps50
  go_wp2
  refine wp_scope_all (tagJ w true L (tagOf (bl s)) s.size) (tag_pass w true L (tagOf (bl s)) s.size hs hg) ?_
  go_wp2_with fail
  refine calls_world ?_
  intro wA hwA
  have HW:=hide hwA
  clear hwA
  refine (noneOf_c _ _).mono ?_
  rintro e w1 ⟨rfl,hc1,-,hb1⟩
  go_wp2_with fail
  refine (HP3.out _ _ hc1).mono ?_
  rintro e w2 ⟨rfl,hb2⟩
  go_wp2_with fail
  refine (hlo _).mono ?_
  rintro e w3 ⟨rfl,hb3⟩
  have hbA:=bel2 hb1 (bel2 hb2 (hb3.mono (Nat.le_refl _)))
  obtain⟨d1,d2,hst⟩:=tag_start (w0:=w) (kd:=true) (by rw[HW.out];exact three_a _ _ _ _) (by rw[HW.out];exact three_b _ _ _ _) (by rw[HW.out];exact three_c _ _ _ _) (by rw[HW.out];exact three_w _ _ _ _) hbA L
  have HST:=hide hst
  clear hst hbA hb1 hb2 hb3 hc1
  go_wp2_with fail
  go_step3
  go_step
  go_step
  refine to_between hs rfl (4*S3.size+3) ?_
  unfold JBet
  (repeat apply Exists.intro)
  refine⟨⟨rfl,?_,HST.out,HT⟩,rfl⟩
  omega
end Go.Proofs.YtkiofbikkhhdfabGreatDoor.To
