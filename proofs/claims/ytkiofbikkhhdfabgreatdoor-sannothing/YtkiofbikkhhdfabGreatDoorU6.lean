import Derived.Test.YtkiofbikkhhdfabGreatDoorK10
namespace Go.Proofs.YtkiofbikkhhdfabGreatDoor.To
open Go.RowKit
open Utf1
theorem pre_cons {p:UInt8}{l:List UInt8}(h:[p].isPrefixOf l=true):∃ u,l=p :: u:=by
 cases l with
 | nil=>simp at h
 | cons x u =>
  have:p=x:=by simpa using h
  exact⟨u,by rw[this]⟩
set_option maxRecDepth 100000 in
set_option maxHeartbeats 16000000 in
theorem tag_between (w0:World) (start:Bool) (nm:ByteArray) (tg:Option (Tk × List UInt8)) (N n:Nat) (a:Act) (wr:World)(hN:N<=4294967280)(hJ:JBet w0 start nm tg N n a wr) :
  ∃ rest,findLabel tagCode 0=some (.seq .skip rest)/\rest.wp Tryz.prog (jumps (fun l' a' w'=>∃ n',n' < n/\tagJ w0 start nm tg N n' l' a' w') (bodyPost Tryz.prog Tryz.f50 (TagPost tg w0))) a wr:=by
 unfold JBet at hJ
 obtain⟨s,hJ⟩:=hJ;obtain⟨acc,hJ⟩:=hJ;obtain⟨k,hJ⟩:=hJ;obtain⟨av,hJ⟩:=hJ;obtain⟨u1,hJ⟩:=hJ;obtain⟨u5,hJ⟩:=hJ;obtain⟨u6,hJ⟩:=hJ;obtain⟨u7,hJ⟩:=hJ;obtain⟨u8,hJ⟩:=hJ;obtain⟨u11,hJ⟩:=hJ;obtain⟨u12,hJ⟩:=hJ;obtain⟨u13,hJ⟩:=hJ;obtain⟨u14,hJ⟩:=hJ;obtain⟨u15,hJ⟩:=hJ;obtain⟨u16,hJ⟩:=hJ;obtain⟨u17,hJ⟩:=hJ;obtain⟨u18,hJ⟩:=hJ;obtain⟨u19,hJ⟩:=hJ;obtain⟨u20,hJ⟩:=hJ;obtain⟨u21,hJ⟩:=hJ;obtain⟨u22,hJ⟩:=hJ;obtain⟨u23,hJ⟩:=hJ;obtain⟨u24,hJ⟩:=hJ;obtain⟨u25,hJ⟩:=hJ;obtain⟨u26,hJ⟩:=hJ;obtain⟨u27,hJ⟩:=hJ;obtain⟨u28,hJ⟩:=hJ;obtain⟨u29,hJ⟩:=hJ;obtain⟨u30,hJ⟩:=hJ;obtain⟨u31,hJ⟩:=hJ;obtain⟨u32,hJ⟩:=hJ;obtain⟨u33,hJ⟩:=hJ;obtain⟨u34,hJ⟩:=hJ;obtain⟨u35,hJ⟩:=hJ;obtain⟨u36,hJ⟩:=hJ;obtain⟨u37,hJ⟩:=hJ;obtain⟨u38,hJ⟩:=hJ;obtain⟨u39,hJ⟩:=hJ;obtain⟨u40,hJ⟩:=hJ;obtain⟨u41,hJ⟩:=hJ;obtain⟨u42,hJ⟩:=hJ;obtain⟨u43,hJ⟩:=hJ;obtain⟨u44,hJ⟩:=hJ;obtain⟨u45,hJ⟩:=hJ;obtain⟨u46,hJ⟩:=hJ;obtain⟨u47,hJ⟩:=hJ;obtain⟨u48,hJ⟩:=hJ;obtain⟨u49,hJ⟩:=hJ;obtain⟨u50,hJ⟩:=hJ;obtain⟨u51,hJ⟩:=hJ;obtain⟨u52,hJ⟩:=hJ;obtain⟨u53,hJ⟩:=hJ;obtain⟨u54,hJ⟩:=hJ;obtain⟨u55,hJ⟩:=hJ;obtain⟨u56,hJ⟩:=hJ;obtain⟨u57,hJ⟩:=hJ;obtain⟨u58,hJ⟩:=hJ;obtain⟨u59,hJ⟩:=hJ;obtain⟨u60,hJ⟩:=hJ;obtain⟨u61,hJ⟩:=hJ;obtain⟨u62,hJ⟩:=hJ;obtain⟨u63,hJ⟩:=hJ;obtain⟨u64,hJ⟩:=hJ;obtain⟨u65,hJ⟩:=hJ;obtain⟨u66,hJ⟩:=hJ;obtain⟨u67,hJ⟩:=hJ;obtain⟨u68,hJ⟩:=hJ;obtain⟨u69,hJ⟩:=hJ;obtain⟨u70,hJ⟩:=hJ;obtain⟨u71,hJ⟩:=hJ;obtain⟨u72,hJ⟩:=hJ;obtain⟨u73,hJ⟩:=hJ;obtain⟨u74,hJ⟩:=hJ;obtain⟨u75,hJ⟩:=hJ;obtain⟨u76,hJ⟩:=hJ;obtain⟨u77,hJ⟩:=hJ;obtain⟨u78,hJ⟩:=hJ;obtain⟨u79,hJ⟩:=hJ;obtain⟨u80,hJ⟩:=hJ;obtain⟨u81,hJ⟩:=hJ;obtain⟨u82,hJ⟩:=hJ;obtain⟨u83,hJ⟩:=hJ;obtain⟨u84,hJ⟩:=hJ;obtain⟨u85,hJ⟩:=hJ;obtain⟨u86,hJ⟩:=hJ;obtain⟨u87,hJ⟩:=hJ;obtain⟨u88,hJ⟩:=hJ;obtain⟨u89,hJ⟩:=hJ;obtain⟨u90,hJ⟩:=hJ;obtain⟨u91,hJ⟩:=hJ;obtain⟨u92,hJ⟩:=hJ;obtain⟨u93,hJ⟩:=hJ;obtain⟨u94,hJ⟩:=hJ;obtain⟨u95,hJ⟩:=hJ;obtain⟨u96,hJ⟩:=hJ;obtain⟨u97,hJ⟩:=hJ;obtain⟨u98,hJ⟩:=hJ;obtain⟨u99,hJ⟩:=hJ;obtain⟨u100,hJ⟩:=hJ;obtain⟨u101,hJ⟩:=hJ;obtain⟨u102,hJ⟩:=hJ;obtain⟨u103,hJ⟩:=hJ;obtain⟨u104,hJ⟩:=hJ;obtain⟨u105,hJ⟩:=hJ;obtain⟨u106,hJ⟩:=hJ;obtain⟨u107,hJ⟩:=hJ;obtain⟨u108,hJ⟩:=hJ;obtain⟨u109,hJ⟩:=hJ;obtain⟨u110,hJ⟩:=hJ;obtain⟨u111,hJ⟩:=hJ;obtain⟨u112,hJ⟩:=hJ;obtain⟨u113,hJ⟩:=hJ;obtain⟨u114,hJ⟩:=hJ;obtain⟨u115,hJ⟩:=hJ;obtain⟨u116,hJ⟩:=hJ;obtain⟨u117,hJ⟩:=hJ;obtain⟨u118,hJ⟩:=hJ;obtain⟨u119,hJ⟩:=hJ;obtain⟨u120,hJ⟩:=hJ;obtain⟨u121,hJ⟩:=hJ;obtain⟨u122,hJ⟩:=hJ;obtain⟨u123,hJ⟩:=hJ;obtain⟨u124,hJ⟩:=hJ;obtain⟨u125,hJ⟩:=hJ;obtain⟨hrel,ha⟩:=hJ;subst ha
 obtain⟨hn,hsk,hst,HT⟩:=hrel
 obtain⟨G,S1,HG,H1,hz1,HP1⟩:=pass_oneE s ⟨#[9,10,12,13,32,47]⟩ isGap set_gap (by omega)
 have HST:=hide hst
 clear hst
 refine⟨_,rfl,?_⟩
 go_wp2_with fail
 refine (oneOf_c _ _).mono ?_
 rintro e w1 ⟨rfl,hc1,-,hb1⟩
 go_wp2_with fail
 refine (HP1.out _ _ hc1).mono ?_
 rintro e w2 ⟨rfl,hb2⟩
 have ST2:=hide (HST.out.below (bel2 hb1 hb2))
 clear HST hb1 hb2 hc1 HP1
 have HD:=H1.out
 rcases hD:(bl s).dropWhile isGap with _ | ⟨c,t⟩
 ·rw[hD] at HD
  have hE:=empty_of HD
  have HT2:Hid (tg=none):=hide (by rw[HT.out,attrsOf_nil _ _ hD];rfl)
  clear hD HD HT HG H1
  obtain⟨hR,_,_,_,_,hb⟩:=ST2.out
  have HR:=hide (And.intro hR hb)
  clear hR hb ST2
  go_wp2_with fail
  go_step3
  refine (⟨0,by omega,?_⟩:∃ n',n' < n/\tagJ w0 start nm tg N n' 1 _ _)
  show JNon _ _ _ _ _
  unfold JNon
  (repeat apply Exists.intro)
  refine⟨⟨rfl,HR.out.1,HR.out.2,HT2⟩,rfl⟩
 rw[hD] at HD
 have hE:=nonempty_of HD
 have hS1:1<=S1.size:=by rw[<-bl_len,HD];simp
 have i00:=fun w=>idx0 HD w
 obtain⟨z,hz⟩:∃ z:Int,z=(c.toNat:Int):=⟨_,rfl⟩
 have i0:∀ w,(Instr.index 9 (.string S1) (.int .i64 0)).run Tryz.prog w=.ok (.int .u8 z) w:=by
  rw[hz]
  exact i00
 clear i00
 by_cases hc:c=62
 ·have hzb:(z==62)=true:=by
   rw[hz,hc]
   rfl
  have HT2:Hid (tg=some (mkTk start nm (acc,[47].isSuffixOf (bl G),(bl S1).drop 1))):=hide (by rw[HT.out,attrsOf_end acc _ t (by rw[hD,hc]),HG.out,HD];rfl)
  clear hD HD HT HG H1 hz hc
  go_wp2_with fail
  go_step3
  refine (⟨1,by omega,?_⟩:∃ n',n' < n/\tagJ w0 start nm tg N n' 2 _ _)
  show JEnd _ _ _ _ _ _ _ _
  unfold JEnd
  (repeat apply Exists.intro)
  refine⟨⟨rfl,?_,?_,?_,ST2.out,HT2⟩,rfl⟩ <;> omega
 have hzb:(z==62)=false:=beq_eq_false_iff_ne.2 (by
  intro e
  apply hc
  have:c=UInt8.ofNat 62:=(u8_eq (by decide)).2 (by omega)
  exact this)
 obtain⟨NA,S2,HNA,H2,hz2,hna,HP2⟩:=pass_firstE S1 ⟨#[9,10,12,13,32,47,62,61]⟩ c t (fun x=>!isAt x) set_at (by omega) HD
 obtain⟨X3,S3,_,H3,hz3,HP3⟩:=pass_oneE S2 ⟨#[9,10,12,13,32]⟩ isBl set_bl (by omega)
 have hd3:(t.dropWhile (fun x=>!isAt x)).dropWhile isBl=bl S3:=by rw[H3.out,H2.out]
 have MATH:=hide (And.intro hD (And.intro hc hd3))
 clear hD HD HG H1 H2 H3 hz hc hd3
 go_wp2_with fail
 refine (noneOf_c _ _).mono ?_
 rintro e w3 ⟨rfl,hc3,hy3,hb3⟩
 have HY3:=hide hy3
 clear hy3
 go_wp2_with fail
 refine (first_c _ _ _ hc3).mono ?_
 rintro e w4 ⟨rfl,hA4,hO4,hB4,hb4⟩
 go_wp2_with fail
 refine (HP2.out w2.heap.size _ _ _ w4 hA4 hO4 hB4 (by have:=HY3.out;omega) (by omega) (by have:=HY3.out;omega)).mono ?_
 rintro e w5 ⟨rfl,hb5⟩
 have ST5:=hide (ST2.out.below (hb3.trans ((hb4.mono hb3.size).trans hb5)))
 clear ST2 hb3 hb4 hb5 hc3 hA4 hO4 hB4 HY3 HP2
 go_wp2_with fail
 refine (oneOf_c _ _).mono ?_
 rintro e w6 ⟨rfl,hc6,-,hb6⟩
 go_wp2_with fail
 refine (HP3.out _ _ hc6).mono ?_
 rintro e w7 ⟨rfl,hb7⟩
 have ST7:=hide (ST5.out.below (bel2 hb6 hb7))
 clear ST5 hb6 hb7 hc6 HP3
 by_cases hp:[61].isPrefixOf (bl S3)=true
 case neg =>
  have hpf:[61].isPrefixOf (bl S3)=false:=Bool.eq_false_iff.2 hp
  have HT2:Hid (tg=(attrsOf (addAt acc (lower (bl NA)) (res (bl ⟨#[]⟩))) (bl S3)).map (mkTk start nm)):=hide (by rw[HT.out,attrsOf_one acc _ t c _ _ _ MATH.out.1 MATH.out.2.1 (one_plain c t _ MATH.out.2.2 hpf),HNA.out])
  have hpre:=fun w=>pre_c S3 61 false hpf w
  clear hp hpf HT
  go_wp2_with fail
  refine (hpre _).mono ?_
  rintro e w8 ⟨rfl,rfl⟩
  go_wp2_with fail
  go_step3
  refine (⟨4*S3.size+4,by omega,?_⟩:∃ n',n' < n/\tagJ w0 start nm tg N n' 3 _ _)
  show JKeep _ _ _ _ _ _ _ _
  unfold JKeep
  (repeat apply Exists.intro)
  refine⟨⟨rfl,?_,?_,Nat.zero_le _,ST7.out,HT2⟩,rfl⟩ <;> omega
 obtain⟨u,hu⟩:=pre_cons hp
 have hS3:1<=S3.size:=by rw[<-bl_len,hu];simp
 have hsz:=size_ext_one S3
 obtain⟨X4,S4,_,H4,hz4,HP4⟩:=pass_oneE (S3.extract 1 S3.size) ⟨#[9,10,12,13,32]⟩ isBl set_bl (by omega)
 rw[ext_one hu] at H4
 have hpre:=fun w=>pre_c S3 61 true hp w
 have MATH2:=hide (And.intro MATH.out.1 (And.intro MATH.out.2.1 (MATH.out.2.2.trans hu)))
 clear hu hp MATH
 go_wp2_with fail
 refine (hpre _).mono ?_
 rintro e w8 ⟨rfl,rfl⟩
 clear hpre
 go_wp2_with fail
 refine wp_region_any (by kernel_rfl) ?_
 try (change wpAny _ _ _ _ _ _ _ (World.drew _))
 refine wpAny_to (i:=0) (v:=.string S3) (a':=?ax0) rfl (by kernel_rfl) (by kernel_rfl) (by kernel_rfl) (fun _ _ _ h=>h) (Or.inl ⟨by rfl,?yi⟩) ?ha ?_
 case yi=>intro w;go_simp
 case ha=>go_simp;exact rfl
 refine wpAny_to (i:=1) (v:=.string (S3.extract 1 S3.size)) (a':=?ax1) rfl (by kernel_rfl) (by kernel_rfl) (by kernel_rfl) (fun _ _ _ h=>h) (Or.inl ⟨by rfl,?yi⟩) ?ha ?_
 case yi=>intro w;go_simp;intro h;exfalso;omega
 case ha=>go_simp;exact rfl
 refine wpAny_ready (rs:=[2]) (by kernel_rfl) (by simp) ?_
 refine AllReady.cons rfl (fun K hK=>?_) AllReady.nil
 go_simp
 go_wp2_with fail
 refine (oneOf_c ⟨#[9,10,12,13,32]⟩ _).mono ?_
 rintro e w9 ⟨rfl,hc9,-,hb9⟩
 go_wp2_with fail
 refine wpAny_ready (rs:=[3]) (by kernel_rfl) (by simp) ?_
 refine AllReady.cons rfl (fun K hK=>?_) AllReady.nil
 go_simp
 go_wp2_with fail
 refine (HP4.out _ _ hc9).mono ?_
 rintro e w10 ⟨rfl,hb10⟩
 go_wp2_with fail
 refine wpAny_to (i:=4) (v:=.tuple #[.string X4,.string S4]) (a':=?ax4) rfl (by kernel_rfl) (by kernel_rfl) (by kernel_rfl) (fun _ _ _ h=>h) (Or.inl ⟨by rfl,?yi⟩) ?ha ?_
 case yi=>intro w;go_simp
 case ha=>go_simp;exact rfl
 refine wpAny_to (i:=5) (v:=.string X4) (a':=?ax5) rfl (by kernel_rfl) (by kernel_rfl) (by kernel_rfl) (fun _ _ _ h=>h) (Or.inl ⟨by rfl,?yi⟩) ?ha ?_
 case yi=>intro w;go_simp
 case ha=>go_simp;exact rfl
 refine wpAny_to (i:=6) (v:=.string S4) (a':=?ax6) rfl (by kernel_rfl) (by kernel_rfl) (by kernel_rfl) (fun _ _ _ h=>h) (Or.inl ⟨by rfl,?yi⟩) ?ha ?_
 case yi=>intro w;go_simp
 case ha=>go_simp;exact rfl
 refine wpAny_to (i:=7) (v:=.string S4) (a':=?ax7) rfl (by kernel_rfl) (by kernel_rfl) (by kernel_rfl) (fun _ _ _ h=>h) (Or.inl ⟨by rfl,?yi⟩) ?ha ?_
 case yi=>intro w;go_simp
 case ha=>go_simp;exact rfl
 refine wpAny_done (by kernel_rfl) ?_ _
 have ST10:=hide (ST7.out.below (bel2 (bel_drew hb9) hb10))
 clear ST7 hb9 hb10 hc9 HP4
 by_cases hq1:[34].isPrefixOf (bl S4)=true
 ·obtain⟨v,hv⟩:=pre_cons hq1
  have hpre:=fun w=>pre_c S4 34 true hq1 w
  have HT2:Hid (tg=(match v.dropWhile (fun x=>x != 34) with | []=>none | _ :: r=>attrsOf (addAt acc (lower (bl NA)) (res (v.takeWhile (fun x=>x != 34)))) r).map (mkTk start nm)):=hide (by rw[HT.out,attrs_quote acc _ t u v c 34 MATH2.out.1 MATH2.out.2.1 MATH2.out.2.2 (by rw[<-H4.out,hv]) (.inl rfl),HNA.out];cases v.dropWhile (fun x=>x != 34) <;> rfl)
  have HV:=hide hv
  clear hq1 hv HT
  go_wp2_with fail
  refine (hpre _).mono ?_
  rintro e w11 ⟨rfl,rfl⟩
  go_wp2_with fail
  go_step3
  refine (⟨4*S4.size+5,by omega,?_⟩:∃ n',n' < n/\tagJ w0 start nm tg N n' 4 _ _)
  show JQuo _ _ _ _ _ _ _ _
  unfold JQuo
  (repeat apply Exists.intro)
  refine⟨⟨rfl,?_,?_,ST10.out,HV,HT2⟩,rfl⟩ <;> omega
 have hq1f:[34].isPrefixOf (bl S4)=false:=Bool.eq_false_iff.2 hq1
 have hpre1:=fun w=>pre_c S4 34 false hq1f w
 by_cases hq2:[39].isPrefixOf (bl S4)=true
 ·obtain⟨v,hv⟩:=pre_cons hq2
  have hpre:=fun w=>pre_c S4 39 true hq2 w
  have HT2:Hid (tg=(match v.dropWhile (fun x=>x != 39) with | []=>none | _ :: r=>attrsOf (addAt acc (lower (bl NA)) (res (v.takeWhile (fun x=>x != 39)))) r).map (mkTk start nm)):=hide (by rw[HT.out,attrs_quote acc _ t u v c 39 MATH2.out.1 MATH2.out.2.1 MATH2.out.2.2 (by rw[<-H4.out,hv]) (.inr rfl),HNA.out];cases v.dropWhile (fun x=>x != 39) <;> rfl)
  have HV:=hide hv
  clear hq1 hq1f hq2 hv HT
  go_wp2_with fail
  refine (hpre1 _).mono ?_
  rintro e w11 ⟨rfl,rfl⟩
  go_wp2_with fail
  refine (hpre _).mono ?_
  rintro e w12 ⟨rfl,rfl⟩
  go_wp2_with fail
  go_step3
  refine (⟨4*S4.size+5,by omega,?_⟩:∃ n',n' < n/\tagJ w0 start nm tg N n' 4 _ _)
  show JQuo _ _ _ _ _ _ _ _
  unfold JQuo
  (repeat apply Exists.intro)
  refine⟨⟨rfl,?_,?_,ST10.out,HV,HT2⟩,rfl⟩ <;> omega
 have hq2f:[39].isPrefixOf (bl S4)=false:=Bool.eq_false_iff.2 hq2
 have hpre2:=fun w=>pre_c S4 39 false hq2f w
 obtain⟨VA,S5,HVA,H5,hz5,HP5⟩:=pass_noneE S4 ⟨#[9,10,12,13,32,62]⟩ (fun x=>!isVa x) set_va (by omega)
 have HT2:Hid (tg=(attrsOf (addAt acc (lower (bl NA)) (res (bl VA))) (bl S5)).map (mkTk start nm)):=hide (by
  rw[HT.out,HNA.out,HVA.out,H5.out]
  cases hl:bl S4 with
  | nil=>rw[attrsOf_one acc _ t c _ _ _ MATH2.out.1 MATH2.out.2.1 (one_none c t u MATH2.out.2.2 (by rw[<-H4.out,hl]))];rfl
  | cons q v =>
   rw[hl] at hq1f hq2f
   rw[attrsOf_one acc _ t c _ _ _ MATH2.out.1 MATH2.out.2.1 (one_bare c q t u v MATH2.out.2.2 (by rw[<-H4.out,hl]) (by rintro (rfl | rfl) <;> simp_all))])
 clear hq1 hq1f hq2 hq2f HT MATH2
 go_wp2_with fail
 refine (hpre1 _).mono ?_
 rintro e w11 ⟨rfl,rfl⟩
 go_wp2_with fail
 refine (hpre2 _).mono ?_
 rintro e w12 ⟨rfl,rfl⟩
 clear hpre1 hpre2
 go_wp2_with fail
 refine (noneOf_c _ _).mono ?_
 rintro e w13 ⟨rfl,hc13,-,hb13⟩
 go_wp2_with fail
 refine (HP5.out _ _ hc13).mono ?_
 rintro e w14 ⟨rfl,hb14⟩
 have ST14:=hide (ST10.out.below (bel2 hb13 hb14))
 clear ST10 hb13 hb14 hc13 HP5
 go_wp2_with fail
 go_step3
 refine (⟨4*S5.size+4,by omega,?_⟩:∃ n',n' < n/\tagJ w0 start nm tg N n' 3 _ _)
 show JKeep _ _ _ _ _ _ _ _
 unfold JKeep
 (repeat apply Exists.intro)
 refine⟨⟨rfl,?_,?_,?_,ST14.out,HT2⟩,rfl⟩ <;> omega
end Go.Proofs.YtkiofbikkhhdfabGreatDoor.To
