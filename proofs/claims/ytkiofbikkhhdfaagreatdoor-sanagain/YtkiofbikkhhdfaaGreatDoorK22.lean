import Derived.Test.YtkiofbikkhhdfaaGreatDoorK11
import Derived.Test.YtkiofbikkhhdfaaGreatDoorK07
namespace Go.Proofs.YtkiofbikkhhdfaaGreatDoor.To
open Go.RowKit
open Utf1
theorem pre_cons {p:UInt8}{l:List UInt8}(h:[p].isPrefixOf l=true):∃ u,l=p :: u:=by
 cases l with
 | nil=>simp at h
 | cons x u =>
  have:p=x:=by simpa using h
  exact⟨u,by rw[this]⟩
set_option maxRecDepth 100000 in
set_option maxHeartbeats 16000000 in
theorem tag_between (w0:World) (start:Bool) (nm:ByteArray) (tg:Option (Tk × List UInt8)) (N n:Nat) (a:Act) (wr:World)(hN:N<=4294967280)(hJ:JBet w0 start nm tg N n a wr) :
  ∃ rest,findLabel tagCode 0=some (.seq .skip rest)/\rest.wp Tryz.prog (jumps (fun l' a' w'=>∃ n',n' < n/\tagJ w0 start nm tg N n' l' a' w') (bodyPost Tryz.prog Tryz.f62 (TagPost tg w0))) a wr:=by
 unfold JBet at hJ
 obtain⟨s,hJ⟩:=hJ;obtain⟨acc,hJ⟩:=hJ;obtain⟨k,hJ⟩:=hJ;obtain⟨av,hJ⟩:=hJ;obtain⟨u1,hJ⟩:=hJ;obtain⟨u5,hJ⟩:=hJ;obtain⟨u6,hJ⟩:=hJ;obtain⟨u7,hJ⟩:=hJ;obtain⟨u8,hJ⟩:=hJ;obtain⟨u11,hJ⟩:=hJ;obtain⟨u12,hJ⟩:=hJ;obtain⟨u13,hJ⟩:=hJ;obtain⟨u14,hJ⟩:=hJ;obtain⟨u15,hJ⟩:=hJ;obtain⟨u16,hJ⟩:=hJ;obtain⟨u17,hJ⟩:=hJ;obtain⟨u18,hJ⟩:=hJ;obtain⟨u19,hJ⟩:=hJ;obtain⟨u20,hJ⟩:=hJ;obtain⟨u21,hJ⟩:=hJ;obtain⟨u22,hJ⟩:=hJ;obtain⟨u23,hJ⟩:=hJ;obtain⟨u24,hJ⟩:=hJ;obtain⟨u25,hJ⟩:=hJ;obtain⟨u26,hJ⟩:=hJ;obtain⟨u27,hJ⟩:=hJ;obtain⟨u28,hJ⟩:=hJ;obtain⟨u29,hJ⟩:=hJ;obtain⟨u30,hJ⟩:=hJ;obtain⟨u31,hJ⟩:=hJ;obtain⟨u32,hJ⟩:=hJ;obtain⟨u33,hJ⟩:=hJ;obtain⟨u34,hJ⟩:=hJ;obtain⟨u35,hJ⟩:=hJ;obtain⟨u36,hJ⟩:=hJ;obtain⟨u37,hJ⟩:=hJ;obtain⟨u38,hJ⟩:=hJ;obtain⟨u39,hJ⟩:=hJ;obtain⟨u40,hJ⟩:=hJ;obtain⟨u41,hJ⟩:=hJ;obtain⟨u42,hJ⟩:=hJ;obtain⟨u43,hJ⟩:=hJ;obtain⟨u44,hJ⟩:=hJ;obtain⟨u45,hJ⟩:=hJ;obtain⟨u46,hJ⟩:=hJ;obtain⟨u47,hJ⟩:=hJ;obtain⟨u48,hJ⟩:=hJ;obtain⟨u49,hJ⟩:=hJ;obtain⟨u50,hJ⟩:=hJ;obtain⟨u51,hJ⟩:=hJ;obtain⟨u52,hJ⟩:=hJ;obtain⟨u53,hJ⟩:=hJ;obtain⟨u54,hJ⟩:=hJ;obtain⟨u55,hJ⟩:=hJ;obtain⟨u56,hJ⟩:=hJ;obtain⟨u57,hJ⟩:=hJ;obtain⟨u58,hJ⟩:=hJ;obtain⟨u59,hJ⟩:=hJ;obtain⟨u60,hJ⟩:=hJ;obtain⟨u61,hJ⟩:=hJ;obtain⟨u62,hJ⟩:=hJ;obtain⟨u63,hJ⟩:=hJ;obtain⟨u64,hJ⟩:=hJ;obtain⟨u65,hJ⟩:=hJ;obtain⟨u66,hJ⟩:=hJ;obtain⟨u67,hJ⟩:=hJ;obtain⟨u68,hJ⟩:=hJ;obtain⟨u69,hJ⟩:=hJ;obtain⟨u70,hJ⟩:=hJ;obtain⟨u71,hJ⟩:=hJ;obtain⟨u72,hJ⟩:=hJ;obtain⟨u73,hJ⟩:=hJ;obtain⟨u74,hJ⟩:=hJ;obtain⟨u75,hJ⟩:=hJ;obtain⟨u76,hJ⟩:=hJ;obtain⟨u77,hJ⟩:=hJ;obtain⟨u78,hJ⟩:=hJ;obtain⟨u79,hJ⟩:=hJ;obtain⟨u80,hJ⟩:=hJ;obtain⟨u81,hJ⟩:=hJ;obtain⟨u82,hJ⟩:=hJ;obtain⟨u83,hJ⟩:=hJ;obtain⟨u84,hJ⟩:=hJ;obtain⟨u85,hJ⟩:=hJ;obtain⟨u86,hJ⟩:=hJ;obtain⟨u87,hJ⟩:=hJ;obtain⟨u88,hJ⟩:=hJ;obtain⟨u89,hJ⟩:=hJ;obtain⟨u90,hJ⟩:=hJ;obtain⟨u91,hJ⟩:=hJ;obtain⟨u92,hJ⟩:=hJ;obtain⟨u93,hJ⟩:=hJ;obtain⟨u94,hJ⟩:=hJ;obtain⟨u95,hJ⟩:=hJ;obtain⟨u96,hJ⟩:=hJ;obtain⟨u97,hJ⟩:=hJ;obtain⟨u98,hJ⟩:=hJ;obtain⟨u99,hJ⟩:=hJ;obtain⟨u100,hJ⟩:=hJ;obtain⟨u101,hJ⟩:=hJ;obtain⟨u102,hJ⟩:=hJ;obtain⟨u103,hJ⟩:=hJ;obtain⟨u104,hJ⟩:=hJ;obtain⟨u105,hJ⟩:=hJ;obtain⟨u106,hJ⟩:=hJ;obtain⟨u107,hJ⟩:=hJ;obtain⟨u108,hJ⟩:=hJ;obtain⟨u109,hJ⟩:=hJ;obtain⟨u110,hJ⟩:=hJ;obtain⟨u111,hJ⟩:=hJ;obtain⟨u112,hJ⟩:=hJ;obtain⟨u113,hJ⟩:=hJ;obtain⟨u114,hJ⟩:=hJ;obtain⟨u115,hJ⟩:=hJ;obtain⟨u116,hJ⟩:=hJ;obtain⟨u117,hJ⟩:=hJ;obtain⟨u118,hJ⟩:=hJ;obtain⟨u119,hJ⟩:=hJ;obtain⟨u120,hJ⟩:=hJ;obtain⟨u121,hJ⟩:=hJ;obtain⟨u122,hJ⟩:=hJ;obtain⟨u123,hJ⟩:=hJ;obtain⟨u124,hJ⟩:=hJ;obtain⟨u125,hJ⟩:=hJ;obtain⟨hrel,ha⟩:=hJ;subst ha
 obtain⟨hn,hsk,hst,HT⟩:=hrel
 obtain⟨G,S1,HG,H1,hz1,HP1⟩:=pass_oneE s ⟨#[9,10,12,13,32,47]⟩ isGap set_gap (by omega)
 have HST:=hide hst
 clear hst
 refine⟨_,rfl,?_⟩
 go_wp2_with fail
 refine (oneOf_c _ _).mono ?_
 rintro e w1 ⟨rfl,hc1,-,hb1⟩
 go_wp2_with fail
 refine (HP1.out _ _ hc1).mono ?_
 rintro e w2 ⟨rfl,hb2⟩
 have ST2:=hide (HST.out.below (bel2 hb1 hb2))
 clear HST hb1 hb2 hc1 HP1
 have HD:=H1.out
 rcases hD:(bl s).dropWhile isGap with _ | ⟨c,t⟩
 ·rw[hD] at HD
  have hE:=empty_of HD
  have HT2:Hid (tg=none):=hide (by rw[HT.out,attrsOf_nil _ _ hD];rfl)
  clear hD HD HT HG H1
  obtain⟨hR,_,_,_,_,hb⟩:=ST2.out
  have HR:=hide (And.intro hR hb)
  clear hR hb ST2
  go_wp2_with fail
  go_step3
  refine (⟨0,by omega,?_⟩:∃ n',n' < n/\tagJ w0 start nm tg N n' 1 _ _)
  show JNon _ _ _ _ _
  unfold JNon
  (repeat apply Exists.intro)
  refine⟨⟨rfl,HR.out.1,HR.out.2,HT2⟩,rfl⟩
 rw[hD] at HD
 have hE:=nonempty_of HD
 have hS1:1<=S1.size:=by rw[<-bl_len,HD];simp
 have i00:=fun w=>idx0 HD w
 obtain⟨z,hz⟩:∃ z:Int,z=(c.toNat:Int):=⟨_,rfl⟩
 have i0:∀ w,(Instr.index 9 (.string S1) (.int .i64 0)).run Tryz.prog w=.ok (.int .u8 z) w:=by
  rw[hz]
  exact i00
 clear i00
 by_cases hc:c=62
 ·have hzb:(z==62)=true:=by
   rw[hz,hc]
   rfl
  have HT2:Hid (tg=some (mkTk start nm (acc,[47].isSuffixOf (bl G),(bl S1).drop 1))):=hide (by rw[HT.out,attrsOf_end acc _ t (by rw[hD,hc]),HG.out,HD];rfl)
  clear hD HD HT HG H1 hz hc
  go_wp2_with fail
  go_step3
  refine (⟨1,by omega,?_⟩:∃ n',n' < n/\tagJ w0 start nm tg N n' 2 _ _)
  show JEnd _ _ _ _ _ _ _ _
  unfold JEnd
  (repeat apply Exists.intro)
  refine⟨⟨rfl,?_,?_,?_,ST2.out,HT2⟩,rfl⟩ <;> omega
 have hzb:(z==62)=false:=beq_eq_false_iff_ne.2 (by
  intro e
  apply hc
  have:c=UInt8.ofNat 62:=(u8_eq (by decide)).2 (by omega)
  exact this)
 obtain⟨NA,S2,HNA,H2,hz2,hna,HP2⟩:=pass_firstE S1 ⟨#[9,10,12,13,32,47,62,61]⟩ c t (fun x=>!isAt x) set_at (by omega) HD
 obtain⟨X3,S3,_,H3,hz3,HP3⟩:=pass_oneE S2 ⟨#[9,10,12,13,32]⟩ isBl set_bl (by omega)
 have hd3:(t.dropWhile (fun x=>!isAt x)).dropWhile isBl=bl S3:=by rw[H3.out,H2.out]
 have MATH:=hide (And.intro hD (And.intro hc hd3))
 clear hD HD HG H1 H2 H3 hz hc hd3
 go_wp2_with fail
 refine (noneOf_c _ _).mono ?_
 rintro e w3 ⟨rfl,hc3,hy3,hb3⟩
 have HY3:=hide hy3
 clear hy3
 go_wp2_with fail
 refine (first_c _ _ _ hc3).mono ?_
 rintro e w4 ⟨rfl,hA4,hO4,hB4,hb4⟩
 go_wp2_with fail
 refine (HP2.out w2.heap.size _ _ _ w4 hA4 hO4 hB4 (by have:=HY3.out;omega) (by omega) (by have:=HY3.out;omega)).mono ?_
 rintro e w5 ⟨rfl,hb5⟩
 have ST5:=hide (ST2.out.below (hb3.trans ((hb4.mono hb3.size).trans hb5)))
 clear ST2 hb3 hb4 hb5 hc3 hA4 hO4 hB4 HY3 HP2
 go_wp2_with fail
 refine (oneOf_c _ _).mono ?_
 rintro e w6 ⟨rfl,hc6,-,hb6⟩
 go_wp2_with fail
 refine (HP3.out _ _ hc6).mono ?_
 rintro e w7 ⟨rfl,hb7⟩
 have ST7:=hide (ST5.out.below (bel2 hb6 hb7))
 clear ST5 hb6 hb7 hc6 HP3
 by_cases hp:[61].isPrefixOf (bl S3)=true
 case neg =>
  have hpf:[61].isPrefixOf (bl S3)=false:=Bool.eq_false_iff.2 hp
  have HT2:Hid (tg=(attrsOf (addAt acc (lower (bl NA)) (res (bl ⟨#[]⟩))) (bl S3)).map (mkTk start nm)):=hide (by rw[HT.out,attrsOf_one acc _ t c _ _ _ MATH.out.1 MATH.out.2.1 (one_plain c t _ MATH.out.2.2 hpf),HNA.out])
  have hpre:=fun w=>pre_c S3 61 false hpf w
  clear hp hpf HT
  go_wp2_with fail
  refine (hpre _).mono ?_
  rintro e w8 ⟨rfl,rfl⟩
  go_wp2_with fail
  go_step3
  refine (⟨4*S3.size+4,by omega,?_⟩:∃ n',n' < n/\tagJ w0 start nm tg N n' 3 _ _)
  show JKeep _ _ _ _ _ _ _ _
  unfold JKeep
  (repeat apply Exists.intro)
  refine⟨⟨rfl,?_,?_,Nat.zero_le _,ST7.out,HT2⟩,rfl⟩ <;> omega
 obtain⟨u,hu⟩:=pre_cons hp
 have hS3:1<=S3.size:=by rw[<-bl_len,hu];simp
 have hsz:=size_ext_one S3
 obtain⟨X4,S4,_,H4,hz4,HP4⟩:=pass_oneE (S3.extract 1 S3.size) ⟨#[9,10,12,13,32]⟩ isBl set_bl (by omega)
 rw[ext_one hu] at H4
 have hpre:=fun w=>pre_c S3 61 true hp w
 have MATH2:=hide (And.intro MATH.out.1 (And.intro MATH.out.2.1 (MATH.out.2.2.trans hu)))
 clear hu hp MATH
 go_wp2_with fail
 refine (hpre _).mono ?_
 rintro e w8 ⟨rfl,rfl⟩
 clear hpre
 go_wp2_with fail
 refine wp_region_any (by kernel_rfl) ?_
 try (change wpAny _ _ _ _ _ _ _ (World.drew _))
 refine wpAny_to (i:=0) (v:=.string S3) (a':=?ax0) rfl (by kernel_rfl) (by kernel_rfl) (by kernel_rfl) (fun _ _ _ h=>h) (Or.inl ⟨by rfl,?yi⟩) ?ha ?_
 case yi=>intro w;go_simp
 case ha=>go_simp;exact rfl
 refine wpAny_to (i:=1) (v:=.string (S3.extract 1 S3.size)) (a':=?ax1) rfl (by kernel_rfl) (by kernel_rfl) (by kernel_rfl) (fun _ _ _ h=>h) (Or.inl ⟨by rfl,?yi⟩) ?ha ?_
 case yi=>intro w;go_simp;intro h;exfalso;omega
 case ha=>go_simp;exact rfl
 refine wpAny_ready (rs:=[2]) (by kernel_rfl) (by simp) ?_
 refine AllReady.cons rfl (fun K hK=>?_) AllReady.nil
 go_simp
 go_wp2_with fail
 refine (oneOf_c ⟨#[9,10,12,13,32]⟩ _).mono ?_
 rintro e w9 ⟨rfl,hc9,-,hb9⟩
 go_wp2_with fail
 refine wpAny_ready (rs:=[3]) (by kernel_rfl) (by simp) ?_
 refine AllReady.cons rfl (fun K hK=>?_) AllReady.nil
 go_simp
 go_wp2_with fail
 refine (HP4.out _ _ hc9).mono ?_
 rintro e w10 ⟨rfl,hb10⟩
 go_wp2_with fail
 refine wpAny_to (i:=4) (v:=.tuple #[.string X4,.string S4]) (a':=?ax4) rfl (by kernel_rfl) (by kernel_rfl) (by kernel_rfl) (fun _ _ _ h=>h) (Or.inl ⟨by rfl,?yi⟩) ?ha ?_
 case yi=>intro w;go_simp
 case ha=>go_simp;exact rfl
 refine wpAny_to (i:=5) (v:=.string X4) (a':=?ax5) rfl (by kernel_rfl) (by kernel_rfl) (by kernel_rfl) (fun _ _ _ h=>h) (Or.inl ⟨by rfl,?yi⟩) ?ha ?_
 case yi=>intro w;go_simp
 case ha=>go_simp;exact rfl
 refine wpAny_to (i:=6) (v:=.string S4) (a':=?ax6) rfl (by kernel_rfl) (by kernel_rfl) (by kernel_rfl) (fun _ _ _ h=>h) (Or.inl ⟨by rfl,?yi⟩) ?ha ?_
 case yi=>intro w;go_simp
 case ha=>go_simp;exact rfl
 refine wpAny_to (i:=7) (v:=.string S4) (a':=?ax7) rfl (by kernel_rfl) (by kernel_rfl) (by kernel_rfl) (fun _ _ _ h=>h) (Or.inl ⟨by rfl,?yi⟩) ?ha ?_
 case yi=>intro w;go_simp
 case ha=>go_simp;exact rfl
 refine wpAny_done (by kernel_rfl) ?_ _
 have ST10:=hide (ST7.out.below (bel2 (bel_drew hb9) hb10))
 clear ST7 hb9 hb10 hc9 HP4
 by_cases hq1:[34].isPrefixOf (bl S4)=true
 ·obtain⟨v,hv⟩:=pre_cons hq1
  have hpre:=fun w=>pre_c S4 34 true hq1 w
  have HT2:Hid (tg=(match v.dropWhile (fun x=>x != 34) with | []=>none | _ :: r=>attrsOf (addAt acc (lower (bl NA)) (res (v.takeWhile (fun x=>x != 34)))) r).map (mkTk start nm)):=hide (by rw[HT.out,attrs_quote acc _ t u v c 34 MATH2.out.1 MATH2.out.2.1 MATH2.out.2.2 (by rw[<-H4.out,hv]) (.inl rfl),HNA.out];cases v.dropWhile (fun x=>x != 34) <;> rfl)
  have HV:=hide hv
  clear hq1 hv HT
  go_wp2_with fail
  refine (hpre _).mono ?_
  rintro e w11 ⟨rfl,rfl⟩
  go_wp2_with fail
  go_step3
  refine (⟨4*S4.size+5,by omega,?_⟩:∃ n',n' < n/\tagJ w0 start nm tg N n' 4 _ _)
  show JQuo _ _ _ _ _ _ _ _
  unfold JQuo
  (repeat apply Exists.intro)
  refine⟨⟨rfl,?_,?_,ST10.out,HV,HT2⟩,rfl⟩ <;> omega
 have hq1f:[34].isPrefixOf (bl S4)=false:=Bool.eq_false_iff.2 hq1
 have hpre1:=fun w=>pre_c S4 34 false hq1f w
 by_cases hq2:[39].isPrefixOf (bl S4)=true
 ·obtain⟨v,hv⟩:=pre_cons hq2
  have hpre:=fun w=>pre_c S4 39 true hq2 w
  have HT2:Hid (tg=(match v.dropWhile (fun x=>x != 39) with | []=>none | _ :: r=>attrsOf (addAt acc (lower (bl NA)) (res (v.takeWhile (fun x=>x != 39)))) r).map (mkTk start nm)):=hide (by rw[HT.out,attrs_quote acc _ t u v c 39 MATH2.out.1 MATH2.out.2.1 MATH2.out.2.2 (by rw[<-H4.out,hv]) (.inr rfl),HNA.out];cases v.dropWhile (fun x=>x != 39) <;> rfl)
  have HV:=hide hv
  clear hq1 hq1f hq2 hv HT
  go_wp2_with fail
  refine (hpre1 _).mono ?_
  rintro e w11 ⟨rfl,rfl⟩
  go_wp2_with fail
  refine (hpre _).mono ?_
  rintro e w12 ⟨rfl,rfl⟩
  go_wp2_with fail
  go_step3
  refine (⟨4*S4.size+5,by omega,?_⟩:∃ n',n' < n/\tagJ w0 start nm tg N n' 4 _ _)
  show JQuo _ _ _ _ _ _ _ _
  unfold JQuo
  (repeat apply Exists.intro)
  refine⟨⟨rfl,?_,?_,ST10.out,HV,HT2⟩,rfl⟩ <;> omega
 have hq2f:[39].isPrefixOf (bl S4)=false:=Bool.eq_false_iff.2 hq2
 have hpre2:=fun w=>pre_c S4 39 false hq2f w
 obtain⟨VA,S5,HVA,H5,hz5,HP5⟩:=pass_noneE S4 ⟨#[9,10,12,13,32,62]⟩ (fun x=>!isVa x) set_va (by omega)
 have HT2:Hid (tg=(attrsOf (addAt acc (lower (bl NA)) (res (bl VA))) (bl S5)).map (mkTk start nm)):=hide (by
  rw[HT.out,HNA.out,HVA.out,H5.out]
  cases hl:bl S4 with
  | nil=>rw[attrsOf_one acc _ t c _ _ _ MATH2.out.1 MATH2.out.2.1 (one_none c t u MATH2.out.2.2 (by rw[<-H4.out,hl]))];rfl
  | cons q v =>
   rw[hl] at hq1f hq2f
   rw[attrsOf_one acc _ t c _ _ _ MATH2.out.1 MATH2.out.2.1 (one_bare c q t u v MATH2.out.2.2 (by rw[<-H4.out,hl]) (by rintro (rfl | rfl) <;> simp_all))])
 clear hq1 hq1f hq2 hq2f HT MATH2
 go_wp2_with fail
 refine (hpre1 _).mono ?_
 rintro e w11 ⟨rfl,rfl⟩
 go_wp2_with fail
 refine (hpre2 _).mono ?_
 rintro e w12 ⟨rfl,rfl⟩
 clear hpre1 hpre2
 go_wp2_with fail
 refine (noneOf_c _ _).mono ?_
 rintro e w13 ⟨rfl,hc13,-,hb13⟩
 go_wp2_with fail
 refine (HP5.out _ _ hc13).mono ?_
 rintro e w14 ⟨rfl,hb14⟩
 have ST14:=hide (ST10.out.below (bel2 hb13 hb14))
 clear ST10 hb13 hb14 hc13 HP5
 go_wp2_with fail
 go_step3
 refine (⟨4*S5.size+4,by omega,?_⟩:∃ n',n' < n/\tagJ w0 start nm tg N n' 3 _ _)
 show JKeep _ _ _ _ _ _ _ _
 unfold JKeep
 (repeat apply Exists.intro)
 refine⟨⟨rfl,?_,?_,?_,ST14.out,HT2⟩,rfl⟩ <;> omega
end Go.Proofs.YtkiofbikkhhdfaaGreatDoor.To
namespace Go.Proofs.YtkiofbikkhhdfaaGreatDoor.Dm
open Go.RowKit
open Utf1
def CB (w:World) (B:Nat) (a:Nat->Value) (ov pa bv:Value):Prop:=w.heap[B]?=some (.cells #[a 0,a 1,a 2,a 3,a 4,a 5,a 6,a 7,a 8,ov,pa,bv] 61 (0,0))
theorem clen_any (w:World) (B:Nat) (a:Nat->Value) (ov pa:Value) (p:Option Addr) (m c:Nat)(h:CB w B a ov pa (.slice p m c)) :
  Calls Tryz.prog 95 #[.pointer (some ⟨B,10,none⟩)] w fun e w'=>e=.returned (.int .i64 (m:Int))/\w'=w:=by
 have c2:w.cell? ⟨B,11,none⟩=some (.slice p m c):=tag_cell h 11 _ rfl
 clear h
 go_enter Tryz.func95,Tryz.ntmps95
 go_wp2_with fail
 go_ret
 exact⟨rfl,rfl⟩
theorem creset_any (w:World) (B:Nat) (a:Nat->Value) (ov pa bv:Value)(h:CB w B a ov pa bv) :
  Calls Tryz.prog 96 #[.pointer (some ⟨B,10,none⟩)] w fun e w'=>e=.returned (.tuple #[])/\w'=(w.setCell ⟨B,10,none⟩ (.pointer none)).setCell ⟨B,11,none⟩ (.slice none 0 0):=by
 have c1:w.cell? ⟨B,10,none⟩=some pa:=tag_cell h 10 _ rfl
 have c2:w.cell? ⟨B,11,none⟩=some bv:=tag_cell h 11 _ rfl
 have f1:=tag_free h 10
 have f2:=tag_free h 11
 clear h
 go_enter Tryz.func96,Tryz.ntmps96
 go_wp2_with fail
 go_end0
 exact⟨rfl,rfl⟩
theorem liesCleaner:liesAt Tryz.prog Tryz.prog.depth 61 (12 / Tryz.prog.cellsOf 61) 10 59 1=true:=by kernel_rfl
theorem cb_shape {w:World}{B:Nat}{a:Nat->Value}{ov pa bv:Value}(h:CB w B a ov pa bv):w.shape? B=some (61,12):=by
 unfold CB at h
 simp[World.shape?,h]
set_option maxRecDepth 100000 in
theorem ccheck_used (w:World) (B:Nat) (a:Nat->Value) (ov bv:Value)(h:CB w B a ov (.pointer (some ⟨B,10,none⟩)) bv) :
  Calls Tryz.prog 127 #[.pointer (some ⟨B,10,none⟩)] w fun e w'=>e=.returned (.tuple #[])/\w'=w:=by
 obtain⟨j,hj,_⟩:=Option.map_eq_some_iff.1 sizeBuilder
 have c1:w.cell? ⟨B,10,none⟩=some (.pointer (some ⟨B,10,none⟩)):=tag_cell h 10 _ rfl
 clear h
 go_enter Tryz.func127,Tryz.ntmps127
 go_wp2_with fail
 rw[Lib.run_neq_ptr_same w _ Tryz.underlying57 hj]
 go_wp2
 go_end0
 exact⟨rfl,rfl⟩
set_option maxRecDepth 100000 in
theorem ccheck_none (w:World) (B:Nat) (a:Nat->Value) (ov bv:Value)(h:CB w B a ov (.pointer none) bv) :
  Calls Tryz.prog 127 #[.pointer (some ⟨B,10,none⟩)] w fun e w'=>e=.returned (.tuple #[])/\w'=w.setCell ⟨B,10,none⟩ (.pointer (some ⟨B,10,none⟩)):=by
 obtain⟨j,hj,hjs⟩:=Option.map_eq_some_iff.1 sizeBuilder
 have hsh:=cb_shape h
 have c1:w.cell? ⟨B,10,none⟩=some (.pointer none):=tag_cell h 10 _ rfl
 have f1:=tag_free h 10
 clear h
 go_enter Tryz.func127,Tryz.ntmps127
 go_wp2_with fail
 rw[Lib.run_to_unsafe w ⟨B,10,none⟩ Tryz.underlying57 Tryz.underlying168 hj (by rw[hjs];decide) hsh (show 10 < 12 by decide)]
 simp only[Result.andThen]
 rw[Oper.upon_value]
 go_wp2_with fail
 rw[run_callFunc_extern Tryz.func175 (by kernel_rfl) (by kernel_rfl) (by kernel_rfl) (e:=Extern.AbiNoEscape.same) (by kernel_rfl)]
 rw[Lib.run_noEscape]
 simp only[Result.andThen]
 rw[Oper.upon_value]
 go_wp2_with fail
 rw[Lib.run_from_unsafe w ⟨B,10,none⟩ Tryz.underlying168 Tryz.underlying57 hj hsh liesCleaner]
 simp only[Result.andThen]
 rw[Oper.upon_value]
 go_wp2
 go_end0
 exact⟨rfl,rfl⟩
theorem cb_set {w:World}{B:Nat}{a:Nat->Value}{ov pa bv:Value}(h:CB w B a ov pa bv) (v:Value):CB (w.setCell ⟨B,10,none⟩ v) B a ov v bv/\CB (w.setCell ⟨B,11,none⟩ v) B a ov pa v:=⟨tok_set h 10 v,tok_set h 11 v⟩
theorem cstays_set {w:World}{B:Nat}{a:Nat->Value}{ov pa bv:Value}(h:CB w B a ov pa bv) (j:Nat) (v:Value):Stays w (w.setCell ⟨B,j,none⟩ v) [B]:=by
 refine⟨by simp,fun k hk hS=>Below.heap_setCell _ _ _ _ (by simpa using hS),fun k hk cs fz e=>?_⟩
 have:k=B:=by simpa using hk
 subst this
 unfold CB at h
 rw[h] at e
 simp at e
set_option maxRecDepth 100000 in
set_option maxHeartbeats 4000000 in
theorem cwrite_at (w0 w:World) (B base:Nat) (a:Nat->Value) (ov bv:Value) (l:List Value) (s:ByteArray)(hck:Calls Tryz.prog 127 #[.pointer (some ⟨B,10,none⟩)] w0 fun e w'=>e=.returned (.tuple #[])/\w'=w)(h:CB w B a ov (.pointer (some ⟨B,10,none⟩)) bv)(hown:w.ownsRow base 5 1 bv l.length l)(hl:l.length+s.size<=100000000)(hbB:base<=B) :
  Calls Tryz.prog 78 #[.pointer (some ⟨B,10,none⟩),.string s] w0 fun e w'=>e=.returned (.tuple #[.int .i64 (s.size:Int),.nilIface])/\∃ bv',CB w' B a ov (.pointer (some ⟨B,10,none⟩)) bv'/\w'.ownsRow base 5 1 bv' (l.length+s.size) (l++Lib.strCells s)/\Stays w w' (B :: blk bv)/\Below base w w':=by
 obtain⟨i0,hi,hz0,hz1,hz2⟩:=info_parts infoByte
 have HC:=hide hck
 clear hck
 obtain⟨bp,bm,bc,rfl⟩:=own_slice hown
 have c2:w.cell? ⟨B,11,none⟩=some (.slice bp bm bc):=tag_cell h 11 _ rfl
 have hBl:B < w.heap.size:=lt_of_block h
 have HB:=hide h
 have HO:=hide hown
 clear h hown
 go_enter Tryz.func78,Tryz.ntmps78
 go_wp2_with fail
 refine HC.out.mono ?_
 rintro e w1 ⟨rfl,rfl⟩
 clear HC
 go_wp2_with (at_builtin;refine Lib.wpList_append_own_string _ rfl _ _ 25 9 rfl base 5 i0 Tryz.underlying25 Tryz.underlying9 hi hz0 hz1 hz2 (.slice bp bm bc) l.length l rfl HO.out s rfl (by unfold maxLen;omega) (by omega) (by omega) ?_)
 intro v' w2 hown2 hgr2 _
 have hap:=own_apart HO.out HB.out (by decide)
 have hb2:CB w2 B a ov (.pointer (some ⟨B,10,none⟩)) (.slice bp bm bc):=(hgr2.block _ hBl (fun e=>hap e.symm)).trans HB.out
 have d2:w2.cell? ⟨B,11,none⟩=some (.slice bp bm bc):=tag_cell hb2 11 _ rfl
 have g2:=tag_free hb2 11
 obtain⟨vp,vm,vc,rfl⟩:=own_slice hown2
 have HX:Hid (CB (w2.setCell ⟨B,11,none⟩ (.slice vp vm vc)) B a ov (.pointer (some ⟨B,10,none⟩)) (.slice vp vm vc)/\(w2.setCell ⟨B,11,none⟩ (.slice vp vm vc)).ownsRow base 5 1 (.slice vp vm vc) (l.length+s.size) (l++Lib.strCells s)/\Stays w1 (w2.setCell ⟨B,11,none⟩ (.slice vp vm vc)) (B :: blk (.slice bp bm bc))/\Below base w1 (w2.setCell ⟨B,11,none⟩ (.slice vp vm vc))):=hide (by
  refine⟨(cb_set hb2 _).2,own_set hown2 hb2 (by decide) 11 _,⟨?_,?_,?_⟩,?_⟩
  ·simpa using hgr2.size
  ·intro k hk hS
   have h1:k≠B:=fun e=>hS (by rw[e];exact List.mem_cons_self ..)
   rw[Below.heap_setCell _ _ _ _ (by simpa using h1)]
   refine hgr2.block k hk fun e=>hS (List.mem_cons_of_mem _ ?_)
   unfold blk
   rw[<-e]
   simp
  ·intro k hk cs fz e
   rcases List.mem_cons.1 hk with rfl | hk
   ·have:=HB.out
    unfold CB at this
    rw[this] at e
    simp at e
   ·have h2:(Value.slice bp bm bc).ownBlock=some k:=by
     unfold blk at hk
     simpa using hk
    exact own_apart HO.out e (by decide) h2
  ·have hg:Below base w1 w2:=(Below.refl base w1).grown hgr2 (by omega) (fun j hj=>(HO.out.lt j hj).1)
   exact hg.setCell (p:=⟨B,11,none⟩) hbB _)
 clear hown2 hgr2 hap hb2 HB HO
 go_wp2_with fail
 go_ret2
 exact⟨rfl,_,HX.out⟩
def CWait (w:World) (base B:Nat) (pa bv:Value) (t:List UInt8):Prop:=(pa=.pointer none\/pa=.pointer (some ⟨B,10,none⟩))/\w.ownsRow base 5 1 bv (Lib.byteCells t).length (Lib.byteCells t)
theorem cwrite_any (w:World) (B base:Nat) (a:Nat->Value) (ov pa bv:Value) (t:List UInt8) (s:ByteArray)(h:CB w B a ov pa bv)(hw:CWait w base B pa bv t)(hl:t.length+s.size<=100000000)(hbB:base<=B) :
  Calls Tryz.prog 78 #[.pointer (some ⟨B,10,none⟩),.string s] w fun e w'=>e=.returned (.tuple #[.int .i64 (s.size:Int),.nilIface])/\∃ pa' bv',CB w' B a ov pa' bv'/\CWait w' base B pa' bv' (t++bl s)/\Stays w w' (B :: blk bv)/\Below base w w':=by
 have hlen:(Lib.byteCells t).length+s.size<=100000000:=by rw[byte_len];exact hl
 have hfin:∀ {w':World}{bv':Value},w'.ownsRow base 5 1 bv' ((Lib.byteCells t).length+s.size) (Lib.byteCells t++Lib.strCells s)->w'.ownsRow base 5 1 bv' (Lib.byteCells (t++bl s)).length (Lib.byteCells (t++bl s)):=by
  intro w' bv' h
  rw[byte_app,List.length_append,byte_len (bl s),bl_len]
  exact h
 obtain⟨hp | hp,hown⟩:=hw
 ·subst hp
  have h1:=(cb_set h (.pointer (some ⟨B,10,none⟩))).1
  refine (cwrite_at w _ B base a ov bv _ s (ccheck_none w B a ov bv h) h1 (own_set hown h (by decide) 10 _) hlen hbB).mono ?_
  rintro e w' ⟨rfl,bv',h2,h3,h4,h5⟩
  have hst:=cstays_set h 10 (.pointer (some ⟨B,10,none⟩))
  refine⟨rfl,_,bv',h2,⟨.inr rfl,hfin h3⟩,?_,((Below.refl base w).setCell (p:=⟨B,10,none⟩) hbB _).trans h5⟩
  have h6:=hst.trans h4 (by
   intro k hk hkl cs fz e
   rcases List.mem_cons.1 hk with rfl | hk
   ·unfold CB at h
    rw[h] at e
    simp at e
   ·have h2:bv.ownBlock=some k:=by
     unfold blk at hk
     simpa using hk
    exact own_apart hown e (by decide) h2)
  exact⟨h6.size,fun k hk hS=>h6.block k hk (by simpa using hS),fun k hk=>h6.attr k (by simpa using hk)⟩
 ·subst hp
  refine (cwrite_at w w B base a ov bv _ s (ccheck_used w B a ov bv h) h hown hlen hbB).mono ?_
  rintro e w' ⟨rfl,bv',h2,h3,h4,h5⟩
  exact⟨rfl,_,bv',h2,⟨.inr rfl,hfin h3⟩,h4,h5⟩
set_option maxRecDepth 100000 in
set_option maxHeartbeats 2000000 in
theorem cstring_any (w:World) (B base:Nat) (a:Nat->Value) (ov pa bv:Value) (t:List UInt8)(h:CB w B a ov pa bv)(hw:CWait w base B pa bv t)(h0:t≠[]) :
  Calls Tryz.prog 73 #[.pointer (some ⟨B,10,none⟩)] w fun e w'=>e=.returned (.string ⟨t.toArray⟩)/\CB w' B a ov pa bv/\Stays w w' (blk bv)/\Below base w w':=by
 have hown:=hw.2
 have hl0:t.length≠0:=by simpa using h0
 rw[byte_len] at hown
 obtain⟨g,cap,cur,rfl,hbg,hg,hnc,hcm,hcs,htake⟩:∃ g cap cur,bv=.slice (some ⟨g,0,none⟩) t.length cap/\base<=g/\w.heap[g]?=some (.cells cur 5 (0,0))/\t.length<=cap/\cap<=maxLen/\cur.size=cap*1/\cur.toList.take (t.length*1)=Lib.byteCells t:=by
  rcases hown.2 with⟨_,hz⟩ | ⟨g,cap,cur,hv,r⟩
  ·exact absurd hz hl0
  ·exact⟨g,cap,cur,hv,r⟩
 have c2:w.drew.cell? ⟨B,11,none⟩=some (.slice (some ⟨g,0,none⟩) t.length cap):=tag_cell h 11 _ rfl
 have hSD:(Builtin.unsafeSliceData_ #[25] 146 #[.slice (some ⟨g,0,none⟩) t.length cap]).run Tryz.prog w.drew=.ok (.pointer (some ⟨g,0,none⟩)) w.drew :=
  Lib.run_unsafeSliceData_row _ _ _ _ _ _ (by omega)
 have hUS:(Builtin.unsafeString_ #[146,3] 9 #[.pointer (some ⟨g,0,none⟩),.int .i64 t.length]).run Tryz.prog w.drew=.ok (.string ⟨t.toArray⟩) (w.drew.freeze ⟨g,0,none⟩ t.length):=by
  refine Lib.run_unsafeString_row w.drew 146 3 9 5 Tryz.underlying146 cellsByte g cur.size (by have hg':w.drew.heap[g]?=some (.cells cur 5 (0,0)):=hg;simp[World.shape?,hg']) t h0 (by omega) (by unfold maxLen at hcm;omega) ?_
  intro j x hx
  have:=hown.cells (g:=g) rfl j (.int .u8 x.toNat) (by simp[Lib.byteCells,hx])
  exact this
 have HB:=hide h
 have HO:=hide hown
 have hap:=own_apart hown h (by decide)
 have HF:Hid (CB (w.drew.freeze ⟨g,0,none⟩ t.length) B a ov pa (.slice (some ⟨g,0,none⟩) t.length cap)/\Stays w (w.drew.freeze ⟨g,0,none⟩ t.length) (blk (.slice (some ⟨g,0,none⟩) t.length cap))/\Below base w (w.drew.freeze ⟨g,0,none⟩ t.length)):=hide (by
  have hb:=Lib.below_freeze (Below.drew (Below.refl base w)) (p:=⟨g,0,none⟩) hbg t.length
  have hne:∀ k,k≠g->(w.drew.freeze ⟨g,0,none⟩ t.length).heap[k]?=w.heap[k]?:=by
   intro k hk
   unfold World.freeze
   simp only[h0,List.length_eq_zero_iff,if_false]
   show (w.heap.modify g _)[k]?=_
   rw[Array.getElem?_modify,if_neg (Ne.symm hk)]
  refine⟨(hne B (fun e=>hap (by rw[e];rfl))).trans h,⟨hb.size,fun k _ hS=>hne k (fun e=>hS (by rw[e];simp[blk,Value.ownBlock])),?_⟩,hb⟩
  intro k hk cs fz e
  have:k=g:=by simpa [blk,Value.ownBlock] using hk
  subst this
  rw[hg] at e
  simp at e)
 clear hw h hown hap hg htake hcs
 go_enter Tryz.func73,Tryz.ntmps73
 go_wp2_with fail
 go_region
 all_goals (go_wp2_with fail;go_ret;exact⟨rfl,HF.out⟩)
end Go.Proofs.YtkiofbikkhhdfaaGreatDoor.Dm
