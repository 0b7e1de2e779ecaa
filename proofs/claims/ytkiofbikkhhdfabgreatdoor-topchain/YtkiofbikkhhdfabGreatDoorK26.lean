import Derived.Test.YtkiofbikkhhdfabGreatDoorK18
import Derived.Test.YtkiofbikkhhdfabGreatDoorRaw
import Derived.Test.YtkiofbikkhhdfabGreatDoorK04
import Derived.Test.YtkiofbikkhhdfabGreatDoorK14
import Derived.Deep.RegionHeld3
import Derived.Laws.EntriesVeiled
import Derived.Test.YtkiofbikkhhdfabGreatDoorK12
set_option maxRecDepth 100000
set_option maxHeartbeats 64000000
namespace Go.Proofs.YtkiofbikkhhdfabGreatDoor
open Go.RowKit
open Utf1 Pol8
theorem pdropped_any (n:ByteArray) (w:World) :
  Calls Tryz.prog 68 #[.string n] w fun e w'=>e=.returned (.bool (San.dropB (bl n)))/\w'=w:=by
 have C0:=hide (Dm.raw_any n)
 obtain⟨R,hR⟩:∃ R,R=San.dropB (bl n):=⟨_,rfl⟩
 rw[<-hR]
 unfold San.dropB at hR
 have g0:=eq_lit n [101,109,98,101,100]
 by_cases h0:bl n=[101,109,98,101,100]
 ·rw[decide_eq_true h0] at g0
  have HR:Hid (R=true):=hide (by rw[hR,decide_eq_true (show bl n∈San.dropL by rw[h0];decide),Bool.or_true])
  clear hR C0 h0
  go_enter Tryz.func68,Tryz.ntmps68
  go_wp2_with fail
  go_ret
  rw[HR.out]
  exact⟨rfl,rfl⟩
 rw[decide_eq_false h0] at g0
 have g1:=eq_lit n [102,111,114,109]
 by_cases h1:bl n=[102,111,114,109]
 ·rw[decide_eq_true h1] at g1
  have HR:Hid (R=true):=hide (by rw[hR,decide_eq_true (show bl n∈San.dropL by rw[h1];decide),Bool.or_true])
  clear hR C0 h0 h1
  go_enter Tryz.func68,Tryz.ntmps68
  go_wp2_with fail
  go_ret
  rw[HR.out]
  exact⟨rfl,rfl⟩
 rw[decide_eq_false h1] at g1
 have g2:=eq_lit n [109,97,116,104]
 by_cases h2:bl n=[109,97,116,104]
 ·rw[decide_eq_true h2] at g2
  have HR:Hid (R=true):=hide (by rw[hR,decide_eq_true (show bl n∈San.dropL by rw[h2];decide),Bool.or_true])
  clear hR C0 h0 h1 h2
  go_enter Tryz.func68,Tryz.ntmps68
  go_wp2_with fail
  go_ret
  rw[HR.out]
  exact⟨rfl,rfl⟩
 rw[decide_eq_false h2] at g2
 have g3:=eq_lit n [111,98,106,101,99,116]
 by_cases h3:bl n=[111,98,106,101,99,116]
 ·rw[decide_eq_true h3] at g3
  have HR:Hid (R=true):=hide (by rw[hR,decide_eq_true (show bl n∈San.dropL by rw[h3];decide),Bool.or_true])
  clear hR C0 h0 h1 h2 h3
  go_enter Tryz.func68,Tryz.ntmps68
  go_wp2_with fail
  go_ret
  rw[HR.out]
  exact⟨rfl,rfl⟩
 rw[decide_eq_false h3] at g3
 have g4:=eq_lit n [115,101,108,101,99,116]
 by_cases h4:bl n=[115,101,108,101,99,116]
 ·rw[decide_eq_true h4] at g4
  have HR:Hid (R=true):=hide (by rw[hR,decide_eq_true (show bl n∈San.dropL by rw[h4];decide),Bool.or_true])
  clear hR C0 h0 h1 h2 h3 h4
  go_enter Tryz.func68,Tryz.ntmps68
  go_wp2_with fail
  go_ret
  rw[HR.out]
  exact⟨rfl,rfl⟩
 rw[decide_eq_false h4] at g4
 have g5:=eq_lit n [115,118,103]
 by_cases h5:bl n=[115,118,103]
 ·rw[decide_eq_true h5] at g5
  have HR:Hid (R=true):=hide (by rw[hR,decide_eq_true (show bl n∈San.dropL by rw[h5];decide),Bool.or_true])
  clear hR C0 h0 h1 h2 h3 h4 h5
  go_enter Tryz.func68,Tryz.ntmps68
  go_wp2_with fail
  go_ret
  rw[HR.out]
  exact⟨rfl,rfl⟩
 rw[decide_eq_false h5] at g5
 have g6:=eq_lit n [116,101,109,112,108,97,116,101]
 by_cases h6:bl n=[116,101,109,112,108,97,116,101]
 ·rw[decide_eq_true h6] at g6
  have HR:Hid (R=true):=hide (by rw[hR,decide_eq_true (show bl n∈San.dropL by rw[h6];decide),Bool.or_true])
  clear hR C0 h0 h1 h2 h3 h4 h5 h6
  go_enter Tryz.func68,Tryz.ntmps68
  go_wp2_with fail
  go_ret
  rw[HR.out]
  exact⟨rfl,rfl⟩
 rw[decide_eq_false h6] at g6
 have g7:=eq_lit n [110,111,115,99,114,105,112,116]
 by_cases h7:bl n=[110,111,115,99,114,105,112,116]
 ·rw[decide_eq_true h7] at g7
  have HR:Hid (R=true):=hide (by rw[hR,decide_eq_true (show bl n∈San.dropL by rw[h7];decide),Bool.or_true])
  clear hR C0 h0 h1 h2 h3 h4 h5 h6 h7
  go_enter Tryz.func68,Tryz.ntmps68
  go_wp2_with fail
  go_ret
  rw[HR.out]
  exact⟨rfl,rfl⟩
 rw[decide_eq_false h7] at g7
 have g8:=eq_lit n [102,114,97,109,101,115,101,116]
 by_cases h8:bl n=[102,114,97,109,101,115,101,116]
 ·rw[decide_eq_true h8] at g8
  have HR:Hid (R=true):=hide (by rw[hR,decide_eq_true (show bl n∈San.dropL by rw[h8];decide),Bool.or_true])
  clear hR C0 h0 h1 h2 h3 h4 h5 h6 h7 h8
  go_enter Tryz.func68,Tryz.ntmps68
  go_wp2_with fail
  go_ret
  rw[HR.out]
  exact⟨rfl,rfl⟩
 rw[decide_eq_false h8] at g8
 have HR:Hid (R=(rawOf (bl n)).isSome):=hide (by
  rw[hR,decide_eq_false,Bool.or_false]
  simp only[San.dropL,List.mem_cons,List.not_mem_nil,or_false,not_or]
  exact⟨h0,h1,h2,h3,h4,h5,h6,h7,h8⟩)
 clear h0 h1 h2 h3 h4 h5 h6 h7 h8 hR
 generalize (rawOf (bl n)).getD false=g at C0
 generalize (rawOf (bl n)).isSome=r1 at C0 HR
 go_enter Tryz.func68,Tryz.ntmps68
 go_wp2_with fail
 refine (C0.out _).mono ?_
 rintro e w1 ⟨rfl,rfl⟩
 clear C0
 go_wp2_with fail
 go_ret
 rw[HR.out]
 exact⟨rfl,rfl⟩
end Go.Proofs.YtkiofbikkhhdfabGreatDoor
namespace Go.Proofs.YtkiofbikkhhdfabGreatDoor
open Go.RowKit
open Utf1 Pol8
def BoxQ (w:World) (A B:Array Value) (wx:World):Prop:=wx.heap[w.heap.size]?=some (.cells A 24 (0,0))/\wx.heap[w.heap.size+1]?=some (.cells B 24 (0,0))/\Below w.heap.size w wx
theorem BoxQ.keep {w wx wy:World}{A B:Array Value}(h:BoxQ w A B wx)(hb:Below wx.heap.size wx wy):BoxQ w A B wy :=
 ⟨(hb.block _ (Array.getElem?_eq_some_iff.1 h.1).1).trans h.1,(hb.block _ (Array.getElem?_eq_some_iff.1 h.2.1).1).trans h.2.1,h.2.2.trans (hb.mono h.2.2.size)⟩
theorem BoxQ.a {w wx:World}{A B:Array Value}(h:BoxQ w A B wx) (i:Nat) (v:Value)(hv:A[i]?=some v):wx.cell? ⟨w.heap.size,i,none⟩=some v:=tag_cell h.1 i v hv
theorem BoxQ.b {w wx:World}{A B:Array Value}(h:BoxQ w A B wx) (i:Nat) (v:Value)(hv:B[i]?=some v):wx.cell? ⟨w.heap.size+1,i,none⟩=some v:=tag_cell h.2.1 i v hv
theorem BoxQ.new (w:World) (A B:Array Value):BoxQ w A B ((w.alloc (.cells A 24)).alloc (.cells B 24)):=by
 have s1:(w.alloc (.cells A 24)).heap.size=w.heap.size+1:=by simp
 have k2:=new_block (w.alloc (.cells A 24)) B 24
 rw[s1] at k2
 refine⟨?_,k2,bel_alloc (bel_alloc (Below.refl _ _) _) _⟩
 rw[Below.heap_alloc _ _ _ (by rw[s1];omega)]
 exact new_block _ _ _
end Go.Proofs.YtkiofbikkhhdfabGreatDoor
namespace Go.Proofs.YtkiofbikkhhdfabGreatDoor
open Go.RowKit
open Utf1 Pol8
theorem wpAnyH_to {P:Program}{ops:Array Oper}{Q:Exit->Act->World->Prop}{md:Region.Mode}{S:World->Prop}{i:Nat}{oi:Oper}{v:Value}{fuel:Nat}{listed:Array Bool}{a a1:Act}{w:World}(hi:ops[i]?=some oi)
  (hs:Region.noSelect ops=true)(hf:Region.free md ops listed i=true)(hr:(Region.ready md ops listed).contains i=true)
  (hQ:∀ c a w,Q (.panic c) (a.put oi.dst v) w->Q (.panic c) a w)(hy:YieldsIf P ops S oi v a)(hS:S w)(ha:a.put oi.dst v=a1)
  (h:wpAnyH P md ops Q S fuel (listed.setIfInBounds i true) a1 w):wpAnyH P md ops Q S (fuel+1) listed a w:=by
 subst ha
 exact wpAnyH_take hi hs hf hr hQ hy hS h
theorem wpAnyH_ton {P:Program}{ops:Array Oper}{Q:Exit->Act->World->Prop}{md:Region.Mode}{S:World->Prop}(i:Nat) {oi:Oper}{fuel:Nat}{listed:Array Bool}{a a1:Act}{w:World}(hi:ops[i]?=some oi)
  (h:wpAnyH P md ops Q S fuel (listed.setIfInBounds i true) a1 w)(hwd:Region.wanted oi (yielded ops a.tmps)=false:=by rfl)(hs:Region.noSelect ops=true:=by kernel_rfl)(hf:Region.free md ops listed i=true:=by kernel_rfl)(hr:(Region.ready md ops listed).contains i=true:=by kernel_rfl)
  (ha:a.put oi.dst undef=a1:=by (go_simp;exact rfl))(hQ:∀ c a w,Q (.panic c) (a.put oi.dst undef) w->Q (.panic c) a w:=by exact fun _ _ _ h=>h)(hS:S w:=by assumption):wpAnyH P md ops Q S (fuel+1) listed a w:=wpAnyH_to hi hs hf hr hQ (Or.inr ⟨hwd,rfl⟩) hS ha h
theorem wpAnyH_top {P:Program}{ops:Array Oper}{Q:Exit->Act->World->Prop}{md:Region.Mode}{S:World->Prop}(i:Nat) {oi:Oper}{v:Value}{fuel:Nat}{listed:Array Bool}{a a1:Act}{w:World}(hi:ops[i]?=some oi)
  (h:wpAnyH P md ops Q S fuel (listed.setIfInBounds i true) a1 w)(hwd:Region.wanted oi (yielded ops a.tmps)=true:=by rfl)(hs:Region.noSelect ops=true:=by kernel_rfl)(hf:Region.free md ops listed i=true:=by kernel_rfl)(hr:(Region.ready md ops listed).contains i=true:=by kernel_rfl)
  (hy:∀ w,S w->(execOp a.eval oi).run P w=.ok (.value v) w:=by (intro w hSw;(try dsimp only at hSw);go_simp;try (with_reducible rfl)))(ha:a.put oi.dst v=a1:=by (go_simp;exact rfl))
  (hQ:∀ c a w,Q (.panic c) (a.put oi.dst v) w->Q (.panic c) a w:=by exact fun _ _ _ h=>h)(hS:S w:=by assumption):wpAnyH P md ops Q S (fuel+1) listed a w:=wpAnyH_to hi hs hf hr hQ (Or.inl ⟨hwd,hy⟩) hS ha h
def stF (l:List L) (x:L):Bool:=inL l x || inL l (star x)
theorem pstays_any (Bv B:Nat) (l:List L) (x:ByteArray)(hx:x.size<=100000) (w:World)(hb:w.heap[Bv]?=some (.cells #[inV B] 49 (0,0)))(hq:InQ B l w) :
  Calls Tryz.prog 39 #[.string x,.pointer (some ⟨Bv,0,none⟩)] w fun e w'=>e=.returned (.bool (stF l (bl x)))/\Below w.heap.size w w':=by
 obtain⟨X2,hX2⟩:∃ X2:ByteArray,X2=⟨(star (bl x)).toArray⟩:=⟨_,rfl⟩
 obtain⟨t1,ht1⟩:∃ t,t=inL l (bl x):=⟨_,rfl⟩
 obtain⟨t2,ht2⟩:∃ t,t=inL l (bl X2):=⟨_,rfl⟩
 obtain⟨R,hR⟩:∃ R,R=stF l (bl x):=⟨_,rfl⟩
 rw[<-hR]
 have HAL:Hid (R=(t1 || t2)):=hide (by rw[hR,ht1,ht2,hX2];rfl)
 have C1:Hid (∀ wx,Below w.heap.size w wx->Calls Tryz.prog 76 #[.string x,.pointer (some ⟨B,0,none⟩)] wx fun e w'=>e=.returned (.bool t1)/\Below w.heap.size w w'):=hide (fun wx h=>by rw[ht1];exact (hq wx x h).mono fun _ _ ⟨h1,h2⟩=>⟨h1,h2 ▸ h⟩)
 have C2:Hid (∀ wx,Below w.heap.size w wx->Calls Tryz.prog 76 #[.string X2,.pointer (some ⟨B,0,none⟩)] wx fun e w'=>e=.returned (.bool t2)/\Below w.heap.size w w'):=hide (fun wx h=>by rw[ht2];exact (hq wx X2 h).mono fun _ _ ⟨h1,h2⟩=>⟨h1,h2 ▸ h⟩)
 have C3:Hid (∀ wx,Below w.heap.size w wx->Calls Tryz.prog 40 #[.string x] wx fun e w'=>e=.returned (.string X2)/\Below w.heap.size w w'):=hide (fun wx h=>by rw[hX2];exact (pofAll_any x hx wx).mono fun _ _ ⟨h1,h2⟩=>⟨h1,bel2 h h2⟩)
 have SK:Hid (∀ wx,Below w.heap.size w wx->wx.cell? ⟨Bv,0,none⟩=some (inV B)/\Hid (Below w.heap.size w wx)):=hide (fun wx h=>⟨tag_cell ((h.block _ (Array.getElem?_eq_some_iff.1 hb).1).trans hb) 0 _ rfl,hide h⟩)
 have SB:Hid (∀ wx,(wx.cell? ⟨Bv,0,none⟩=some (inV B)/\Hid (Below w.heap.size w wx))->Below w.heap.size w wx):=hide (fun wx h=>h.2.out)
 clear hb hq hR ht1 ht2 hX2 hx
 cases t1 with
 | true =>
  have HR:Hid (R=true):=hide (by rw[HAL.out];rfl)
  clear HAL C2 C3
  go_enter Tryz.func39,Tryz.ntmps39
  go_wp2_with fail
  refine wp_region_held_drew (S:=(fun wx=>wx.cell? ⟨Bv,0,none⟩=some (inV B)/\Hid (Below w.heap.size w wx))) (by kernel_rfl) (SK.out _ ((Below.refl _ _).drew)) (fun hHeld=>?_)
  refine wpAnyH_top 0 rfl ?_
  refine wpAnyH_top 1 rfl ?_
  refine wpAnyH_ready (rs:=[2]) (by kernel_rfl) (by simp) ?_
  refine AllReadyH.cons rfl (fun K hK=>?_) AllReadyH.nil
  go_simp
  refine (C1.out _ (SB.out _ (by assumption))).mono ?_
  rintro e w6 ⟨rfl,h6⟩
  try go_wp2_with fail
  refine hK.out _ _ (SK.out _ (by assumption)) (fun hHeld2=>?_)
  clear hK K hHeld
  have hHeld:=hHeld2
  clear hHeld2
  refine wpAnyH_top 3 rfl ?_
  refine wpAnyH_ton 4 rfl ?_
  refine wpAnyH_ton 5 rfl ?_
  refine wpAnyH_ton 6 rfl ?_
  refine wpAnyH_ton 7 rfl ?_
  refine wpAnyH_top 8 rfl ?_
  refine wpAnyH_top 9 rfl ?_
  refine wpAnyH_done (by kernel_rfl) ?_ _
  have H7:=hide (SB.out _ (by assumption))
  clear C1 SK SB
  go_wp2_with fail
  go_ret
  rw[HR.out]
  exact⟨rfl,H7.out⟩
 | false =>
  have HR:Hid (R=t2):=hide (by rw[HAL.out];rfl)
  clear HAL
  cases t2
  all_goals
   go_enter Tryz.func39,Tryz.ntmps39
   go_wp2_with fail
   go_region_held3 (fun wx=>wx.cell? ⟨Bv,0,none⟩=some (inV B)/\Hid (Below w.heap.size w wx))
    (first | exact SK.out _ ((Below.refl _ _).drew) | exact SK.out _ (by assumption))
    (first
     | (go_at_call 76;first | (refine (C1.out _ (SB.out _ (by assumption))).mono ?_;rintro e w6 ⟨rfl,h6⟩) | (refine (C2.out _ (SB.out _ (by assumption))).mono ?_;rintro e w6 ⟨rfl,h6⟩))
     | (go_at_call 40;refine (C3.out _ (SB.out _ (by assumption))).mono ?_;rintro e w6 ⟨rfl,h6⟩))
   all_goals
    have H7:=hide (SB.out _ (by assumption))
    clear C1 C2 C3 SK SB
    go_wp2_with fail
    go_ret
    rw[HR.out]
    exact⟨rfl,H7.out⟩
theorem tells_st (Bv B:Nat) (l:List L) (w:World)(hb:w.heap[Bv]?=some (.cells #[inV B] 49 (0,0)))(hq:InQ B l w):Tells 39 #[.pointer (some ⟨Bv,0,none⟩)] (stF l) w:=by
 intro W x hx hbb
 rw[show (#[.string x]++#[.pointer (some ⟨Bv,0,none⟩)]:Array Value)=#[.string x,.pointer (some ⟨Bv,0,none⟩)] by simp]
 exact pstays_any Bv B l x hx W ((hbb.block _ (Array.getElem?_eq_some_iff.1 hb).1).trans hb) (hq.later hbb)
theorem ent_st:∀ args w,(callFunc 39 args).run Tryz.prog w=.ok (.enter 39 args) w:=enters_of Tryz.func39 (by kernel_rfl) rfl
end Go.Proofs.YtkiofbikkhhdfabGreatDoor
namespace Go.Proofs.YtkiofbikkhhdfabGreatDoor
open Go.RowKit
open Utf1 Pol8

def BoxS (w:World) (A B:Array Value) (N B0:Nat) (l:List L) (wx:World):Prop:=BoxQ w A B wx/\wx.heap[N]?=some (.cells #[inV B0] 49 (0,0))/\InQ B0 l wx
theorem BoxS.keep {w wx wy:World}{A B:Array Value}{N B0:Nat}{l:List L}(h:BoxS w A B N B0 l wx)(hb:Below wx.heap.size wx wy):BoxS w A B N B0 l wy :=
 ⟨h.1.keep hb,(hb.block _ (Array.getElem?_eq_some_iff.1 h.2.1).1).trans h.2.1,h.2.2.later hb⟩
theorem hto {P:Program}{ops:Array Oper}{Q:Exit->Act->World->Prop}{md:Region.Mode}{S:World->Prop}(i:Nat) {oi:Oper}{v:Value}{fuel:Nat}{listed:Array Bool}{a a1:Act}{w:World}(hi:ops[i]?=some oi)(hy:∀ w,S w->(execOp a.eval oi).run P w=.ok (.value v) w)(ha:a.put oi.dst v=a1)
  (h:wpAnyH P md ops Q S fuel (listed.setIfInBounds i true) a1 w)(hwd:Region.wanted oi (yielded ops a.tmps)=true:=by rfl)(hs:Region.noSelect ops=true:=by kernel_rfl)(hf:Region.free md ops listed i=true:=by kernel_rfl)(hr:(Region.ready md ops listed).contains i=true:=by kernel_rfl)
  (hQ:∀ c a w,Q (.panic c) (a.put oi.dst v) w->Q (.panic c) a w:=by exact fun _ _ _ h=>h)(hS:S w:=by assumption):wpAnyH P md ops Q S (fuel+1) listed a w:=wpAnyH_to hi hs hf hr hQ (Or.inl ⟨hwd,hy⟩) hS ha h
theorem htp {P:Program}{ops:Array Oper}{Q:Exit->Act->World->Prop}{md:Region.Mode}{S:World->Prop}(i:Nat) {oi:Oper}{v:Value}{fuel:Nat}{listed:Array Bool}{a a1:Act}{w:World}(hi:ops[i]?=some oi)
  (h:wpAnyH P md ops Q S fuel (listed.setIfInBounds i true) a1 w)(hwd:Region.wanted oi (yielded ops a.tmps)=true:=by rfl)(hs:Region.noSelect ops=true:=by kernel_rfl)(hf:Region.free md ops listed i=true:=by kernel_rfl)(hr:(Region.ready md ops listed).contains i=true:=by kernel_rfl)
  (hy:∀ w,S w->(execOp a.eval oi).run P w=.ok (.value v) w:=by (intro w hSw;(try dsimp only at hSw);go_simp;try (with_reducible rfl)))(ha:a.put oi.dst v=a1:=by (go_simp;exact rfl))
  (hQ:∀ c a w,Q (.panic c) (a.put oi.dst v) w->Q (.panic c) a w:=by exact fun _ _ _ h=>h)(hS:S w:=by assumption):wpAnyH P md ops Q S (fuel+1) listed a w:=hto i hi hy ha h hwd hs hf hr hQ hS
theorem hno {P:Program}{ops:Array Oper}{Q:Exit->Act->World->Prop}{md:Region.Mode}{S:World->Prop}(i:Nat) {oi:Oper}{fuel:Nat}{listed:Array Bool}{a a1:Act}{w:World}(hi:ops[i]?=some oi)(ha:a.put oi.dst undef=a1)
  (h:wpAnyH P md ops Q S fuel (listed.setIfInBounds i true) a1 w)(hwd:Region.wanted oi (yielded ops a.tmps)=false:=by rfl)(hs:Region.noSelect ops=true:=by kernel_rfl)(hf:Region.free md ops listed i=true:=by kernel_rfl)(hr:(Region.ready md ops listed).contains i=true:=by kernel_rfl)
  (hQ:∀ c a w,Q (.panic c) (a.put oi.dst undef) w->Q (.panic c) a w:=by exact fun _ _ _ h=>h)(hS:S w:=by assumption):wpAnyH P md ops Q S (fuel+1) listed a w:=wpAnyH_to hi hs hf hr hQ (Or.inr ⟨hwd,rfl⟩) hS ha h
theorem hnp {P:Program}{ops:Array Oper}{Q:Exit->Act->World->Prop}{md:Region.Mode}{S:World->Prop}(i:Nat) {oi:Oper}{fuel:Nat}{listed:Array Bool}{a a1:Act}{w:World}(hi:ops[i]?=some oi)
  (h:wpAnyH P md ops Q S fuel (listed.setIfInBounds i true) a1 w)(hwd:Region.wanted oi (yielded ops a.tmps)=false:=by rfl)(hs:Region.noSelect ops=true:=by kernel_rfl)(hf:Region.free md ops listed i=true:=by kernel_rfl)(hr:(Region.ready md ops listed).contains i=true:=by kernel_rfl)
  (ha:a.put oi.dst undef=a1:=by (go_simp;exact rfl))(hQ:∀ c a w,Q (.panic c) (a.put oi.dst undef) w->Q (.panic c) a w:=by exact fun _ _ _ h=>h)(hS:S w:=by assumption):wpAnyH P md ops Q S (fuel+1) listed a w:=hno i hi ha h hwd hs hf hr hQ hS
theorem if3 {β:Type}(f:Bool->β) (a6 c6 a7 c7 a8 c8:Int):(if a6=c6 then (if a7=c7 then (if a8=c8 then f true else f false) else f false) else f false)=f ((a6==c6) && ((a7==c7) && (a8==c8))):=by
 by_cases h6:a6=c6
 ·by_cases h7:a7=c7
  ·by_cases h8:a8=c8
   ·rw[if_pos h6,if_pos h7,if_pos h8,h6,h7,h8]
    simp
   ·rw[if_pos h6,if_pos h7,if_neg h8,beq_eq_false_iff_ne.2 h8]
    simp
  ·rw[if_pos h6,if_neg h7,beq_eq_false_iff_ne.2 h7]
   simp
 ·rw[if_neg h6,beq_eq_false_iff_ne.2 h6]
  simp
def capLe (a6 a7 a8 b6 b7 b8:Int):Bool:=decide (a6<=b6/\a7<=b7/\a8<=b8)
theorem capLe_is (a6 a7 a8 b6 b7 b8:Int):capLe a6 a7 a8 b6 b7 b8=((a6==min a6 b6) && ((a7==min a7 b7) && (a8==min a8 b8))):=by
 unfold capLe
 apply Bool.eq_iff_iff.2
 simp only[decide_eq_true_eq,Bool.and_eq_true,beq_iff_eq]
 omega
def allF (f:L->Bool) (l:List L):Bool:=l.all f
theorem strict_prog (p q:Pol):stricter p q=(allF (inL q.el) p.el && (allF (stF q.at_) p.at_ && (allF (inL q.sc) p.sc && (allF (inL q.cl) p.cl && (allF (inL q.pr) p.pr && capLe p.dp p.nd p.bt q.dp q.nd q.bt))))):=by
 apply Bool.eq_iff_iff.2
 unfold stricter sub allF stF inL capLe
 simp only[Bool.and_eq_true,decide_eq_true_eq,List.all_eq_true,Bool.or_eq_true]
 constructor
 ·rintro ⟨h1,h2,h3⟩
  exact⟨h2,h1,h3⟩
 ·rintro ⟨h2,h1,h3⟩
  exact⟨h1,h2,h3⟩

theorem pstrict_any:StricterC:=by
 intro v1 v2 v3 v4 v5 u1 u2 u3 u4 u5 p q l1 l2 l3 l4 l5 m1 m2 m3 m4 m5 w hv hu hf hg
 obtain⟨f1,z1⟩:=fits_of hf (by simp) hv.e1
 obtain⟨g1,-⟩:=fits_of hg (by simp) hu.e1
 obtain⟨f2,z2⟩:=fits_of hf (by simp) hv.e2
 obtain⟨g2,-⟩:=fits_of hg (by simp) hu.e2
 obtain⟨f3,z3⟩:=fits_of hf (by simp) hv.e3
 obtain⟨g3,-⟩:=fits_of hg (by simp) hu.e3
 obtain⟨f4,z4⟩:=fits_of hf (by simp) hv.e4
 obtain⟨g4,-⟩:=fits_of hg (by simp) hu.e4
 obtain⟨f5,z5⟩:=fits_of hf (by simp) hv.e5
 obtain⟨g5,-⟩:=fits_of hg (by simp) hu.e5
 obtain⟨R,hR⟩:∃ R,R=stricter p q:=⟨_,rfl⟩
 rw[<-hR]
 have HAL:Hid (R=(allF (inL (m1.map bl)) (l1.map bl) && (allF (stF (m2.map bl)) (l2.map bl) && (allF (inL (m3.map bl)) (l3.map bl) && (allF (inL (m4.map bl)) (l4.map bl) && (allF (inL (m5.map bl)) (l5.map bl) && ((p.dp==min p.dp q.dp) && ((p.nd==min p.nd q.nd) && (p.bt==min p.bt q.bt))))))))):=hide (by
  rw[<-capLe_is,hv.e1,hv.e2,hv.e3,hv.e4,hv.e5,hu.e1,hu.e2,hu.e3,hu.e4,hu.e5,hR]
  exact strict_prog p q)
 show Calls Tryz.prog 12 #[pvalL p.ep v1 v2 v3 v4 v5 p.dp p.nd p.bt,pvalL q.ep u1 u2 u3 u4 u5 q.dp q.nd q.bt] w _
 generalize p.ep=a0
 generalize p.dp=a6 at HAL ⊢
 generalize p.nd=a7 at HAL ⊢
 generalize p.bt=a8 at HAL ⊢
 generalize q.ep=b0
 generalize q.dp=b6 at HAL ⊢
 generalize q.nd=b7 at HAL ⊢
 generalize q.bt=b8 at HAL ⊢
 obtain⟨w1,hw1⟩:∃ w1,w1=(w.alloc (.cells #[.int .i64 a0,v1,v2,v3,v4,v5,.int .i64 a6,.int .i64 a7,.int .i64 a8] 24)).alloc (.cells #[.int .i64 b0,u1,u2,u3,u4,u5,.int .i64 b6,.int .i64 b7,.int .i64 b8] 24):=⟨_,rfl⟩
 have HN:Hid (BoxQ w #[.int .i64 a0,v1,v2,v3,v4,v5,.int .i64 a6,.int .i64 a7,.int .i64 a8] #[.int .i64 b0,u1,u2,u3,u4,u5,.int .i64 b6,.int .i64 b7,.int .i64 b8] w1):=hide (by rw[hw1];exact BoxQ.new w _ _)
 have CO:=hide (poneOf_any u2 m2 g2 w1 (hu.s2.below HN.out.2.2))
 have hmf:∀ (fn:Fn) (first cap:Array Value) (w:World),(Instr.makeFunc fn first cap).run Tryz.prog w=.ok (.func fn first cap) w:=fun _ _ _ _=>rfl
 have y2:w1.cell? ⟨w.heap.size+1,2,none⟩=some u2:=HN.out.b 2 _ rfl
 go_enter Tryz.func12,Tryz.ntmps12
 go_upto_region 1 with fail
 rw[<-hw1]
 clear hw1
 go_wp2_with fail
 refine CO.out.mono ?_
 rintro e w2 ⟨⟨B0,rfl,hq⟩,hb2⟩
 obtain⟨N,hN⟩:∃ N,N=w2.heap.size:=⟨_,rfl⟩
 obtain⟨w3,hw3⟩:∃ w3,w3=w2.alloc (.cells #[inV B0] 49):=⟨_,rfl⟩
 have hb3:Below w2.heap.size w2 w3:=by rw[hw3];exact bel_alloc (Below.refl _ _) _
 have HS:Hid (BoxS w #[.int .i64 a0,v1,v2,v3,v4,v5,.int .i64 a6,.int .i64 a7,.int .i64 a8] #[.int .i64 b0,u1,u2,u3,u4,u5,.int .i64 b6,.int .i64 b7,.int .i64 b8] N B0 (m2.map bl) w3):=hide ⟨HN.out.keep (bel2 hb2 hb3),by rw[hw3,hN];exact new_block _ _ _,hq.later hb3⟩
 have HW:=hide hw3
 clear hq hb2 hb3 y2 CO HN
 go_upto_region 3 with fail
 rw[<-hN,<-HW.out]
 clear HW hw3 hN hmf
 have SK:Hid (∀ wx,BoxS w #[.int .i64 a0,v1,v2,v3,v4,v5,.int .i64 a6,.int .i64 a7,.int .i64 a8] #[.int .i64 b0,u1,u2,u3,u4,u5,.int .i64 b6,.int .i64 b7,.int .i64 b8] N B0 (m2.map bl) wx->wx.cell? ⟨w.heap.size,0,none⟩=some (.int .i64 a0)/\wx.cell? ⟨w.heap.size,1,none⟩=some v1/\wx.cell? ⟨w.heap.size,2,none⟩=some v2/\wx.cell? ⟨w.heap.size,3,none⟩=some v3/\wx.cell? ⟨w.heap.size,4,none⟩=some v4/\wx.cell? ⟨w.heap.size,5,none⟩=some v5/\wx.cell? ⟨w.heap.size,6,none⟩=some (.int .i64 a6)/\wx.cell? ⟨w.heap.size,7,none⟩=some (.int .i64 a7)/\wx.cell? ⟨w.heap.size,8,none⟩=some (.int .i64 a8)/\wx.cell? ⟨w.heap.size+1,0,none⟩=some (.int .i64 b0)/\wx.cell? ⟨w.heap.size+1,1,none⟩=some u1/\wx.cell? ⟨w.heap.size+1,2,none⟩=some u2/\wx.cell? ⟨w.heap.size+1,3,none⟩=some u3/\wx.cell? ⟨w.heap.size+1,4,none⟩=some u4/\wx.cell? ⟨w.heap.size+1,5,none⟩=some u5/\wx.cell? ⟨w.heap.size+1,6,none⟩=some (.int .i64 b6)/\wx.cell? ⟨w.heap.size+1,7,none⟩=some (.int .i64 b7)/\wx.cell? ⟨w.heap.size+1,8,none⟩=some (.int .i64 b8)/\Hid (BoxS w #[.int .i64 a0,v1,v2,v3,v4,v5,.int .i64 a6,.int .i64 a7,.int .i64 a8] #[.int .i64 b0,u1,u2,u3,u4,u5,.int .i64 b6,.int .i64 b7,.int .i64 b8] N B0 (m2.map bl) wx)):=hide (fun wx h=>⟨h.1.a 0 _ rfl,h.1.a 1 _ rfl,h.1.a 2 _ rfl,h.1.a 3 _ rfl,h.1.a 4 _ rfl,h.1.a 5 _ rfl,h.1.a 6 _ rfl,h.1.a 7 _ rfl,h.1.a 8 _ rfl,h.1.b 0 _ rfl,h.1.b 1 _ rfl,h.1.b 2 _ rfl,h.1.b 3 _ rfl,h.1.b 4 _ rfl,h.1.b 5 _ rfl,h.1.b 6 _ rfl,h.1.b 7 _ rfl,h.1.b 8 _ rfl,hide h⟩)
 have SB:Hid (∀ wx,(wx.cell? ⟨w.heap.size,0,none⟩=some (.int .i64 a0)/\wx.cell? ⟨w.heap.size,1,none⟩=some v1/\wx.cell? ⟨w.heap.size,2,none⟩=some v2/\wx.cell? ⟨w.heap.size,3,none⟩=some v3/\wx.cell? ⟨w.heap.size,4,none⟩=some v4/\wx.cell? ⟨w.heap.size,5,none⟩=some v5/\wx.cell? ⟨w.heap.size,6,none⟩=some (.int .i64 a6)/\wx.cell? ⟨w.heap.size,7,none⟩=some (.int .i64 a7)/\wx.cell? ⟨w.heap.size,8,none⟩=some (.int .i64 a8)/\wx.cell? ⟨w.heap.size+1,0,none⟩=some (.int .i64 b0)/\wx.cell? ⟨w.heap.size+1,1,none⟩=some u1/\wx.cell? ⟨w.heap.size+1,2,none⟩=some u2/\wx.cell? ⟨w.heap.size+1,3,none⟩=some u3/\wx.cell? ⟨w.heap.size+1,4,none⟩=some u4/\wx.cell? ⟨w.heap.size+1,5,none⟩=some u5/\wx.cell? ⟨w.heap.size+1,6,none⟩=some (.int .i64 b6)/\wx.cell? ⟨w.heap.size+1,7,none⟩=some (.int .i64 b7)/\wx.cell? ⟨w.heap.size+1,8,none⟩=some (.int .i64 b8)/\Hid (BoxS w #[.int .i64 a0,v1,v2,v3,v4,v5,.int .i64 a6,.int .i64 a7,.int .i64 a8] #[.int .i64 b0,u1,u2,u3,u4,u5,.int .i64 b6,.int .i64 b7,.int .i64 b8] N B0 (m2.map bl) wx))->BoxS w #[.int .i64 a0,v1,v2,v3,v4,v5,.int .i64 a6,.int .i64 a7,.int .i64 a8] #[.int .i64 b0,u1,u2,u3,u4,u5,.int .i64 b6,.int .i64 b7,.int .i64 b8] N B0 (m2.map bl) wx):=hide (fun wx h=>h.2.2.2.2.2.2.2.2.2.2.2.2.2.2.2.2.2.2.out)
 have O1:Hid (∀ wx,BoxS w #[.int .i64 a0,v1,v2,v3,v4,v5,.int .i64 a6,.int .i64 a7,.int .i64 a8] #[.int .i64 b0,u1,u2,u3,u4,u5,.int .i64 b6,.int .i64 b7,.int .i64 b8] N B0 (m2.map bl) wx->Calls Tryz.prog 38 #[u1] wx fun e w'=>∃ B,e=.returned (inV B)/\Hid (InQ B (m1.map bl) w')/\BoxS w #[.int .i64 a0,v1,v2,v3,v4,v5,.int .i64 a6,.int .i64 a7,.int .i64 a8] #[.int .i64 b0,u1,u2,u3,u4,u5,.int .i64 b6,.int .i64 b7,.int .i64 b8] N B0 (m2.map bl) w'):=hide (fun wx h=>(poneOf_any u1 m1 g1 wx (hu.s1.below h.1.2.2)).mono fun e w' ⟨⟨B,h1,h2⟩,h3⟩=>⟨B,h1,hide h2,h.keep h3⟩)
 have E1:Hid (∀ B wx,BoxS w #[.int .i64 a0,v1,v2,v3,v4,v5,.int .i64 a6,.int .i64 a7,.int .i64 a8] #[.int .i64 b0,u1,u2,u3,u4,u5,.int .i64 b6,.int .i64 b7,.int .i64 b8] N B0 (m2.map bl) wx->Hid (InQ B (m1.map bl) wx)->Calls Tryz.prog 41 #[v1,inV B] wx fun e w'=>e=.returned (.bool (allF (inL (m1.map bl)) (l1.map bl)))/\BoxS w #[.int .i64 a0,v1,v2,v3,v4,v5,.int .i64 a6,.int .i64 a7,.int .i64 a8] #[.int .i64 b0,u1,u2,u3,u4,u5,.int .i64 b6,.int .i64 b7,.int .i64 b8] N B0 (m2.map bl) w'):=hide (fun B wx h hq=>(peach_any _ _ ent_in (inL (m1.map bl)) v1 l1 f1 z1 wx (hv.s1.below h.1.2.2) hq.out.tells).mono fun e w' ⟨h1,h2⟩=>⟨h1,h.keep h2⟩)
 have O3:Hid (∀ wx,BoxS w #[.int .i64 a0,v1,v2,v3,v4,v5,.int .i64 a6,.int .i64 a7,.int .i64 a8] #[.int .i64 b0,u1,u2,u3,u4,u5,.int .i64 b6,.int .i64 b7,.int .i64 b8] N B0 (m2.map bl) wx->Calls Tryz.prog 38 #[u3] wx fun e w'=>∃ B,e=.returned (inV B)/\Hid (InQ B (m3.map bl) w')/\BoxS w #[.int .i64 a0,v1,v2,v3,v4,v5,.int .i64 a6,.int .i64 a7,.int .i64 a8] #[.int .i64 b0,u1,u2,u3,u4,u5,.int .i64 b6,.int .i64 b7,.int .i64 b8] N B0 (m2.map bl) w'):=hide (fun wx h=>(poneOf_any u3 m3 g3 wx (hu.s3.below h.1.2.2)).mono fun e w' ⟨⟨B,h1,h2⟩,h3⟩=>⟨B,h1,hide h2,h.keep h3⟩)
 have E3:Hid (∀ B wx,BoxS w #[.int .i64 a0,v1,v2,v3,v4,v5,.int .i64 a6,.int .i64 a7,.int .i64 a8] #[.int .i64 b0,u1,u2,u3,u4,u5,.int .i64 b6,.int .i64 b7,.int .i64 b8] N B0 (m2.map bl) wx->Hid (InQ B (m3.map bl) wx)->Calls Tryz.prog 41 #[v3,inV B] wx fun e w'=>e=.returned (.bool (allF (inL (m3.map bl)) (l3.map bl)))/\BoxS w #[.int .i64 a0,v1,v2,v3,v4,v5,.int .i64 a6,.int .i64 a7,.int .i64 a8] #[.int .i64 b0,u1,u2,u3,u4,u5,.int .i64 b6,.int .i64 b7,.int .i64 b8] N B0 (m2.map bl) w'):=hide (fun B wx h hq=>(peach_any _ _ ent_in (inL (m3.map bl)) v3 l3 f3 z3 wx (hv.s3.below h.1.2.2) hq.out.tells).mono fun e w' ⟨h1,h2⟩=>⟨h1,h.keep h2⟩)
 have O4:Hid (∀ wx,BoxS w #[.int .i64 a0,v1,v2,v3,v4,v5,.int .i64 a6,.int .i64 a7,.int .i64 a8] #[.int .i64 b0,u1,u2,u3,u4,u5,.int .i64 b6,.int .i64 b7,.int .i64 b8] N B0 (m2.map bl) wx->Calls Tryz.prog 38 #[u4] wx fun e w'=>∃ B,e=.returned (inV B)/\Hid (InQ B (m4.map bl) w')/\BoxS w #[.int .i64 a0,v1,v2,v3,v4,v5,.int .i64 a6,.int .i64 a7,.int .i64 a8] #[.int .i64 b0,u1,u2,u3,u4,u5,.int .i64 b6,.int .i64 b7,.int .i64 b8] N B0 (m2.map bl) w'):=hide (fun wx h=>(poneOf_any u4 m4 g4 wx (hu.s4.below h.1.2.2)).mono fun e w' ⟨⟨B,h1,h2⟩,h3⟩=>⟨B,h1,hide h2,h.keep h3⟩)
 have E4:Hid (∀ B wx,BoxS w #[.int .i64 a0,v1,v2,v3,v4,v5,.int .i64 a6,.int .i64 a7,.int .i64 a8] #[.int .i64 b0,u1,u2,u3,u4,u5,.int .i64 b6,.int .i64 b7,.int .i64 b8] N B0 (m2.map bl) wx->Hid (InQ B (m4.map bl) wx)->Calls Tryz.prog 41 #[v4,inV B] wx fun e w'=>e=.returned (.bool (allF (inL (m4.map bl)) (l4.map bl)))/\BoxS w #[.int .i64 a0,v1,v2,v3,v4,v5,.int .i64 a6,.int .i64 a7,.int .i64 a8] #[.int .i64 b0,u1,u2,u3,u4,u5,.int .i64 b6,.int .i64 b7,.int .i64 b8] N B0 (m2.map bl) w'):=hide (fun B wx h hq=>(peach_any _ _ ent_in (inL (m4.map bl)) v4 l4 f4 z4 wx (hv.s4.below h.1.2.2) hq.out.tells).mono fun e w' ⟨h1,h2⟩=>⟨h1,h.keep h2⟩)
 have O5:Hid (∀ wx,BoxS w #[.int .i64 a0,v1,v2,v3,v4,v5,.int .i64 a6,.int .i64 a7,.int .i64 a8] #[.int .i64 b0,u1,u2,u3,u4,u5,.int .i64 b6,.int .i64 b7,.int .i64 b8] N B0 (m2.map bl) wx->Calls Tryz.prog 38 #[u5] wx fun e w'=>∃ B,e=.returned (inV B)/\Hid (InQ B (m5.map bl) w')/\BoxS w #[.int .i64 a0,v1,v2,v3,v4,v5,.int .i64 a6,.int .i64 a7,.int .i64 a8] #[.int .i64 b0,u1,u2,u3,u4,u5,.int .i64 b6,.int .i64 b7,.int .i64 b8] N B0 (m2.map bl) w'):=hide (fun wx h=>(poneOf_any u5 m5 g5 wx (hu.s5.below h.1.2.2)).mono fun e w' ⟨⟨B,h1,h2⟩,h3⟩=>⟨B,h1,hide h2,h.keep h3⟩)
 have E5:Hid (∀ B wx,BoxS w #[.int .i64 a0,v1,v2,v3,v4,v5,.int .i64 a6,.int .i64 a7,.int .i64 a8] #[.int .i64 b0,u1,u2,u3,u4,u5,.int .i64 b6,.int .i64 b7,.int .i64 b8] N B0 (m2.map bl) wx->Hid (InQ B (m5.map bl) wx)->Calls Tryz.prog 41 #[v5,inV B] wx fun e w'=>e=.returned (.bool (allF (inL (m5.map bl)) (l5.map bl)))/\BoxS w #[.int .i64 a0,v1,v2,v3,v4,v5,.int .i64 a6,.int .i64 a7,.int .i64 a8] #[.int .i64 b0,u1,u2,u3,u4,u5,.int .i64 b6,.int .i64 b7,.int .i64 b8] N B0 (m2.map bl) w'):=hide (fun B wx h hq=>(peach_any _ _ ent_in (inL (m5.map bl)) v5 l5 f5 z5 wx (hv.s5.below h.1.2.2) hq.out.tells).mono fun e w' ⟨h1,h2⟩=>⟨h1,h.keep h2⟩)
 have E2:Hid (∀ wx,BoxS w #[.int .i64 a0,v1,v2,v3,v4,v5,.int .i64 a6,.int .i64 a7,.int .i64 a8] #[.int .i64 b0,u1,u2,u3,u4,u5,.int .i64 b6,.int .i64 b7,.int .i64 b8] N B0 (m2.map bl) wx->Calls Tryz.prog 41 #[v2,.func (.func 39) #[] #[.pointer (some ⟨N,0,none⟩)]] wx fun e w'=>e=.returned (.bool (allF (stF (m2.map bl)) (l2.map bl)))/\BoxS w #[.int .i64 a0,v1,v2,v3,v4,v5,.int .i64 a6,.int .i64 a7,.int .i64 a8] #[.int .i64 b0,u1,u2,u3,u4,u5,.int .i64 b6,.int .i64 b7,.int .i64 b8] N B0 (m2.map bl) w'):=hide (fun wx h=>(peach_any _ _ ent_st (stF (m2.map bl)) v2 l2 f2 z2 wx (hv.s2.below h.1.2.2) (tells_st N B0 _ wx h.2.1 h.2.2)).mono fun e w' ⟨h1,h2⟩=>⟨h1,h.keep h2⟩)
 have K1:Hid (∀ wx,BoxS w #[.int .i64 a0,v1,v2,v3,v4,v5,.int .i64 a6,.int .i64 a7,.int .i64 a8] #[.int .i64 b0,u1,u2,u3,u4,u5,.int .i64 b6,.int .i64 b7,.int .i64 b8] N B0 (m2.map bl) wx->Calls Tryz.prog 32 #[pvalL a0 v1 v2 v3 v4 v5 a6 a7 a8] wx fun e w'=>e=.returned (capV a6 a7 a8)/\BoxS w #[.int .i64 a0,v1,v2,v3,v4,v5,.int .i64 a6,.int .i64 a7,.int .i64 a8] #[.int .i64 b0,u1,u2,u3,u4,u5,.int .i64 b6,.int .i64 b7,.int .i64 b8] N B0 (m2.map bl) w'):=hide (fun wx h=>(pcaps_any a0 v1 v2 v3 v4 v5 a6 a7 a8 wx).mono fun e w' ⟨h1,h2⟩=>⟨h1,h.keep h2⟩)
 have K2:Hid (∀ wx,BoxS w #[.int .i64 a0,v1,v2,v3,v4,v5,.int .i64 a6,.int .i64 a7,.int .i64 a8] #[.int .i64 b0,u1,u2,u3,u4,u5,.int .i64 b6,.int .i64 b7,.int .i64 b8] N B0 (m2.map bl) wx->Calls Tryz.prog 32 #[pvalL b0 u1 u2 u3 u4 u5 b6 b7 b8] wx fun e w'=>e=.returned (capV b6 b7 b8)/\BoxS w #[.int .i64 a0,v1,v2,v3,v4,v5,.int .i64 a6,.int .i64 a7,.int .i64 a8] #[.int .i64 b0,u1,u2,u3,u4,u5,.int .i64 b6,.int .i64 b7,.int .i64 b8] N B0 (m2.map bl) w'):=hide (fun wx h=>(pcaps_any b0 u1 u2 u3 u4 u5 b6 b7 b8 wx).mono fun e w' ⟨h1,h2⟩=>⟨h1,h.keep h2⟩)
 have K3:Hid (∀ wx,BoxS w #[.int .i64 a0,v1,v2,v3,v4,v5,.int .i64 a6,.int .i64 a7,.int .i64 a8] #[.int .i64 b0,u1,u2,u3,u4,u5,.int .i64 b6,.int .i64 b7,.int .i64 b8] N B0 (m2.map bl) wx->Calls Tryz.prog 42 #[capV a6 a7 a8,capV b6 b7 b8] wx fun e w'=>e=.returned (capV (min a6 b6) (min a7 b7) (min a8 b8))/\BoxS w #[.int .i64 a0,v1,v2,v3,v4,v5,.int .i64 a6,.int .i64 a7,.int .i64 a8] #[.int .i64 b0,u1,u2,u3,u4,u5,.int .i64 b6,.int .i64 b7,.int .i64 b8] N B0 (m2.map bl) w'):=hide (fun wx h=>(pmost_any a6 a7 a8 b6 b7 b8 wx).mono fun e w' ⟨h1,h2⟩=>⟨h1,h.keep h2⟩)
 clear hv hu hf hg hR f1 f2 f3 f4 f5 z1 z2 z3 z4 z5 g1 g2 g3 g4 g5
 generalize allF (inL (m1.map bl)) (l1.map bl)=t1 at E1 HAL
 generalize allF (stF (m2.map bl)) (l2.map bl)=t2 at E2 HAL
 generalize allF (inL (m3.map bl)) (l3.map bl)=t3 at E3 HAL
 generalize allF (inL (m4.map bl)) (l4.map bl)=t4 at E4 HAL
 generalize allF (inL (m5.map bl)) (l5.map bl)=t5 at E5 HAL
 generalize min a6 b6=c6 at K3 HAL
 generalize min a7 b7=c7 at K3 HAL
 generalize min a8 b8=c8 at K3 HAL
 cases t1 with
 | false =>
  have HR:Hid (R=false):=hide (by rw[HAL.out];simp)
  clear HAL
  refine wp_region_held_drew (S:=(fun wx=>wx.cell? ⟨w.heap.size,0,none⟩=some (.int .i64 a0)/\wx.cell? ⟨w.heap.size,1,none⟩=some v1/\wx.cell? ⟨w.heap.size,2,none⟩=some v2/\wx.cell? ⟨w.heap.size,3,none⟩=some v3/\wx.cell? ⟨w.heap.size,4,none⟩=some v4/\wx.cell? ⟨w.heap.size,5,none⟩=some v5/\wx.cell? ⟨w.heap.size,6,none⟩=some (.int .i64 a6)/\wx.cell? ⟨w.heap.size,7,none⟩=some (.int .i64 a7)/\wx.cell? ⟨w.heap.size,8,none⟩=some (.int .i64 a8)/\wx.cell? ⟨w.heap.size+1,0,none⟩=some (.int .i64 b0)/\wx.cell? ⟨w.heap.size+1,1,none⟩=some u1/\wx.cell? ⟨w.heap.size+1,2,none⟩=some u2/\wx.cell? ⟨w.heap.size+1,3,none⟩=some u3/\wx.cell? ⟨w.heap.size+1,4,none⟩=some u4/\wx.cell? ⟨w.heap.size+1,5,none⟩=some u5/\wx.cell? ⟨w.heap.size+1,6,none⟩=some (.int .i64 b6)/\wx.cell? ⟨w.heap.size+1,7,none⟩=some (.int .i64 b7)/\wx.cell? ⟨w.heap.size+1,8,none⟩=some (.int .i64 b8)/\Hid (BoxS w #[.int .i64 a0,v1,v2,v3,v4,v5,.int .i64 a6,.int .i64 a7,.int .i64 a8] #[.int .i64 b0,u1,u2,u3,u4,u5,.int .i64 b6,.int .i64 b7,.int .i64 b8] N B0 (m2.map bl) wx))) (by kernel_rfl) (SK.out _ (HS.out.keep ((Below.refl _ _).drew))) (fun hHeld=>?_)
  refine htp 0 rfl ?_
  refine htp 1 rfl ?_
  refine htp 2 rfl ?_
  refine htp 3 rfl ?_
  refine wpAnyH_ready (rs:=[4]) (by kernel_rfl) (by simp) ?_
  refine AllReadyH.cons rfl (fun K hK=>?_) AllReadyH.nil
  go_simp
  refine (O1.out _ (SB.out _ (by assumption))).mono ?_
  rintro e w6 ⟨Bq,rfl,HQ,h6⟩
  try go_wp2_with fail
  refine hK.out _ _ (SK.out _ (by assumption)) (fun hHeld2=>?_)
  clear hK K hHeld
  have hHeld:=hHeld2
  clear hHeld2
  refine wpAnyH_ready (rs:=[5]) (by kernel_rfl) (by simp) ?_
  refine AllReadyH.cons rfl (fun K hK=>?_) AllReadyH.nil
  go_simp
  refine (E1.out _ _ (SB.out _ (by assumption)) (by assumption)).mono ?_
  rintro e w6 ⟨rfl,h6⟩
  try go_wp2_with fail
  refine hK.out _ _ (SK.out _ (by assumption)) (fun hHeld2=>?_)
  clear hK K hHeld
  have hHeld:=hHeld2
  clear hHeld2
  refine htp 6 rfl ?_
  refine hnp 7 rfl ?_
  refine hnp 8 rfl ?_
  refine hnp 9 rfl ?_
  refine hnp 10 rfl ?_
  refine htp 11 rfl ?_
  refine htp 12 rfl ?_
  refine hnp 13 rfl ?_
  refine hnp 14 rfl ?_
  refine hnp 15 rfl ?_
  refine hnp 16 rfl ?_
  refine hnp 17 rfl ?_
  refine hnp 18 rfl ?_
  refine htp 19 rfl ?_
  refine htp 20 rfl ?_
  refine hnp 21 rfl ?_
  refine hnp 22 rfl ?_
  refine hnp 23 rfl ?_
  refine hnp 24 rfl ?_
  refine hnp 25 rfl ?_
  refine hnp 26 rfl ?_
  refine htp 27 rfl ?_
  refine htp 28 rfl ?_
  refine hnp 29 rfl ?_
  refine hnp 30 rfl ?_
  refine hnp 31 rfl ?_
  refine hnp 32 rfl ?_
  refine hnp 33 rfl ?_
  refine hnp 34 rfl ?_
  refine htp 35 rfl ?_
  refine htp 36 rfl ?_
  refine hnp 37 rfl ?_
  refine hnp 38 rfl ?_
  refine hnp 39 rfl ?_
  refine hnp 40 rfl ?_
  refine hnp 41 rfl ?_
  refine hnp 42 rfl ?_
  refine hnp 43 rfl ?_
  refine hnp 44 rfl ?_
  refine htp 45 rfl ?_
  refine htp 46 rfl ?_
  refine wpAnyH_done (by kernel_rfl) ?_ _
  have H7:=hide (SB.out _ (by assumption))
  clear O1 O3 O4 O5 E1 E2 E3 E4 E5 K1 K2 K3 SK SB
  go_wp2_with fail
  go_ret
  rw[HR.out]
  exact⟨rfl,H7.out.1.2.2⟩
 | true =>
  cases t2 with
  | false =>
   have HR:Hid (R=false):=hide (by rw[HAL.out];simp)
   clear HAL
   refine wp_region_held_drew (S:=(fun wx=>wx.cell? ⟨w.heap.size,0,none⟩=some (.int .i64 a0)/\wx.cell? ⟨w.heap.size,1,none⟩=some v1/\wx.cell? ⟨w.heap.size,2,none⟩=some v2/\wx.cell? ⟨w.heap.size,3,none⟩=some v3/\wx.cell? ⟨w.heap.size,4,none⟩=some v4/\wx.cell? ⟨w.heap.size,5,none⟩=some v5/\wx.cell? ⟨w.heap.size,6,none⟩=some (.int .i64 a6)/\wx.cell? ⟨w.heap.size,7,none⟩=some (.int .i64 a7)/\wx.cell? ⟨w.heap.size,8,none⟩=some (.int .i64 a8)/\wx.cell? ⟨w.heap.size+1,0,none⟩=some (.int .i64 b0)/\wx.cell? ⟨w.heap.size+1,1,none⟩=some u1/\wx.cell? ⟨w.heap.size+1,2,none⟩=some u2/\wx.cell? ⟨w.heap.size+1,3,none⟩=some u3/\wx.cell? ⟨w.heap.size+1,4,none⟩=some u4/\wx.cell? ⟨w.heap.size+1,5,none⟩=some u5/\wx.cell? ⟨w.heap.size+1,6,none⟩=some (.int .i64 b6)/\wx.cell? ⟨w.heap.size+1,7,none⟩=some (.int .i64 b7)/\wx.cell? ⟨w.heap.size+1,8,none⟩=some (.int .i64 b8)/\Hid (BoxS w #[.int .i64 a0,v1,v2,v3,v4,v5,.int .i64 a6,.int .i64 a7,.int .i64 a8] #[.int .i64 b0,u1,u2,u3,u4,u5,.int .i64 b6,.int .i64 b7,.int .i64 b8] N B0 (m2.map bl) wx))) (by kernel_rfl) (SK.out _ (HS.out.keep ((Below.refl _ _).drew))) (fun hHeld=>?_)
   refine htp 0 rfl ?_
   refine htp 1 rfl ?_
   refine htp 2 rfl ?_
   refine htp 3 rfl ?_
   refine wpAnyH_ready (rs:=[4]) (by kernel_rfl) (by simp) ?_
   refine AllReadyH.cons rfl (fun K hK=>?_) AllReadyH.nil
   go_simp
   refine (O1.out _ (SB.out _ (by assumption))).mono ?_
   rintro e w6 ⟨Bq,rfl,HQ,h6⟩
   try go_wp2_with fail
   refine hK.out _ _ (SK.out _ (by assumption)) (fun hHeld2=>?_)
   clear hK K hHeld
   have hHeld:=hHeld2
   clear hHeld2
   refine wpAnyH_ready (rs:=[5]) (by kernel_rfl) (by simp) ?_
   refine AllReadyH.cons rfl (fun K hK=>?_) AllReadyH.nil
   go_simp
   refine (E1.out _ _ (SB.out _ (by assumption)) (by assumption)).mono ?_
   rintro e w6 ⟨rfl,h6⟩
   try go_wp2_with fail
   refine hK.out _ _ (SK.out _ (by assumption)) (fun hHeld2=>?_)
   clear hK K hHeld
   have hHeld:=hHeld2
   clear hHeld2
   refine htp 6 rfl ?_
   refine htp 7 rfl ?_
   refine htp 8 rfl ?_
   refine htp 9 rfl ?_
   refine wpAnyH_ready (rs:=[10]) (by kernel_rfl) (by simp) ?_
   refine AllReadyH.cons rfl (fun K hK=>?_) AllReadyH.nil
   go_simp
   refine (E2.out _ (SB.out _ (by assumption))).mono ?_
   rintro e w6 ⟨rfl,h6⟩
   try go_wp2_with fail
   refine hK.out _ _ (SK.out _ (by assumption)) (fun hHeld2=>?_)
   clear hK K hHeld
   have hHeld:=hHeld2
   clear hHeld2
   refine htp 11 rfl ?_
   refine htp 12 rfl ?_
   refine hnp 13 rfl ?_
   refine hnp 14 rfl ?_
   refine hnp 15 rfl ?_
   refine hnp 16 rfl ?_
   refine hnp 17 rfl ?_
   refine hnp 18 rfl ?_
   refine htp 19 rfl ?_
   refine htp 20 rfl ?_
   refine hnp 21 rfl ?_
   refine hnp 22 rfl ?_
   refine hnp 23 rfl ?_
   refine hnp 24 rfl ?_
   refine hnp 25 rfl ?_
   refine hnp 26 rfl ?_
   refine htp 27 rfl ?_
   refine htp 28 rfl ?_
   refine hnp 29 rfl ?_
   refine hnp 30 rfl ?_
   refine hnp 31 rfl ?_
   refine hnp 32 rfl ?_
   refine hnp 33 rfl ?_
   refine hnp 34 rfl ?_
   refine htp 35 rfl ?_
   refine htp 36 rfl ?_
   refine hnp 37 rfl ?_
   refine hnp 38 rfl ?_
   refine hnp 39 rfl ?_
   refine hnp 40 rfl ?_
   refine hnp 41 rfl ?_
   refine hnp 42 rfl ?_
   refine hnp 43 rfl ?_
   refine hnp 44 rfl ?_
   refine htp 45 rfl ?_
   refine htp 46 rfl ?_
   refine wpAnyH_done (by kernel_rfl) ?_ _
   have H7:=hide (SB.out _ (by assumption))
   clear O1 O3 O4 O5 E1 E2 E3 E4 E5 K1 K2 K3 SK SB
   go_wp2_with fail
   go_ret
   rw[HR.out]
   exact⟨rfl,H7.out.1.2.2⟩
  | true =>
   cases t3 with
   | false =>
    have HR:Hid (R=false):=hide (by rw[HAL.out];simp)
    clear HAL
    refine wp_region_held_drew (S:=(fun wx=>wx.cell? ⟨w.heap.size,0,none⟩=some (.int .i64 a0)/\wx.cell? ⟨w.heap.size,1,none⟩=some v1/\wx.cell? ⟨w.heap.size,2,none⟩=some v2/\wx.cell? ⟨w.heap.size,3,none⟩=some v3/\wx.cell? ⟨w.heap.size,4,none⟩=some v4/\wx.cell? ⟨w.heap.size,5,none⟩=some v5/\wx.cell? ⟨w.heap.size,6,none⟩=some (.int .i64 a6)/\wx.cell? ⟨w.heap.size,7,none⟩=some (.int .i64 a7)/\wx.cell? ⟨w.heap.size,8,none⟩=some (.int .i64 a8)/\wx.cell? ⟨w.heap.size+1,0,none⟩=some (.int .i64 b0)/\wx.cell? ⟨w.heap.size+1,1,none⟩=some u1/\wx.cell? ⟨w.heap.size+1,2,none⟩=some u2/\wx.cell? ⟨w.heap.size+1,3,none⟩=some u3/\wx.cell? ⟨w.heap.size+1,4,none⟩=some u4/\wx.cell? ⟨w.heap.size+1,5,none⟩=some u5/\wx.cell? ⟨w.heap.size+1,6,none⟩=some (.int .i64 b6)/\wx.cell? ⟨w.heap.size+1,7,none⟩=some (.int .i64 b7)/\wx.cell? ⟨w.heap.size+1,8,none⟩=some (.int .i64 b8)/\Hid (BoxS w #[.int .i64 a0,v1,v2,v3,v4,v5,.int .i64 a6,.int .i64 a7,.int .i64 a8] #[.int .i64 b0,u1,u2,u3,u4,u5,.int .i64 b6,.int .i64 b7,.int .i64 b8] N B0 (m2.map bl) wx))) (by kernel_rfl) (SK.out _ (HS.out.keep ((Below.refl _ _).drew))) (fun hHeld=>?_)
    refine htp 0 rfl ?_
    refine htp 1 rfl ?_
    refine htp 2 rfl ?_
    refine htp 3 rfl ?_
    refine wpAnyH_ready (rs:=[4]) (by kernel_rfl) (by simp) ?_
    refine AllReadyH.cons rfl (fun K hK=>?_) AllReadyH.nil
    go_simp
    refine (O1.out _ (SB.out _ (by assumption))).mono ?_
    rintro e w6 ⟨Bq,rfl,HQ,h6⟩
    try go_wp2_with fail
    refine hK.out _ _ (SK.out _ (by assumption)) (fun hHeld2=>?_)
    clear hK K hHeld
    have hHeld:=hHeld2
    clear hHeld2
    refine wpAnyH_ready (rs:=[5]) (by kernel_rfl) (by simp) ?_
    refine AllReadyH.cons rfl (fun K hK=>?_) AllReadyH.nil
    go_simp
    refine (E1.out _ _ (SB.out _ (by assumption)) (by assumption)).mono ?_
    rintro e w6 ⟨rfl,h6⟩
    try go_wp2_with fail
    refine hK.out _ _ (SK.out _ (by assumption)) (fun hHeld2=>?_)
    clear hK K hHeld
    have hHeld:=hHeld2
    clear hHeld2
    refine htp 6 rfl ?_
    refine htp 7 rfl ?_
    refine htp 8 rfl ?_
    refine htp 9 rfl ?_
    refine wpAnyH_ready (rs:=[10]) (by kernel_rfl) (by simp) ?_
    refine AllReadyH.cons rfl (fun K hK=>?_) AllReadyH.nil
    go_simp
    refine (E2.out _ (SB.out _ (by assumption))).mono ?_
    rintro e w6 ⟨rfl,h6⟩
    try go_wp2_with fail
    refine hK.out _ _ (SK.out _ (by assumption)) (fun hHeld2=>?_)
    clear hK K hHeld
    have hHeld:=hHeld2
    clear hHeld2
    refine htp 11 rfl ?_
    refine htp 12 rfl ?_
    refine htp 13 rfl ?_
    refine htp 14 rfl ?_
    refine htp 15 rfl ?_
    refine htp 16 rfl ?_
    refine wpAnyH_ready (rs:=[17]) (by kernel_rfl) (by simp) ?_
    refine AllReadyH.cons rfl (fun K hK=>?_) AllReadyH.nil
    go_simp
    refine (O3.out _ (SB.out _ (by assumption))).mono ?_
    rintro e w6 ⟨Bq,rfl,HQ,h6⟩
    try go_wp2_with fail
    refine hK.out _ _ (SK.out _ (by assumption)) (fun hHeld2=>?_)
    clear hK K hHeld
    have hHeld:=hHeld2
    clear hHeld2
    refine wpAnyH_ready (rs:=[18]) (by kernel_rfl) (by simp) ?_
    refine AllReadyH.cons rfl (fun K hK=>?_) AllReadyH.nil
    go_simp
    refine (E3.out _ _ (SB.out _ (by assumption)) (by assumption)).mono ?_
    rintro e w6 ⟨rfl,h6⟩
    try go_wp2_with fail
    refine hK.out _ _ (SK.out _ (by assumption)) (fun hHeld2=>?_)
    clear hK K hHeld
    have hHeld:=hHeld2
    clear hHeld2
    refine htp 19 rfl ?_
    refine htp 20 rfl ?_
    refine hnp 21 rfl ?_
    refine hnp 22 rfl ?_
    refine hnp 23 rfl ?_
    refine hnp 24 rfl ?_
    refine hnp 25 rfl ?_
    refine hnp 26 rfl ?_
    refine htp 27 rfl ?_
    refine htp 28 rfl ?_
    refine hnp 29 rfl ?_
    refine hnp 30 rfl ?_
    refine hnp 31 rfl ?_
    refine hnp 32 rfl ?_
    refine hnp 33 rfl ?_
    refine hnp 34 rfl ?_
    refine htp 35 rfl ?_
    refine htp 36 rfl ?_
    refine hnp 37 rfl ?_
    refine hnp 38 rfl ?_
    refine hnp 39 rfl ?_
    refine hnp 40 rfl ?_
    refine hnp 41 rfl ?_
    refine hnp 42 rfl ?_
    refine hnp 43 rfl ?_
    refine hnp 44 rfl ?_
    refine htp 45 rfl ?_
    refine htp 46 rfl ?_
    refine wpAnyH_done (by kernel_rfl) ?_ _
    have H7:=hide (SB.out _ (by assumption))
    clear O1 O3 O4 O5 E1 E2 E3 E4 E5 K1 K2 K3 SK SB
    go_wp2_with fail
    go_ret
    rw[HR.out]
    exact⟨rfl,H7.out.1.2.2⟩
   | true =>
    cases t4 with
    | false =>
     have HR:Hid (R=false):=hide (by rw[HAL.out];simp)
     clear HAL
     refine wp_region_held_drew (S:=(fun wx=>wx.cell? ⟨w.heap.size,0,none⟩=some (.int .i64 a0)/\wx.cell? ⟨w.heap.size,1,none⟩=some v1/\wx.cell? ⟨w.heap.size,2,none⟩=some v2/\wx.cell? ⟨w.heap.size,3,none⟩=some v3/\wx.cell? ⟨w.heap.size,4,none⟩=some v4/\wx.cell? ⟨w.heap.size,5,none⟩=some v5/\wx.cell? ⟨w.heap.size,6,none⟩=some (.int .i64 a6)/\wx.cell? ⟨w.heap.size,7,none⟩=some (.int .i64 a7)/\wx.cell? ⟨w.heap.size,8,none⟩=some (.int .i64 a8)/\wx.cell? ⟨w.heap.size+1,0,none⟩=some (.int .i64 b0)/\wx.cell? ⟨w.heap.size+1,1,none⟩=some u1/\wx.cell? ⟨w.heap.size+1,2,none⟩=some u2/\wx.cell? ⟨w.heap.size+1,3,none⟩=some u3/\wx.cell? ⟨w.heap.size+1,4,none⟩=some u4/\wx.cell? ⟨w.heap.size+1,5,none⟩=some u5/\wx.cell? ⟨w.heap.size+1,6,none⟩=some (.int .i64 b6)/\wx.cell? ⟨w.heap.size+1,7,none⟩=some (.int .i64 b7)/\wx.cell? ⟨w.heap.size+1,8,none⟩=some (.int .i64 b8)/\Hid (BoxS w #[.int .i64 a0,v1,v2,v3,v4,v5,.int .i64 a6,.int .i64 a7,.int .i64 a8] #[.int .i64 b0,u1,u2,u3,u4,u5,.int .i64 b6,.int .i64 b7,.int .i64 b8] N B0 (m2.map bl) wx))) (by kernel_rfl) (SK.out _ (HS.out.keep ((Below.refl _ _).drew))) (fun hHeld=>?_)
     refine htp 0 rfl ?_
     refine htp 1 rfl ?_
     refine htp 2 rfl ?_
     refine htp 3 rfl ?_
     refine wpAnyH_ready (rs:=[4]) (by kernel_rfl) (by simp) ?_
     refine AllReadyH.cons rfl (fun K hK=>?_) AllReadyH.nil
     go_simp
     refine (O1.out _ (SB.out _ (by assumption))).mono ?_
     rintro e w6 ⟨Bq,rfl,HQ,h6⟩
     try go_wp2_with fail
     refine hK.out _ _ (SK.out _ (by assumption)) (fun hHeld2=>?_)
     clear hK K hHeld
     have hHeld:=hHeld2
     clear hHeld2
     refine wpAnyH_ready (rs:=[5]) (by kernel_rfl) (by simp) ?_
     refine AllReadyH.cons rfl (fun K hK=>?_) AllReadyH.nil
     go_simp
     refine (E1.out _ _ (SB.out _ (by assumption)) (by assumption)).mono ?_
     rintro e w6 ⟨rfl,h6⟩
     try go_wp2_with fail
     refine hK.out _ _ (SK.out _ (by assumption)) (fun hHeld2=>?_)
     clear hK K hHeld
     have hHeld:=hHeld2
     clear hHeld2
     refine htp 6 rfl ?_
     refine htp 7 rfl ?_
     refine htp 8 rfl ?_
     refine htp 9 rfl ?_
     refine wpAnyH_ready (rs:=[10]) (by kernel_rfl) (by simp) ?_
     refine AllReadyH.cons rfl (fun K hK=>?_) AllReadyH.nil
     go_simp
     refine (E2.out _ (SB.out _ (by assumption))).mono ?_
     rintro e w6 ⟨rfl,h6⟩
     try go_wp2_with fail
     refine hK.out _ _ (SK.out _ (by assumption)) (fun hHeld2=>?_)
     clear hK K hHeld
     have hHeld:=hHeld2
     clear hHeld2
     refine htp 11 rfl ?_
     refine htp 12 rfl ?_
     refine htp 13 rfl ?_
     refine htp 14 rfl ?_
     refine htp 15 rfl ?_
     refine htp 16 rfl ?_
     refine wpAnyH_ready (rs:=[17]) (by kernel_rfl) (by simp) ?_
     refine AllReadyH.cons rfl (fun K hK=>?_) AllReadyH.nil
     go_simp
     refine (O3.out _ (SB.out _ (by assumption))).mono ?_
     rintro e w6 ⟨Bq,rfl,HQ,h6⟩
     try go_wp2_with fail
     refine hK.out _ _ (SK.out _ (by assumption)) (fun hHeld2=>?_)
     clear hK K hHeld
     have hHeld:=hHeld2
     clear hHeld2
     refine wpAnyH_ready (rs:=[18]) (by kernel_rfl) (by simp) ?_
     refine AllReadyH.cons rfl (fun K hK=>?_) AllReadyH.nil
     go_simp
     refine (E3.out _ _ (SB.out _ (by assumption)) (by assumption)).mono ?_
     rintro e w6 ⟨rfl,h6⟩
     try go_wp2_with fail
     refine hK.out _ _ (SK.out _ (by assumption)) (fun hHeld2=>?_)
     clear hK K hHeld
     have hHeld:=hHeld2
     clear hHeld2
     refine htp 19 rfl ?_
     refine htp 20 rfl ?_
     refine htp 21 rfl ?_
     refine htp 22 rfl ?_
     refine htp 23 rfl ?_
     refine htp 24 rfl ?_
     refine wpAnyH_ready (rs:=[25]) (by kernel_rfl) (by simp) ?_
     refine AllReadyH.cons rfl (fun K hK=>?_) AllReadyH.nil
     go_simp
     refine (O4.out _ (SB.out _ (by assumption))).mono ?_
     rintro e w6 ⟨Bq,rfl,HQ,h6⟩
     try go_wp2_with fail
     refine hK.out _ _ (SK.out _ (by assumption)) (fun hHeld2=>?_)
     clear hK K hHeld
     have hHeld:=hHeld2
     clear hHeld2
     refine wpAnyH_ready (rs:=[26]) (by kernel_rfl) (by simp) ?_
     refine AllReadyH.cons rfl (fun K hK=>?_) AllReadyH.nil
     go_simp
     refine (E4.out _ _ (SB.out _ (by assumption)) (by assumption)).mono ?_
     rintro e w6 ⟨rfl,h6⟩
     try go_wp2_with fail
     refine hK.out _ _ (SK.out _ (by assumption)) (fun hHeld2=>?_)
     clear hK K hHeld
     have hHeld:=hHeld2
     clear hHeld2
     refine htp 27 rfl ?_
     refine htp 28 rfl ?_
     refine hnp 29 rfl ?_
     refine hnp 30 rfl ?_
     refine hnp 31 rfl ?_
     refine hnp 32 rfl ?_
     refine hnp 33 rfl ?_
     refine hnp 34 rfl ?_
     refine htp 35 rfl ?_
     refine htp 36 rfl ?_
     refine hnp 37 rfl ?_
     refine hnp 38 rfl ?_
     refine hnp 39 rfl ?_
     refine hnp 40 rfl ?_
     refine hnp 41 rfl ?_
     refine hnp 42 rfl ?_
     refine hnp 43 rfl ?_
     refine hnp 44 rfl ?_
     refine htp 45 rfl ?_
     refine htp 46 rfl ?_
     refine wpAnyH_done (by kernel_rfl) ?_ _
     have H7:=hide (SB.out _ (by assumption))
     clear O1 O3 O4 O5 E1 E2 E3 E4 E5 K1 K2 K3 SK SB
     go_wp2_with fail
     go_ret
     rw[HR.out]
     exact⟨rfl,H7.out.1.2.2⟩
    | true =>
     cases t5 with
     | false =>
      have HR:Hid (R=false):=hide (by rw[HAL.out];simp)
      clear HAL
      refine wp_region_held_drew (S:=(fun wx=>wx.cell? ⟨w.heap.size,0,none⟩=some (.int .i64 a0)/\wx.cell? ⟨w.heap.size,1,none⟩=some v1/\wx.cell? ⟨w.heap.size,2,none⟩=some v2/\wx.cell? ⟨w.heap.size,3,none⟩=some v3/\wx.cell? ⟨w.heap.size,4,none⟩=some v4/\wx.cell? ⟨w.heap.size,5,none⟩=some v5/\wx.cell? ⟨w.heap.size,6,none⟩=some (.int .i64 a6)/\wx.cell? ⟨w.heap.size,7,none⟩=some (.int .i64 a7)/\wx.cell? ⟨w.heap.size,8,none⟩=some (.int .i64 a8)/\wx.cell? ⟨w.heap.size+1,0,none⟩=some (.int .i64 b0)/\wx.cell? ⟨w.heap.size+1,1,none⟩=some u1/\wx.cell? ⟨w.heap.size+1,2,none⟩=some u2/\wx.cell? ⟨w.heap.size+1,3,none⟩=some u3/\wx.cell? ⟨w.heap.size+1,4,none⟩=some u4/\wx.cell? ⟨w.heap.size+1,5,none⟩=some u5/\wx.cell? ⟨w.heap.size+1,6,none⟩=some (.int .i64 b6)/\wx.cell? ⟨w.heap.size+1,7,none⟩=some (.int .i64 b7)/\wx.cell? ⟨w.heap.size+1,8,none⟩=some (.int .i64 b8)/\Hid (BoxS w #[.int .i64 a0,v1,v2,v3,v4,v5,.int .i64 a6,.int .i64 a7,.int .i64 a8] #[.int .i64 b0,u1,u2,u3,u4,u5,.int .i64 b6,.int .i64 b7,.int .i64 b8] N B0 (m2.map bl) wx))) (by kernel_rfl) (SK.out _ (HS.out.keep ((Below.refl _ _).drew))) (fun hHeld=>?_)
      refine htp 0 rfl ?_
      refine htp 1 rfl ?_
      refine htp 2 rfl ?_
      refine htp 3 rfl ?_
      refine wpAnyH_ready (rs:=[4]) (by kernel_rfl) (by simp) ?_
      refine AllReadyH.cons rfl (fun K hK=>?_) AllReadyH.nil
      go_simp
      refine (O1.out _ (SB.out _ (by assumption))).mono ?_
      rintro e w6 ⟨Bq,rfl,HQ,h6⟩
      try go_wp2_with fail
      refine hK.out _ _ (SK.out _ (by assumption)) (fun hHeld2=>?_)
      clear hK K hHeld
      have hHeld:=hHeld2
      clear hHeld2
      refine wpAnyH_ready (rs:=[5]) (by kernel_rfl) (by simp) ?_
      refine AllReadyH.cons rfl (fun K hK=>?_) AllReadyH.nil
      go_simp
      refine (E1.out _ _ (SB.out _ (by assumption)) (by assumption)).mono ?_
      rintro e w6 ⟨rfl,h6⟩
      try go_wp2_with fail
      refine hK.out _ _ (SK.out _ (by assumption)) (fun hHeld2=>?_)
      clear hK K hHeld
      have hHeld:=hHeld2
      clear hHeld2
      refine htp 6 rfl ?_
      refine htp 7 rfl ?_
      refine htp 8 rfl ?_
      refine htp 9 rfl ?_
      refine wpAnyH_ready (rs:=[10]) (by kernel_rfl) (by simp) ?_
      refine AllReadyH.cons rfl (fun K hK=>?_) AllReadyH.nil
      go_simp
      refine (E2.out _ (SB.out _ (by assumption))).mono ?_
      rintro e w6 ⟨rfl,h6⟩
      try go_wp2_with fail
      refine hK.out _ _ (SK.out _ (by assumption)) (fun hHeld2=>?_)
      clear hK K hHeld
      have hHeld:=hHeld2
      clear hHeld2
      refine htp 11 rfl ?_
      refine htp 12 rfl ?_
      refine htp 13 rfl ?_
      refine htp 14 rfl ?_
      refine htp 15 rfl ?_
      refine htp 16 rfl ?_
      refine wpAnyH_ready (rs:=[17]) (by kernel_rfl) (by simp) ?_
      refine AllReadyH.cons rfl (fun K hK=>?_) AllReadyH.nil
      go_simp
      refine (O3.out _ (SB.out _ (by assumption))).mono ?_
      rintro e w6 ⟨Bq,rfl,HQ,h6⟩
      try go_wp2_with fail
      refine hK.out _ _ (SK.out _ (by assumption)) (fun hHeld2=>?_)
      clear hK K hHeld
      have hHeld:=hHeld2
      clear hHeld2
      refine wpAnyH_ready (rs:=[18]) (by kernel_rfl) (by simp) ?_
      refine AllReadyH.cons rfl (fun K hK=>?_) AllReadyH.nil
      go_simp
      refine (E3.out _ _ (SB.out _ (by assumption)) (by assumption)).mono ?_
      rintro e w6 ⟨rfl,h6⟩
      try go_wp2_with fail
      refine hK.out _ _ (SK.out _ (by assumption)) (fun hHeld2=>?_)
      clear hK K hHeld
      have hHeld:=hHeld2
      clear hHeld2
      refine htp 19 rfl ?_
      refine htp 20 rfl ?_
      refine htp 21 rfl ?_
      refine htp 22 rfl ?_
      refine htp 23 rfl ?_
      refine htp 24 rfl ?_
      refine wpAnyH_ready (rs:=[25]) (by kernel_rfl) (by simp) ?_
      refine AllReadyH.cons rfl (fun K hK=>?_) AllReadyH.nil
      go_simp
      refine (O4.out _ (SB.out _ (by assumption))).mono ?_
      rintro e w6 ⟨Bq,rfl,HQ,h6⟩
      try go_wp2_with fail
      refine hK.out _ _ (SK.out _ (by assumption)) (fun hHeld2=>?_)
      clear hK K hHeld
      have hHeld:=hHeld2
      clear hHeld2
      refine wpAnyH_ready (rs:=[26]) (by kernel_rfl) (by simp) ?_
      refine AllReadyH.cons rfl (fun K hK=>?_) AllReadyH.nil
      go_simp
      refine (E4.out _ _ (SB.out _ (by assumption)) (by assumption)).mono ?_
      rintro e w6 ⟨rfl,h6⟩
      try go_wp2_with fail
      refine hK.out _ _ (SK.out _ (by assumption)) (fun hHeld2=>?_)
      clear hK K hHeld
      have hHeld:=hHeld2
      clear hHeld2
      refine htp 27 rfl ?_
      refine htp 28 rfl ?_
      refine htp 29 rfl ?_
      refine htp 30 rfl ?_
      refine htp 31 rfl ?_
      refine htp 32 rfl ?_
      refine wpAnyH_ready (rs:=[33]) (by kernel_rfl) (by simp) ?_
      refine AllReadyH.cons rfl (fun K hK=>?_) AllReadyH.nil
      go_simp
      refine (O5.out _ (SB.out _ (by assumption))).mono ?_
      rintro e w6 ⟨Bq,rfl,HQ,h6⟩
      try go_wp2_with fail
      refine hK.out _ _ (SK.out _ (by assumption)) (fun hHeld2=>?_)
      clear hK K hHeld
      have hHeld:=hHeld2
      clear hHeld2
      refine wpAnyH_ready (rs:=[34]) (by kernel_rfl) (by simp) ?_
      refine AllReadyH.cons rfl (fun K hK=>?_) AllReadyH.nil
      go_simp
      refine (E5.out _ _ (SB.out _ (by assumption)) (by assumption)).mono ?_
      rintro e w6 ⟨rfl,h6⟩
      try go_wp2_with fail
      refine hK.out _ _ (SK.out _ (by assumption)) (fun hHeld2=>?_)
      clear hK K hHeld
      have hHeld:=hHeld2
      clear hHeld2
      refine htp 35 rfl ?_
      refine htp 36 rfl ?_
      refine hnp 37 rfl ?_
      refine hnp 38 rfl ?_
      refine hnp 39 rfl ?_
      refine hnp 40 rfl ?_
      refine hnp 41 rfl ?_
      refine hnp 42 rfl ?_
      refine hnp 43 rfl ?_
      refine hnp 44 rfl ?_
      refine htp 45 rfl ?_
      refine htp 46 rfl ?_
      refine wpAnyH_done (by kernel_rfl) ?_ _
      have H7:=hide (SB.out _ (by assumption))
      clear O1 O3 O4 O5 E1 E2 E3 E4 E5 K1 K2 K3 SK SB
      go_wp2_with fail
      go_ret
      rw[HR.out]
      exact⟨rfl,H7.out.1.2.2⟩
     | true =>
      obtain⟨R3,hR3⟩:∃ R3,R3=((a6==c6) && ((a7==c7) && (a8==c8))):=⟨_,rfl⟩
      have HR:Hid (R=R3):=hide (by rw[HAL.out,hR3];simp)
      have H3:=hide hR3
      clear HAL hR3
      refine wp_region_held_drew (S:=(fun wx=>wx.cell? ⟨w.heap.size,0,none⟩=some (.int .i64 a0)/\wx.cell? ⟨w.heap.size,1,none⟩=some v1/\wx.cell? ⟨w.heap.size,2,none⟩=some v2/\wx.cell? ⟨w.heap.size,3,none⟩=some v3/\wx.cell? ⟨w.heap.size,4,none⟩=some v4/\wx.cell? ⟨w.heap.size,5,none⟩=some v5/\wx.cell? ⟨w.heap.size,6,none⟩=some (.int .i64 a6)/\wx.cell? ⟨w.heap.size,7,none⟩=some (.int .i64 a7)/\wx.cell? ⟨w.heap.size,8,none⟩=some (.int .i64 a8)/\wx.cell? ⟨w.heap.size+1,0,none⟩=some (.int .i64 b0)/\wx.cell? ⟨w.heap.size+1,1,none⟩=some u1/\wx.cell? ⟨w.heap.size+1,2,none⟩=some u2/\wx.cell? ⟨w.heap.size+1,3,none⟩=some u3/\wx.cell? ⟨w.heap.size+1,4,none⟩=some u4/\wx.cell? ⟨w.heap.size+1,5,none⟩=some u5/\wx.cell? ⟨w.heap.size+1,6,none⟩=some (.int .i64 b6)/\wx.cell? ⟨w.heap.size+1,7,none⟩=some (.int .i64 b7)/\wx.cell? ⟨w.heap.size+1,8,none⟩=some (.int .i64 b8)/\Hid (BoxS w #[.int .i64 a0,v1,v2,v3,v4,v5,.int .i64 a6,.int .i64 a7,.int .i64 a8] #[.int .i64 b0,u1,u2,u3,u4,u5,.int .i64 b6,.int .i64 b7,.int .i64 b8] N B0 (m2.map bl) wx))) (by kernel_rfl) (SK.out _ (HS.out.keep ((Below.refl _ _).drew))) (fun hHeld=>?_)
      refine htp 0 rfl ?_
      refine htp 1 rfl ?_
      refine htp 2 rfl ?_
      refine htp 3 rfl ?_
      refine wpAnyH_ready (rs:=[4]) (by kernel_rfl) (by simp) ?_
      refine AllReadyH.cons rfl (fun K hK=>?_) AllReadyH.nil
      go_simp
      refine (O1.out _ (SB.out _ (by assumption))).mono ?_
      rintro e w6 ⟨Bq,rfl,HQ,h6⟩
      try go_wp2_with fail
      refine hK.out _ _ (SK.out _ (by assumption)) (fun hHeld2=>?_)
      clear hK K hHeld
      have hHeld:=hHeld2
      clear hHeld2
      refine wpAnyH_ready (rs:=[5]) (by kernel_rfl) (by simp) ?_
      refine AllReadyH.cons rfl (fun K hK=>?_) AllReadyH.nil
      go_simp
      refine (E1.out _ _ (SB.out _ (by assumption)) (by assumption)).mono ?_
      rintro e w6 ⟨rfl,h6⟩
      try go_wp2_with fail
      refine hK.out _ _ (SK.out _ (by assumption)) (fun hHeld2=>?_)
      clear hK K hHeld
      have hHeld:=hHeld2
      clear hHeld2
      refine htp 6 rfl ?_
      refine htp 7 rfl ?_
      refine htp 8 rfl ?_
      refine htp 9 rfl ?_
      refine wpAnyH_ready (rs:=[10]) (by kernel_rfl) (by simp) ?_
      refine AllReadyH.cons rfl (fun K hK=>?_) AllReadyH.nil
      go_simp
      refine (E2.out _ (SB.out _ (by assumption))).mono ?_
      rintro e w6 ⟨rfl,h6⟩
      try go_wp2_with fail
      refine hK.out _ _ (SK.out _ (by assumption)) (fun hHeld2=>?_)
      clear hK K hHeld
      have hHeld:=hHeld2
      clear hHeld2
      refine htp 11 rfl ?_
      refine htp 12 rfl ?_
      refine htp 13 rfl ?_
      refine htp 14 rfl ?_
      refine htp 15 rfl ?_
      refine htp 16 rfl ?_
      refine wpAnyH_ready (rs:=[17]) (by kernel_rfl) (by simp) ?_
      refine AllReadyH.cons rfl (fun K hK=>?_) AllReadyH.nil
      go_simp
      refine (O3.out _ (SB.out _ (by assumption))).mono ?_
      rintro e w6 ⟨Bq,rfl,HQ,h6⟩
      try go_wp2_with fail
      refine hK.out _ _ (SK.out _ (by assumption)) (fun hHeld2=>?_)
      clear hK K hHeld
      have hHeld:=hHeld2
      clear hHeld2
      refine wpAnyH_ready (rs:=[18]) (by kernel_rfl) (by simp) ?_
      refine AllReadyH.cons rfl (fun K hK=>?_) AllReadyH.nil
      go_simp
      refine (E3.out _ _ (SB.out _ (by assumption)) (by assumption)).mono ?_
      rintro e w6 ⟨rfl,h6⟩
      try go_wp2_with fail
      refine hK.out _ _ (SK.out _ (by assumption)) (fun hHeld2=>?_)
      clear hK K hHeld
      have hHeld:=hHeld2
      clear hHeld2
      refine htp 19 rfl ?_
      refine htp 20 rfl ?_
      refine htp 21 rfl ?_
      refine htp 22 rfl ?_
      refine htp 23 rfl ?_
      refine htp 24 rfl ?_
      refine wpAnyH_ready (rs:=[25]) (by kernel_rfl) (by simp) ?_
      refine AllReadyH.cons rfl (fun K hK=>?_) AllReadyH.nil
      go_simp
      refine (O4.out _ (SB.out _ (by assumption))).mono ?_
      rintro e w6 ⟨Bq,rfl,HQ,h6⟩
      try go_wp2_with fail
      refine hK.out _ _ (SK.out _ (by assumption)) (fun hHeld2=>?_)
      clear hK K hHeld
      have hHeld:=hHeld2
      clear hHeld2
      refine wpAnyH_ready (rs:=[26]) (by kernel_rfl) (by simp) ?_
      refine AllReadyH.cons rfl (fun K hK=>?_) AllReadyH.nil
      go_simp
      refine (E4.out _ _ (SB.out _ (by assumption)) (by assumption)).mono ?_
      rintro e w6 ⟨rfl,h6⟩
      try go_wp2_with fail
      refine hK.out _ _ (SK.out _ (by assumption)) (fun hHeld2=>?_)
      clear hK K hHeld
      have hHeld:=hHeld2
      clear hHeld2
      refine htp 27 rfl ?_
      refine htp 28 rfl ?_
      refine htp 29 rfl ?_
      refine htp 30 rfl ?_
      refine htp 31 rfl ?_
      refine htp 32 rfl ?_
      refine wpAnyH_ready (rs:=[33]) (by kernel_rfl) (by simp) ?_
      refine AllReadyH.cons rfl (fun K hK=>?_) AllReadyH.nil
      go_simp
      refine (O5.out _ (SB.out _ (by assumption))).mono ?_
      rintro e w6 ⟨Bq,rfl,HQ,h6⟩
      try go_wp2_with fail
      refine hK.out _ _ (SK.out _ (by assumption)) (fun hHeld2=>?_)
      clear hK K hHeld
      have hHeld:=hHeld2
      clear hHeld2
      refine wpAnyH_ready (rs:=[34]) (by kernel_rfl) (by simp) ?_
      refine AllReadyH.cons rfl (fun K hK=>?_) AllReadyH.nil
      go_simp
      refine (E5.out _ _ (SB.out _ (by assumption)) (by assumption)).mono ?_
      rintro e w6 ⟨rfl,h6⟩
      try go_wp2_with fail
      refine hK.out _ _ (SK.out _ (by assumption)) (fun hHeld2=>?_)
      clear hK K hHeld
      have hHeld:=hHeld2
      clear hHeld2
      refine htp 35 rfl ?_
      refine htp 36 rfl ?_
      refine htp 37 rfl ?_
      refine htp 39 rfl ?_
      refine htp 41 rfl ?_
      refine wpAnyH_ready (rs:=[38]) (by kernel_rfl) (by simp) ?_
      refine AllReadyH.cons rfl (fun K hK=>?_) AllReadyH.nil
      go_simp
      refine (K1.out _ (SB.out _ (by assumption))).mono ?_
      rintro e w6 ⟨rfl,h6⟩
      try go_wp2_with fail
      refine hK.out _ _ (SK.out _ (by assumption)) (fun hHeld2=>?_)
      clear hK K hHeld
      have hHeld:=hHeld2
      clear hHeld2
      refine wpAnyH_ready (rs:=[40]) (by kernel_rfl) (by simp) ?_
      refine AllReadyH.cons rfl (fun K hK=>?_) AllReadyH.nil
      go_simp
      refine (K1.out _ (SB.out _ (by assumption))).mono ?_
      rintro e w6 ⟨rfl,h6⟩
      try go_wp2_with fail
      refine hK.out _ _ (SK.out _ (by assumption)) (fun hHeld2=>?_)
      clear hK K hHeld
      have hHeld:=hHeld2
      clear hHeld2
      refine wpAnyH_ready (rs:=[42]) (by kernel_rfl) (by simp) ?_
      refine AllReadyH.cons rfl (fun K hK=>?_) AllReadyH.nil
      go_simp
      refine (K2.out _ (SB.out _ (by assumption))).mono ?_
      rintro e w6 ⟨rfl,h6⟩
      try go_wp2_with fail
      refine hK.out _ _ (SK.out _ (by assumption)) (fun hHeld2=>?_)
      clear hK K hHeld
      have hHeld:=hHeld2
      clear hHeld2
      refine wpAnyH_ready (rs:=[43]) (by kernel_rfl) (by simp) ?_
      refine AllReadyH.cons rfl (fun K hK=>?_) AllReadyH.nil
      go_simp
      refine (K3.out _ (SB.out _ (by assumption))).mono ?_
      rintro e w6 ⟨rfl,h6⟩
      try go_wp2_with fail
      refine hK.out _ _ (SK.out _ (by assumption)) (fun hHeld2=>?_)
      clear hK K hHeld
      have hHeld:=hHeld2
      clear hHeld2
      refine hto 44 (v:=.bool R3) (a1:=?xj44) rfl ?yj44 ?hj44 ?zj44
      case yj44=>(intro w hSw;(try dsimp only at hSw);go_simp;exact (if3 (fun b=>Result.ok (Next.value (Value.bool b)) w) a6 c6 a7 c7 a8 c8).trans (by rw[H3.out]))
      case hj44=>(go_simp;exact rfl)
      case zj44 =>
      refine htp 45 rfl ?_
      refine htp 46 rfl ?_
      refine wpAnyH_done (by kernel_rfl) ?_ _
      have H7:=hide (SB.out _ (by assumption))
      clear O1 O3 O4 O5 E1 E2 E3 E4 E5 K1 K2 K3 SK SB
      go_wp2_with fail
      go_ret
      rw[HR.out]
      exact⟨rfl,H7.out.1.2.2⟩
end Go.Proofs.YtkiofbikkhhdfabGreatDoor
