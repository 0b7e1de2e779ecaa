/-
  The closure of the program's own Stricter.
-/
import Derived.Test.YtbcadeikdmlpoaaGreatDoorR6
import Derived.Deep.RegionHeld3
namespace Go.Proofs.YtbcadeikdmlpoaaGreatDoor
open Go.RowKit
open Utf1 Pol8

theorem wpAnyH_to {P : Program} {ops : Array Oper} {Q : Exit → Act → World → Prop} {md : Region.Mode} {S : World → Prop} {i : Nat} {oi : Oper} {v : Value} {fuel : Nat} {listed : Array Bool} {a a1 : Act} {w : World} (hi : ops[i]? = some oi)
    (hs : Region.noSelect ops = true) (hf : Region.free md ops listed i = true) (hr : (Region.ready md ops listed).contains i = true)
    (hQ : ∀ c a w, Q (.panic c) (a.put oi.dst v) w → Q (.panic c) a w) (hy : YieldsIf P ops S oi v a) (hS : S w) (ha : a.put oi.dst v = a1)
    (h : wpAnyH P md ops Q S fuel (listed.setIfInBounds i true) a1 w) : wpAnyH P md ops Q S (fuel + 1) listed a w := by
  subst ha
  exact wpAnyH_take hi hs hf hr hQ hy hS h
def stF (l : List L) (x : L) : Bool := inL l x || inL l (star x)
set_option maxRecDepth 100000 in
set_option maxHeartbeats 8000000 in
theorem pstays_any (Bv B : Nat) (l : List L) (x : ByteArray) (hx : x.size ≤ 100000) (w : World) (hb : w.heap[Bv]? = some (.cells #[inV B] 48 (0, 0))) (hq : InQ B l w) :
    Calls Tryz.prog 34 #[.string x, .pointer (some ⟨Bv, 0, none⟩)] w fun e w' => e = .returned (.bool (stF l (bl x))) ∧ Below w.heap.size w w' := by
  obtain ⟨X2, hX2⟩ : ∃ X2 : ByteArray, X2 = ⟨(star (bl x)).toArray⟩ := ⟨_, rfl⟩
  obtain ⟨t1, ht1⟩ : ∃ t, t = inL l (bl x) := ⟨_, rfl⟩
  obtain ⟨t2, ht2⟩ : ∃ t, t = inL l (bl X2) := ⟨_, rfl⟩
  obtain ⟨R, hR⟩ : ∃ R, R = stF l (bl x) := ⟨_, rfl⟩
  rw [← hR]
  have HAL : Hid (R = (t1 || t2)) := hide (by rw [hR, ht1, ht2, hX2]; rfl)
  have C1 : Hid (∀ wx, Below w.heap.size w wx → Calls Tryz.prog 51 #[.string x, .pointer (some ⟨B, 0, none⟩)] wx fun e w' => e = .returned (.bool t1) ∧ Below w.heap.size w w') := hide (fun wx h => by rw [ht1]; exact (hq wx x h).mono fun _ _ ⟨h1, h2⟩ => ⟨h1, h2 ▸ h⟩)
  have C2 : Hid (∀ wx, Below w.heap.size w wx → Calls Tryz.prog 51 #[.string X2, .pointer (some ⟨B, 0, none⟩)] wx fun e w' => e = .returned (.bool t2) ∧ Below w.heap.size w w') := hide (fun wx h => by rw [ht2]; exact (hq wx X2 h).mono fun _ _ ⟨h1, h2⟩ => ⟨h1, h2 ▸ h⟩)
  have C3 : Hid (∀ wx, Below w.heap.size w wx → Calls Tryz.prog 35 #[.string x] wx fun e w' => e = .returned (.string X2) ∧ Below w.heap.size w w') := hide (fun wx h => by rw [hX2]; exact (pofAll_any x hx wx).mono fun _ _ ⟨h1, h2⟩ => ⟨h1, bel2 h h2⟩)
  have SK : Hid (∀ wx, Below w.heap.size w wx → wx.cell? ⟨Bv, 0, none⟩ = some (inV B) ∧ Hid (Below w.heap.size w wx)) := hide (fun wx h => ⟨tag_cell ((h.block _ (Array.getElem?_eq_some_iff.1 hb).1).trans hb) 0 _ rfl, hide h⟩)
  have SB : Hid (∀ wx, (wx.cell? ⟨Bv, 0, none⟩ = some (inV B) ∧ Hid (Below w.heap.size w wx)) → Below w.heap.size w wx) := hide (fun wx h => h.2.out)
  clear hb hq hR ht1 ht2 hX2 hx
  cases t1 with
  | true =>
    have HR : Hid (R = true) := hide (by rw [HAL.out]; rfl)
    clear HAL C2 C3
    go_enter Tryz.func34, Tryz.ntmps34
    go_wp2_with fail
    refine wp_region_held_drew (S := (fun wx => wx.cell? ⟨Bv, 0, none⟩ = some (inV B) ∧ Hid (Below w.heap.size w wx))) (by kernel_rfl) (SK.out _ ((Below.refl _ _).drew)) (fun hHeld => ?_)
    refine wpAnyH_to (i := 0) (v := ?vq0) (a1 := ?xq0) rfl (by kernel_rfl) (by kernel_rfl) (by kernel_rfl) (fun _ _ _ h => h) (Or.inl ⟨by rfl, ?yq0⟩) (by assumption) ?hq0 ?zq0
    case yq0 => (intro w hSw; (try dsimp only at hSw); go_simp; try (with_reducible rfl))
    case hq0 => (go_simp; exact rfl)
    case zq0 =>
    refine wpAnyH_to (i := 1) (v := ?vq1) (a1 := ?xq1) rfl (by kernel_rfl) (by kernel_rfl) (by kernel_rfl) (fun _ _ _ h => h) (Or.inl ⟨by rfl, ?yq1⟩) (by assumption) ?hq1 ?zq1
    case yq1 => (intro w hSw; (try dsimp only at hSw); go_simp; try (with_reducible rfl))
    case hq1 => (go_simp; exact rfl)
    case zq1 =>
    refine wpAnyH_ready (rs := [2]) (by kernel_rfl) (by simp) ?_
    refine AllReadyH.cons rfl (fun K hK => ?_) AllReadyH.nil
    go_simp
    refine (C1.out _ (SB.out _ (by assumption))).mono ?_
    rintro e w6 ⟨rfl, h6⟩
    try go_wp2_with fail
    refine hK.out _ _ (SK.out _ (by assumption)) (fun hHeld2 => ?_)
    clear hK K hHeld
    have hHeld := hHeld2
    clear hHeld2
    refine wpAnyH_to (i := 3) (v := ?vq3) (a1 := ?xq3) rfl (by kernel_rfl) (by kernel_rfl) (by kernel_rfl) (fun _ _ _ h => h) (Or.inl ⟨by rfl, ?yq3⟩) (by assumption) ?hq3 ?zq3
    case yq3 => (intro w hSw; (try dsimp only at hSw); go_simp; try (with_reducible rfl))
    case hq3 => (go_simp; exact rfl)
    case zq3 =>
    refine wpAnyH_to (i := 4) (v := undef) (a1 := ?xq4) rfl (by kernel_rfl) (by kernel_rfl) (by kernel_rfl) (fun _ _ _ h => h) (Or.inr ⟨by rfl, rfl⟩) (by assumption) ?hq4 ?zq4
    case hq4 => (go_simp; exact rfl)
    case zq4 =>
    refine wpAnyH_to (i := 5) (v := undef) (a1 := ?xq5) rfl (by kernel_rfl) (by kernel_rfl) (by kernel_rfl) (fun _ _ _ h => h) (Or.inr ⟨by rfl, rfl⟩) (by assumption) ?hq5 ?zq5
    case hq5 => (go_simp; exact rfl)
    case zq5 =>
    refine wpAnyH_to (i := 6) (v := undef) (a1 := ?xq6) rfl (by kernel_rfl) (by kernel_rfl) (by kernel_rfl) (fun _ _ _ h => h) (Or.inr ⟨by rfl, rfl⟩) (by assumption) ?hq6 ?zq6
    case hq6 => (go_simp; exact rfl)
    case zq6 =>
    refine wpAnyH_to (i := 7) (v := undef) (a1 := ?xq7) rfl (by kernel_rfl) (by kernel_rfl) (by kernel_rfl) (fun _ _ _ h => h) (Or.inr ⟨by rfl, rfl⟩) (by assumption) ?hq7 ?zq7
    case hq7 => (go_simp; exact rfl)
    case zq7 =>
    refine wpAnyH_to (i := 8) (v := ?vq8) (a1 := ?xq8) rfl (by kernel_rfl) (by kernel_rfl) (by kernel_rfl) (fun _ _ _ h => h) (Or.inl ⟨by rfl, ?yq8⟩) (by assumption) ?hq8 ?zq8
    case yq8 => (intro w hSw; (try dsimp only at hSw); go_simp; try (with_reducible rfl))
    case hq8 => (go_simp; exact rfl)
    case zq8 =>
    refine wpAnyH_to (i := 9) (v := ?vq9) (a1 := ?xq9) rfl (by kernel_rfl) (by kernel_rfl) (by kernel_rfl) (fun _ _ _ h => h) (Or.inl ⟨by rfl, ?yq9⟩) (by assumption) ?hq9 ?zq9
    case yq9 => (intro w hSw; (try dsimp only at hSw); go_simp; try (with_reducible rfl))
    case hq9 => (go_simp; exact rfl)
    case zq9 =>
    refine wpAnyH_done (by kernel_rfl) ?_ _
    have H7 := hide (SB.out _ (by assumption))
    clear C1 SK SB
    go_wp2_with fail
    go_ret
    rw [HR.out]
    exact ⟨rfl, H7.out⟩
  | false =>
    have HR : Hid (R = t2) := hide (by rw [HAL.out]; rfl)
    clear HAL
    cases t2
    all_goals
      go_enter Tryz.func34, Tryz.ntmps34
      go_wp2_with fail
      go_region_held3 (fun wx => wx.cell? ⟨Bv, 0, none⟩ = some (inV B) ∧ Hid (Below w.heap.size w wx))
        (first | exact SK.out _ ((Below.refl _ _).drew) | exact SK.out _ (by assumption))
        (first
          | (go_at_call 51; first | (refine (C1.out _ (SB.out _ (by assumption))).mono ?_; rintro e w6 ⟨rfl, h6⟩) | (refine (C2.out _ (SB.out _ (by assumption))).mono ?_; rintro e w6 ⟨rfl, h6⟩))
          | (go_at_call 35; refine (C3.out _ (SB.out _ (by assumption))).mono ?_; rintro e w6 ⟨rfl, h6⟩))
      all_goals
        have H7 := hide (SB.out _ (by assumption))
        clear C1 C2 C3 SK SB
        go_wp2_with fail
        go_ret
        rw [HR.out]
        exact ⟨rfl, H7.out⟩
theorem tells_st (Bv B : Nat) (l : List L) (w : World) (hb : w.heap[Bv]? = some (.cells #[inV B] 48 (0, 0))) (hq : InQ B l w) : Tells 34 #[.pointer (some ⟨Bv, 0, none⟩)] (stF l) w := by
  intro W x hx hbb
  rw [show (#[.string x] ++ #[.pointer (some ⟨Bv, 0, none⟩)] : Array Value) = #[.string x, .pointer (some ⟨Bv, 0, none⟩)] by simp]
  exact pstays_any Bv B l x hx W ((hbb.block _ (Array.getElem?_eq_some_iff.1 hb).1).trans hb) (hq.later hbb)
theorem ent_st : ∀ args w, (callFunc 34 args).run Tryz.prog w = .ok (.enter 34 args) w := enters_of Tryz.func34 (by kernel_rfl) rfl
end Go.Proofs.YtbcadeikdmlpoaaGreatDoor
