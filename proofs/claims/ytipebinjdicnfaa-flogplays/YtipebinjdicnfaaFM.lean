/-
  Mathematics of frames: a text's frame, and how bytes are read as frames.
-/
import Derived.Test.YtipebinjdicnfaaDV4
namespace Go.Proofs.Ytipebinjdicnfaa

/-- A length's three bytes. -/
def hd (n : Nat) : List UInt8 := [UInt8.ofNat (n / 65536), UInt8.ofNat (n / 256 % 256), UInt8.ofNat (n % 256)]
/-- A text's frame. -/
def fr (t : ByteArray) : List UInt8 := hd t.size ++ bl t
/-- The frames of texts. -/
def frs : List ByteArray → List UInt8
  | [] => []
  | t :: l => fr t ++ frs l
/-- The length by the first three bytes. -/
def num (b : List UInt8) : Nat := (b.getD 0 0).toNat * 65536 + (b.getD 1 0).toNat * 256 + (b.getD 2 0).toNat
/-- No frame stands ahead. -/
def Stop (b : List UInt8) : Prop := b.length < 3 ∨ 20000 < num b ∨ b.length < 3 + num b
/-- Bytes, read as frames: the texts, and what is left. -/
structure Rd (b : List UInt8) (l : List ByteArray) (r : List UInt8) : Prop where
  eq : b = frs l ++ r
  small : ∀ t ∈ l, t.size ≤ 20000
  stop : Stop r
theorem fr_len (t : ByteArray) : (fr t).length = 3 + t.size := by
  unfold fr hd
  rw [List.length_append, bl_len]
  rfl
theorem num_hd (n : Nat) (x : List UInt8) (h : n < 16777216) : num (hd n ++ x) = n := by
  show (UInt8.ofNat (n / 65536)).toNat * 65536 + (UInt8.ofNat (n / 256 % 256)).toNat * 256 + (UInt8.ofNat (n % 256)).toNat = n
  rw [toNat_ofNat (by omega), toNat_ofNat (by omega), toNat_ofNat (by omega)]
  omega
theorem num_lt (b : List UInt8) : num b < 16777216 := by
  unfold num
  have h0 := (b.getD 0 0).toNat_lt
  have h1 := (b.getD 1 0).toNat_lt
  have h2 := (b.getD 2 0).toNat_lt
  omega
theorem not_stop (t : ByteArray) (x : List UInt8) (h : t.size ≤ 20000) : ¬ Stop (fr t ++ x) := by
  unfold Stop
  have hn : num (fr t ++ x) = t.size := by unfold fr; rw [List.append_assoc]; exact num_hd _ _ (by omega)
  rw [hn, List.length_append, fr_len]
  omega
theorem bl_inj {a b : ByteArray} (h : bl a = bl b) : a = b := by
  obtain ⟨⟨a⟩⟩ := a
  obtain ⟨⟨b⟩⟩ := b
  simp [bl] at h
  rw [h]
theorem fr_inj {t u : ByteArray} {x y : List UInt8} (ht : t.size ≤ 20000) (hu : u.size ≤ 20000) (h : fr t ++ x = fr u ++ y) : t = u ∧ x = y := by
  have h1 : num (fr t ++ x) = t.size := by unfold fr; rw [List.append_assoc]; exact num_hd _ _ (by omega)
  have h2 : num (fr u ++ y) = u.size := by unfold fr; rw [List.append_assoc]; exact num_hd _ _ (by omega)
  have hs : t.size = u.size := by rw [← h1, ← h2, h]
  have hl : (fr t).length = (fr u).length := by rw [fr_len, fr_len, hs]
  have ⟨e1, e2⟩ := List.append_inj h hl
  unfold fr at e1
  rw [hs] at e1
  exact ⟨bl_inj (List.append_cancel_left e1), e2⟩
theorem Rd.one {b : List UInt8} {l : List ByteArray} {r : List UInt8} (h : Rd b l r) : ∀ {l' : List ByteArray} {r' : List UInt8}, Rd b l' r' → l = l' ∧ r = r' := by
  obtain ⟨e, hs, hp⟩ := h
  subst e
  induction l with
  | nil =>
    intro l' r' h'
    cases l' with
    | nil => exact ⟨rfl, h'.eq⟩
    | cons t l' =>
      have := h'.eq
      simp only [frs, List.nil_append, List.append_assoc] at this
      rw [this] at hp
      exact absurd hp (not_stop t _ (h'.small t (List.mem_cons_self ..)))
  | cons t l ih =>
    intro l' r' h'
    have ht := hs t (List.mem_cons_self ..)
    cases l' with
    | nil =>
      have := h'.eq
      simp only [frs, List.nil_append, List.append_assoc] at this
      have hp' := h'.stop
      rw [← this] at hp'
      exact absurd hp' (not_stop t _ ht)
    | cons u l' =>
      have := h'.eq
      simp only [frs, List.append_assoc] at this
      obtain ⟨rfl, e⟩ := fr_inj ht (h'.small u (List.mem_cons_self ..)) this
      obtain ⟨rfl, rfl⟩ := ih (fun x hx => hs x (List.mem_cons_of_mem _ hx)) ⟨e, fun x hx => h'.small x (List.mem_cons_of_mem _ hx), h'.stop⟩
      exact ⟨rfl, rfl⟩
theorem frs_app (a b : List ByteArray) : frs (a ++ b) = frs a ++ frs b := by
  induction a with
  | nil => rfl
  | cons t a ih => show fr t ++ frs (a ++ b) = fr t ++ frs a ++ frs b; rw [ih, List.append_assoc]
theorem frs_one (t : ByteArray) : frs [t] = fr t := List.append_nil _
theorem stop_nil : Stop [] := .inl (by decide)
theorem Rd.nil : Rd [] [] [] := ⟨rfl, by simp, stop_nil⟩
theorem Rd.frs {l : List ByteArray} (h : ∀ t ∈ l, t.size ≤ 20000) : Rd (frs l) l [] := ⟨by rw [List.append_nil], h, stop_nil⟩
theorem three : ∀ (r : List UInt8), 3 ≤ r.length → r = hd (num r) ++ r.drop 3
  | x :: y :: z :: r, _ => by
    have hn : num (x :: y :: z :: r) = x.toNat * 65536 + y.toNat * 256 + z.toNat := rfl
    have hx := x.toNat_lt
    have hy := y.toNat_lt
    have hz := z.toNat_lt
    generalize num (x :: y :: z :: r) = n at hn
    have e1 : n / 65536 = x.toNat := by omega
    have e2 : n / 256 % 256 = y.toNat := by omega
    have e3 : n % 256 = z.toNat := by omega
    unfold hd
    rw [e1, e2, e3, UInt8.ofNat_toNat, UInt8.ofNat_toNat, UInt8.ofNat_toNat]
    rfl
  | [], h => by simp at h
  | [_], h => by simp at h
  | [_, _], h => by simp at h
/-- Bytes that are more than none ahead: the next frame. -/
theorem go_on {r : List UInt8} (h : ¬ Stop r) : ∃ t : ByteArray, t.size = num r ∧ t.size ≤ 20000 ∧ r = fr t ++ r.drop (3 + num r) ∧ bl t = (r.drop 3).take (num r) ∧ 3 + num r ≤ r.length := by
  unfold Stop at h
  have h1 : 3 + num r ≤ r.length := by omega
  have hl : ((r.drop 3).take (num r)).length = num r := by rw [List.length_take, List.length_drop]; omega
  have hb : bl ⟨((r.drop 3).take (num r)).toArray⟩ = (r.drop 3).take (num r) := by simp [bl]
  have hz : (⟨((r.drop 3).take (num r)).toArray⟩ : ByteArray).size = num r := by rw [← bl_len, hb, hl]
  refine ⟨⟨((r.drop 3).take (num r)).toArray⟩, hz, by omega, ?_, hb, h1⟩
  unfold fr
  rw [hz, hb, List.append_assoc, ← List.drop_drop, List.take_append_drop]
  exact three r (by omega)
/-- All bytes can be read. -/
theorem rd_all (b : List UInt8) : ∃ l r, Rd b l r := by
  suffices ∀ n (b : List UInt8), b.length ≤ n → ∃ l r, Rd b l r from this b.length b (Nat.le_refl _)
  intro n
  induction n with
  | zero => exact fun b h => ⟨[], b, rfl, by simp, .inl (by omega)⟩
  | succ n ih =>
    intro b hb
    by_cases h : Stop b
    · exact ⟨[], b, rfl, by simp, h⟩
    · obtain ⟨t, hs, h1, h2, -, h3⟩ := go_on h
      obtain ⟨l, r, hr⟩ := ih (b.drop (3 + num b)) (by rw [List.length_drop]; omega)
      refine ⟨t :: l, r, ?_, ?_, hr.stop⟩
      · show b = fr t ++ frs l ++ r
        rw [List.append_assoc, ← hr.eq]
        exact h2
      · intro x hx
        rcases List.mem_cons.1 hx with rfl | hx
        · exact h1
        · exact hr.small x hx
theorem Rd.app {b : List UInt8} {l : List ByteArray} (h : Rd b l []) {t : ByteArray} (ht : t.size ≤ 20000) : Rd (b ++ fr t) (l ++ [t]) [] := by
  refine ⟨?_, ?_, stop_nil⟩
  · rw [h.eq, List.append_nil, List.append_nil, frs_app, frs_one]
  · intro x hx
    rcases List.mem_append.1 hx with hx | hx
    · exact h.small x hx
    · rw [List.mem_singleton.1 hx]
      exact ht
/-- A frame's beginning alone is none. -/
theorem stop_part (t : ByteArray) (k : Nat) (h : k < 3 + t.size) (ht : t.size ≤ 20000) : Stop ((fr t).take k) := by
  by_cases hk : k < 3
  · left
    rw [List.length_take]
    omega
  · right
    right
    have : num ((fr t).take k) = t.size := by
      obtain ⟨j, rfl⟩ : ∃ j, k = j + 3 := ⟨k - 3, by omega⟩
      have e : (fr t).take (j + 3) = hd t.size ++ (bl t).take j := rfl
      rw [e]
      exact num_hd _ _ (by omega)
    rw [this, List.length_take, fr_len]
    omega
theorem Rd.part {b : List UInt8} {l : List ByteArray} (h : Rd b l []) {t : ByteArray} (k : Nat) (hk : k < 3 + t.size) (ht : t.size ≤ 20000) : Rd (b ++ (fr t).take k) l ((fr t).take k) :=
  ⟨by rw [h.eq, List.append_nil], h.small, stop_part t k hk ht⟩
end Go.Proofs.Ytipebinjdicnfaa
