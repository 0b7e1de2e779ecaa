/-
  Plain mathematics of texts as bytes: where a right sequence begins, which rune it is, and what is made of a text by going through its runes.
-/
import Derived.Lib.RuneBytes
import Derived.Laws.RangeAny
namespace Utf1
open Go

/-- What stands at place k of a list of bytes, 0 beyond its end. -/
def atN (l : List UInt8) (k : Nat) : Nat := (l.getD k 0).toNat
theorem atN_lt (l : List UInt8) (k : Nat) : atN l k < 256 := (l.getD k 0).toNat_lt

/-- A number that is a character's. -/
def Scalar (r : Nat) : Prop := r < 55296 ∨ (57344 ≤ r ∧ r ≤ 1114111)
theorem valid_iff (r : Nat) : Utf8.valid (r : Int) = true ↔ Scalar r := by
  simp [Utf8.valid, Scalar]
  omega

/-- The rune at the head of a list of bytes, and how many bytes it takes: as the model tells it. -/
def dl (l : List UInt8) : Nat × Nat := Utf8.decode ⟨l.toArray⟩ 0

theorem get_drop (s : ByteArray) (pos k : Nat) : s.get! (pos + k) = (s.data.toList.drop pos).getD k 0 := by
  rw [List.getD_eq_getElem?_getD, List.getElem?_drop]
  show s.data[pos + k]! = _
  rw [getElem!_def, Array.getElem?_toList]
  cases s.data[pos + k]? <;> rfl
theorem get_mk (l : List UInt8) (k : Nat) : ((⟨l.toArray⟩ : ByteArray).get! (0 + k)).toNat = atN l k := congrArg UInt8.toNat (get_drop ⟨l.toArray⟩ 0 k)
theorem get_at' (s : ByteArray) (pos k : Nat) : (s.get! (pos + k)).toNat = atN (s.data.toList.drop pos) k := congrArg UInt8.toNat (get_drop s pos k)
theorem size_mk (l : List UInt8) : (⟨l.toArray⟩ : ByteArray).size = l.length := by
  show l.toArray.size = _
  exact List.size_toArray
theorem size_drop (s : ByteArray) (pos : Nat) : (s.data.toList.drop pos).length = s.size - pos := by
  rw [List.length_drop, Array.length_toList]
  rfl

def er (r : Nat) : List UInt8 := Lib.encodeRune (r : Int)

/-- How many bytes the right sequence has with which a list begins; 0: none. -/
def rtN (n a b c d : Nat) : Nat :=
  if n = 0 then 0
  else if a < 128 then 1
  else if 194 ≤ a ∧ a ≤ 223 then (if 2 ≤ n ∧ 128 ≤ b ∧ b ≤ 191 then 2 else 0)
  else if 224 ≤ a ∧ a ≤ 239 then
    (if 3 ≤ n ∧ (a = 224 → 160 ≤ b) ∧ 128 ≤ b ∧ b ≤ 191 ∧ (a = 237 → b ≤ 159) ∧ 128 ≤ c ∧ c ≤ 191 then 3 else 0)
  else if 240 ≤ a ∧ a ≤ 244 then
    (if 4 ≤ n ∧ (a = 240 → 144 ≤ b) ∧ 128 ≤ b ∧ b ≤ 191 ∧ (a = 244 → b ≤ 143) ∧ 128 ≤ c ∧ c ≤ 191 ∧ 128 ≤ d ∧ d ≤ 191 then 4 else 0)
  else 0
def rt (l : List UInt8) : Nat := rtN l.length (atN l 0) (atN l 1) (atN l 2) (atN l 3)

/-- What the model tells, where no right sequence begins. -/
theorem decode_bad (s : ByteArray) (i n : Nat) (hn : s.size = i + n) (h : rtN n (s.get! (i + 0)).toNat (s.get! (i + 1)).toNat (s.get! (i + 2)).toNat (s.get! (i + 3)).toNat = 0) (h0 : n ≠ 0) : Utf8.decode s i = (65533, 1) := by
  have l0 := (s.get! (i + 0)).toNat_lt
  unfold rtN at h
  simp only [Utf8.decode, Utf8.runeError]
  split
  · rename_i h1
    rw [if_neg h0, if_pos h1] at h
    exact absurd h (by decide)
  · rename_i h1
    rw [if_neg h0, if_neg h1] at h
    split
    · rename_i h2
      simp only [Bool.and_eq_true, beq_iff_eq, decide_eq_true_eq] at h2
      split
      · exfalso
        repeat' split at h
        all_goals omega
      · rfl
    · split
      · rename_i h2 h3
        simp only [Bool.and_eq_true, beq_iff_eq, decide_eq_true_eq] at h2 h3
        split
        · rename_i h4
          simp only [Bool.and_eq_true, decide_eq_true_eq, valid_iff] at h4
          unfold Scalar at h4
          exfalso
          repeat' split at h
          all_goals omega
        · rfl
      · split
        · rename_i h2 h3 h4
          simp only [Bool.and_eq_true, beq_iff_eq, decide_eq_true_eq] at h2 h3 h4
          split
          · rename_i h5
            simp only [Bool.and_eq_true, decide_eq_true_eq, valid_iff] at h5
            unfold Scalar at h5
            exfalso
            repeat' split at h
            all_goals omega
          · rfl
        · rfl

/-- What the model tells of one byte, of two, of three, of four. -/
theorem decode_one (s : ByteArray) (i : Nat) (h : (s.get! (i + 0)).toNat < 128) : Utf8.decode s i = ((s.get! (i + 0)).toNat, 1) := by
  simp only [Utf8.decode]
  exact if_pos h
theorem decode_two (s : ByteArray) (i : Nat) (hn : i + 1 < s.size) (h0 : 194 ≤ (s.get! (i + 0)).toNat) (h1 : (s.get! (i + 0)).toNat ≤ 223) (h2 : 128 ≤ (s.get! (i + 1)).toNat) (h3 : (s.get! (i + 1)).toNat ≤ 191) :
    Utf8.decode s i = ((s.get! (i + 0)).toNat % 32 * 64 + (s.get! (i + 1)).toNat % 64, 2) := by
  simp only [Utf8.decode]
  rw [if_neg (by omega), if_pos (by simp only [Bool.and_eq_true, beq_iff_eq, decide_eq_true_eq]; omega), if_pos (by omega)]
theorem decode_three (s : ByteArray) (i : Nat) (hn : i + 2 < s.size) (h0 : 224 ≤ (s.get! (i + 0)).toNat) (h1 : (s.get! (i + 0)).toNat ≤ 239) (h2 : 128 ≤ (s.get! (i + 1)).toNat) (h3 : (s.get! (i + 1)).toNat ≤ 191)
    (h4 : 128 ≤ (s.get! (i + 2)).toNat) (h5 : (s.get! (i + 2)).toNat ≤ 191) (h6 : (s.get! (i + 0)).toNat = 224 → 160 ≤ (s.get! (i + 1)).toNat) (h7 : (s.get! (i + 0)).toNat = 237 → (s.get! (i + 1)).toNat ≤ 159) :
    Utf8.decode s i = ((s.get! (i + 0)).toNat % 16 * 4096 + (s.get! (i + 1)).toNat % 64 * 64 + (s.get! (i + 2)).toNat % 64, 3) := by
  simp only [Utf8.decode]
  rw [if_neg (by omega), if_neg (by simp only [Bool.and_eq_true, beq_iff_eq, decide_eq_true_eq]; omega), if_pos (by simp only [Bool.and_eq_true, beq_iff_eq, decide_eq_true_eq]; omega),
    if_pos (by simp only [Bool.and_eq_true, decide_eq_true_eq, valid_iff]; unfold Scalar; omega)]
theorem decode_four (s : ByteArray) (i : Nat) (hn : i + 3 < s.size) (h0 : 240 ≤ (s.get! (i + 0)).toNat) (h1 : (s.get! (i + 0)).toNat ≤ 244) (h2 : 128 ≤ (s.get! (i + 1)).toNat) (h3 : (s.get! (i + 1)).toNat ≤ 191)
    (h4 : 128 ≤ (s.get! (i + 2)).toNat) (h5 : (s.get! (i + 2)).toNat ≤ 191) (h8 : 128 ≤ (s.get! (i + 3)).toNat) (h9 : (s.get! (i + 3)).toNat ≤ 191) (h6 : (s.get! (i + 0)).toNat = 240 → 144 ≤ (s.get! (i + 1)).toNat) (h7 : (s.get! (i + 0)).toNat = 244 → (s.get! (i + 1)).toNat ≤ 143) :
    Utf8.decode s i = ((s.get! (i + 0)).toNat % 8 * 262144 + (s.get! (i + 1)).toNat % 64 * 4096 + (s.get! (i + 2)).toNat % 64 * 64 + (s.get! (i + 3)).toNat % 64, 4) := by
  simp only [Utf8.decode]
  rw [if_neg (by omega), if_neg (by simp only [Bool.and_eq_true, beq_iff_eq, decide_eq_true_eq]; omega), if_neg (by simp only [Bool.and_eq_true, beq_iff_eq, decide_eq_true_eq]; omega), if_pos (by simp only [Bool.and_eq_true, beq_iff_eq, decide_eq_true_eq]; omega),
    if_pos (by simp only [Bool.and_eq_true, decide_eq_true_eq, valid_iff]; unfold Scalar; omega)]

theorem dl_bad (l : List UInt8) (h : rt l = 0) (hl : l ≠ []) : dl l = (65533, 1) := by
  have h1 : l.length ≠ 0 := by simpa using hl
  refine decode_bad ⟨l.toArray⟩ 0 l.length (by rw [size_mk]; omega) ?_ h1
  rw [get_mk, get_mk, get_mk, get_mk]
  exact h

/-- A place in a text is the head of what is left there. -/
theorem decode_dl (s : ByteArray) (pos : Nat) (hp : pos < s.size) : Utf8.decode s pos = dl (s.data.toList.drop pos) := by
  have hlen := size_drop s pos
  have hmk := size_mk (s.data.toList.drop pos)
  have g : ∀ k, ((⟨(s.data.toList.drop pos).toArray⟩ : ByteArray).get! (0 + k)).toNat = (s.get! (pos + k)).toNat := fun k => by rw [get_mk, get_at']
  have g0 := g 0
  have g1 := g 1
  have g2 := g 2
  have g3 := g 3
  unfold dl
  by_cases h : rtN (s.size - pos) (s.get! (pos + 0)).toNat (s.get! (pos + 1)).toNat (s.get! (pos + 2)).toNat (s.get! (pos + 3)).toNat = 0
  · rw [decode_bad s pos (s.size - pos) (by omega) h (by omega), decode_bad _ 0 (s.size - pos) (by omega) (by rw [g0, g1, g2, g3]; exact h) (by omega)]
  · unfold rtN at h
    split at h
    · omega
    · split at h
      · rw [decode_one s pos (by omega), decode_one _ 0 (by omega), g0]
      · split at h
        · split at h
          · rw [decode_two s pos (by omega) (by omega) (by omega) (by omega) (by omega), decode_two _ 0 (by omega) (by omega) (by omega) (by omega) (by omega), g0, g1]
          · exact absurd rfl h
        · split at h
          · split at h
            · rw [decode_three s pos (by omega) (by omega) (by omega) (by omega) (by omega) (by omega) (by omega) (by omega) (by omega), decode_three _ 0 (by omega) (by omega) (by omega) (by omega) (by omega) (by omega) (by omega) (by omega) (by omega), g0, g1, g2]
            · exact absurd rfl h
          · split at h
            · split at h
              · rw [decode_four s pos (by omega) (by omega) (by omega) (by omega) (by omega) (by omega) (by omega) (by omega) (by omega) (by omega) (by omega), decode_four _ 0 (by omega) (by omega) (by omega) (by omega) (by omega) (by omega) (by omega) (by omega) (by omega) (by omega) (by omega), g0, g1, g2, g3]
              · exact absurd rfl h
            · exact absurd rfl h

theorem er1 {r : Nat} (h : r ≤ 127) : er r = [UInt8.ofNat r] := by
  unfold er Lib.encodeRune
  rw [Lib.encodeRuneZ_one (by omega) (by omega)]
  rfl
theorem er2 {r : Nat} (h0 : 128 ≤ r) (h : r ≤ 2047) : er r = [UInt8.ofNat (192 + r / 64), UInt8.ofNat (128 + r % 64)] := by
  unfold er Lib.encodeRune
  rw [Lib.encodeRuneZ_two (by omega) (by omega)]
  rfl
theorem er3 {r : Nat} (h : (2048 ≤ r ∧ r < 55296) ∨ (57343 < r ∧ r ≤ 65535)) : er r = [UInt8.ofNat (224 + r / 4096), UInt8.ofNat (128 + r / 64 % 64), UInt8.ofNat (128 + r % 64)] := by
  unfold er Lib.encodeRune
  rw [Lib.encodeRuneZ_three (by omega)]
  rfl
theorem er4 {r : Nat} (h0 : 65536 ≤ r) (h : r ≤ 1114111) : er r = [UInt8.ofNat (240 + r / 262144), UInt8.ofNat (128 + r / 4096 % 64), UInt8.ofNat (128 + r / 64 % 64), UInt8.ofNat (128 + r % 64)] := by
  unfold er Lib.encodeRune
  rw [Lib.encodeRuneZ_four (by omega) (by omega)]
  rfl
theorem ofNat_of {b : UInt8} {x : Nat} (h : x = b.toNat) : UInt8.ofNat x = b := by subst h; simp
theorem toNat_ofNat {x : Nat} (h : x < 256) : (UInt8.ofNat x).toNat = x := by simp; omega

/-- A right sequence at the head: its rune is a character's, the bytes are the rune's own. -/
theorem dl_good (l : List UInt8) (h : rt l ≠ 0) : ∃ r t, Scalar r ∧ l = er r ++ t ∧ dl l = (r, (er r).length) ∧ rt l = (er r).length := by
  have hsz := size_mk l
  have g0 := get_mk l 0
  have g1 := get_mk l 1
  have g2 := get_mk l 2
  have g3 := get_mk l 3
  unfold rt rtN at h
  unfold dl rt rtN
  split at h
  · exact absurd rfl h
  rename_i hn
  rw [if_neg hn]
  split at h
  · rename_i h1
    rw [if_pos h1, decode_one _ 0 (by omega), g0]
    obtain ⟨b0, t, rfl⟩ : ∃ b0 t, l = b0 :: t := by cases l; (simp at hn); exact ⟨_, _, rfl⟩
    have e0 : atN (b0 :: t) 0 = b0.toNat := rfl
    rw [e0] at h1 ⊢
    have hr : er b0.toNat = [b0] := by rw [er1 (by omega), ofNat_of rfl]
    exact ⟨b0.toNat, t, .inl (by omega), by rw [hr]; rfl, by rw [hr]; rfl, by rw [hr]; rfl⟩
  · rename_i h1
    rw [if_neg h1]
    split at h
    · rename_i h2
      rw [if_pos h2]
      split at h
      · rename_i h3
        rw [if_pos h3, decode_two _ 0 (by omega) (by omega) (by omega) (by omega) (by omega), g0, g1]
        obtain ⟨b0, b1, t, rfl⟩ : ∃ b0 b1 t, l = b0 :: b1 :: t := by
          match l, h3.1 with
          | b0 :: b1 :: t, _ => exact ⟨_, _, _, rfl⟩
        have e0 : atN (b0 :: b1 :: t) 0 = b0.toNat := rfl
        have e1 : atN (b0 :: b1 :: t) 1 = b1.toNat := rfl
        rw [e0] at h1 h2 ⊢
        rw [e1] at h3 ⊢
        have hr : er (b0.toNat % 32 * 64 + b1.toNat % 64) = [b0, b1] := by
          rw [er2 (by omega) (by omega), ofNat_of (b := b0) (by omega), ofNat_of (b := b1) (by omega)]
        exact ⟨b0.toNat % 32 * 64 + b1.toNat % 64, t, .inl (by omega), by rw [hr]; rfl, by rw [hr]; rfl, by rw [hr]; rfl⟩
      · exact absurd rfl h
    · rename_i h2
      rw [if_neg h2]
      split at h
      · rename_i h3
        rw [if_pos h3]
        split at h
        · rename_i h4
          rw [if_pos h4, decode_three _ 0 (by omega) (by omega) (by omega) (by omega) (by omega) (by omega) (by omega) (by omega) (by omega), g0, g1, g2]
          obtain ⟨b0, b1, b2, t, rfl⟩ : ∃ b0 b1 b2 t, l = b0 :: b1 :: b2 :: t := by
            match l, h4.1 with
            | b0 :: b1 :: b2 :: t, _ => exact ⟨_, _, _, _, rfl⟩
          have e0 : atN (b0 :: b1 :: b2 :: t) 0 = b0.toNat := rfl
          have e1 : atN (b0 :: b1 :: b2 :: t) 1 = b1.toNat := rfl
          have e2 : atN (b0 :: b1 :: b2 :: t) 2 = b2.toNat := rfl
          rw [e0, e1, e2] at h4
          rw [e0] at h1 h2 h3
          rw [e0, e1, e2]
          have hs : Scalar (b0.toNat % 16 * 4096 + b1.toNat % 64 * 64 + b2.toNat % 64) := by unfold Scalar; omega
          have hr : er (b0.toNat % 16 * 4096 + b1.toNat % 64 * 64 + b2.toNat % 64) = [b0, b1, b2] := by
            rw [er3 (by omega), ofNat_of (b := b0) (by omega), ofNat_of (b := b1) (by omega), ofNat_of (b := b2) (by omega)]
          exact ⟨_, t, hs, by rw [hr]; rfl, by rw [hr]; rfl, by rw [hr]; rfl⟩
        · exact absurd rfl h
      · rename_i h3
        rw [if_neg h3]
        split at h
        · rename_i h4
          rw [if_pos h4]
          split at h
          · rename_i h5
            rw [if_pos h5, decode_four _ 0 (by omega) (by omega) (by omega) (by omega) (by omega) (by omega) (by omega) (by omega) (by omega) (by omega) (by omega), g0, g1, g2, g3]
            obtain ⟨b0, b1, b2, b3, t, rfl⟩ : ∃ b0 b1 b2 b3 t, l = b0 :: b1 :: b2 :: b3 :: t := by
              match l, h5.1 with
              | b0 :: b1 :: b2 :: b3 :: t, _ => exact ⟨_, _, _, _, _, rfl⟩
            have e0 : atN (b0 :: b1 :: b2 :: b3 :: t) 0 = b0.toNat := rfl
            have e1 : atN (b0 :: b1 :: b2 :: b3 :: t) 1 = b1.toNat := rfl
            have e2 : atN (b0 :: b1 :: b2 :: b3 :: t) 2 = b2.toNat := rfl
            have e3 : atN (b0 :: b1 :: b2 :: b3 :: t) 3 = b3.toNat := rfl
            rw [e0, e1, e2, e3] at h5
            rw [e0] at h1 h2 h3 h4
            rw [e0, e1, e2, e3]
            have hs : Scalar (b0.toNat % 8 * 262144 + b1.toNat % 64 * 4096 + b2.toNat % 64 * 64 + b3.toNat % 64) := by unfold Scalar; omega
            have hr : er (b0.toNat % 8 * 262144 + b1.toNat % 64 * 4096 + b2.toNat % 64 * 64 + b3.toNat % 64) = [b0, b1, b2, b3] := by
              rw [er4 (by omega) (by omega), ofNat_of (b := b0) (by omega), ofNat_of (b := b1) (by omega), ofNat_of (b := b2) (by omega), ofNat_of (b := b3) (by omega)]
            exact ⟨_, t, hs, by rw [hr]; rfl, by rw [hr]; rfl, by rw [hr]; rfl⟩
          · exact absurd rfl h
        · exact absurd rfl h

/-- The bytes of a character's number are read as it. -/
theorem rt_er (r : Nat) (hs : Scalar r) (t : List UInt8) : rt (er r ++ t) = (er r).length := by
  unfold Scalar at hs
  by_cases h1 : r ≤ 127
  · rw [er1 h1]
    have e0 : atN ([UInt8.ofNat r] ++ t) 0 = r := toNat_ofNat (by omega)
    unfold rt rtN
    rw [e0, if_neg (by simp), if_pos (by omega)]
    rfl
  · by_cases h2 : r ≤ 2047
    · rw [er2 (by omega) h2]
      have e0 : atN ([UInt8.ofNat (192 + r / 64), UInt8.ofNat (128 + r % 64)] ++ t) 0 = 192 + r / 64 := toNat_ofNat (by omega)
      have e1 : atN ([UInt8.ofNat (192 + r / 64), UInt8.ofNat (128 + r % 64)] ++ t) 1 = 128 + r % 64 := toNat_ofNat (by omega)
      unfold rt rtN
      rw [e0, e1, if_neg (by simp), if_neg (by omega), if_pos (by omega), if_pos ⟨by simp, by omega, by omega⟩]
      rfl
    · by_cases h3 : r ≤ 65535
      · rw [er3 (by omega)]
        have e0 : atN ([UInt8.ofNat (224 + r / 4096), UInt8.ofNat (128 + r / 64 % 64), UInt8.ofNat (128 + r % 64)] ++ t) 0 = 224 + r / 4096 := toNat_ofNat (by omega)
        have e1 : atN ([UInt8.ofNat (224 + r / 4096), UInt8.ofNat (128 + r / 64 % 64), UInt8.ofNat (128 + r % 64)] ++ t) 1 = 128 + r / 64 % 64 := toNat_ofNat (by omega)
        have e2 : atN ([UInt8.ofNat (224 + r / 4096), UInt8.ofNat (128 + r / 64 % 64), UInt8.ofNat (128 + r % 64)] ++ t) 2 = 128 + r % 64 := toNat_ofNat (by omega)
        unfold rt rtN
        rw [e0, e1, e2, if_neg (by simp), if_neg (by omega), if_neg (by omega), if_pos (by omega), if_pos ⟨by simp, by omega, by omega, by omega, by omega, by omega, by omega⟩]
        rfl
      · rw [er4 (by omega) (by omega)]
        have e0 : atN ([UInt8.ofNat (240 + r / 262144), UInt8.ofNat (128 + r / 4096 % 64), UInt8.ofNat (128 + r / 64 % 64), UInt8.ofNat (128 + r % 64)] ++ t) 0 = 240 + r / 262144 := toNat_ofNat (by omega)
        have e1 : atN ([UInt8.ofNat (240 + r / 262144), UInt8.ofNat (128 + r / 4096 % 64), UInt8.ofNat (128 + r / 64 % 64), UInt8.ofNat (128 + r % 64)] ++ t) 1 = 128 + r / 4096 % 64 := toNat_ofNat (by omega)
        have e2 : atN ([UInt8.ofNat (240 + r / 262144), UInt8.ofNat (128 + r / 4096 % 64), UInt8.ofNat (128 + r / 64 % 64), UInt8.ofNat (128 + r % 64)] ++ t) 2 = 128 + r / 64 % 64 := toNat_ofNat (by omega)
        have e3 : atN ([UInt8.ofNat (240 + r / 262144), UInt8.ofNat (128 + r / 4096 % 64), UInt8.ofNat (128 + r / 64 % 64), UInt8.ofNat (128 + r % 64)] ++ t) 3 = 128 + r % 64 := toNat_ofNat (by omega)
        unfold rt rtN
        rw [e0, e1, e2, e3, if_neg (by simp), if_neg (by omega), if_neg (by omega), if_neg (by omega), if_pos (by omega), if_pos ⟨by simp, by omega, by omega, by omega, by omega, by omega, by omega, by omega, by omega⟩]
        rfl

theorem er_len (r : Nat) : 1 ≤ (er r).length ∧ (er r).length ≤ 4 := by
  have := Lib.runeCells_le (r : Int)
  rw [Lib.runeCells_length] at this
  exact this

theorem ofNat_inj {x y : Nat} (hx : x < 256) (hy : y < 256) (h : UInt8.ofNat x = UInt8.ofNat y) : x = y := by
  have := congrArg UInt8.toNat h
  rw [toNat_ofNat hx, toNat_ofNat hy] at this
  exact this

theorem er_inj {r q : Nat} (hr : Scalar r) (hq : Scalar q) (h : er r = er q) : r = q := by
  unfold Scalar at hr hq
  have key : ∀ x : Nat, (x < 55296 ∨ (57344 ≤ x ∧ x ≤ 1114111)) → (x ≤ 127 ∧ er x = [UInt8.ofNat x]) ∨ (128 ≤ x ∧ x ≤ 2047 ∧ er x = [UInt8.ofNat (192 + x / 64), UInt8.ofNat (128 + x % 64)])
      ∨ (2048 ≤ x ∧ x ≤ 65535 ∧ er x = [UInt8.ofNat (224 + x / 4096), UInt8.ofNat (128 + x / 64 % 64), UInt8.ofNat (128 + x % 64)])
      ∨ (65536 ≤ x ∧ x ≤ 1114111 ∧ er x = [UInt8.ofNat (240 + x / 262144), UInt8.ofNat (128 + x / 4096 % 64), UInt8.ofNat (128 + x / 64 % 64), UInt8.ofNat (128 + x % 64)]) := by
    intro x hx
    by_cases h1 : x ≤ 127
    · exact .inl ⟨h1, er1 h1⟩
    · by_cases h2 : x ≤ 2047
      · exact .inr (.inl ⟨by omega, h2, er2 (by omega) h2⟩)
      · by_cases h3 : x ≤ 65535
        · exact .inr (.inr (.inl ⟨by omega, h3, er3 (by omega)⟩))
        · exact .inr (.inr (.inr ⟨by omega, by omega, er4 (by omega) (by omega)⟩))
  rcases key r hr with ⟨a, ea⟩ | ⟨a, a', ea⟩ | ⟨a, a', ea⟩ | ⟨a, a', ea⟩ <;> rcases key q hq with ⟨b, eb⟩ | ⟨b, b', eb⟩ | ⟨b, b', eb⟩ | ⟨b, b', eb⟩ <;> rw [ea, eb] at h <;> simp only [List.cons.injEq, and_true, reduceCtorEq, and_false] at h
  · exact ofNat_inj (by omega) (by omega) h
  · have h0 := ofNat_inj (by omega) (by omega) h.1
    have h1 := ofNat_inj (by omega) (by omega) h.2
    omega
  · have h0 := ofNat_inj (by omega) (by omega) h.1
    have h1 := ofNat_inj (by omega) (by omega) h.2.1
    have h2 := ofNat_inj (by omega) (by omega) h.2.2
    omega
  · have h0 := ofNat_inj (by omega) (by omega) h.1
    have h1 := ofNat_inj (by omega) (by omega) h.2.1
    have h2 := ofNat_inj (by omega) (by omega) h.2.2.1
    have h3 := ofNat_inj (by omega) (by omega) h.2.2.2
    omega

theorem dl_er (r : Nat) (hs : Scalar r) (t : List UInt8) : dl (er r ++ t) = (r, (er r).length) := by
  have h := rt_er r hs t
  have hp := er_len r
  obtain ⟨q, u, hq, he, hd, hrt⟩ := dl_good (er r ++ t) (by omega)
  have hlen : (er r).length = (er q).length := by omega
  have e : er r = er q := List.append_inj_left he hlen
  rw [hd, er_inj hs hq e]

/-- A list of bytes begins with a right sequence, or it does not. -/
theorem dl_cases (l : List UInt8) (hl : l ≠ []) : (rt l = 0 ∧ dl l = (65533, 1)) ∨ ∃ r t, Scalar r ∧ l = er r ++ t ∧ dl l = (r, (er r).length) ∧ rt l = (er r).length := by
  by_cases h : rt l = 0
  · exact .inl ⟨h, dl_bad l h hl⟩
  · exact .inr (dl_good l h)

/-- What a byte is that is lower than 128 in the rune's bytes. -/
theorem er_bytes (r : Nat) (hs : Scalar r) : (r < 128 ∧ er r = [UInt8.ofNat r]) ∨ (128 ≤ r ∧ ∀ x ∈ er r, 128 ≤ x.toNat) := by
  unfold Scalar at hs
  by_cases h1 : r ≤ 127
  · exact .inl ⟨by omega, er1 h1⟩
  · refine .inr ⟨by omega, ?_⟩
    by_cases h2 : r ≤ 2047
    · rw [er2 (by omega) h2]
      simp only [List.mem_cons, List.not_mem_nil, or_false, forall_eq_or_imp, forall_eq]
      rw [toNat_ofNat (by omega), toNat_ofNat (by omega)]; omega
    · by_cases h3 : r ≤ 65535
      · rw [er3 (by omega)]
        simp only [List.mem_cons, List.not_mem_nil, or_false, forall_eq_or_imp, forall_eq]
        rw [toNat_ofNat (by omega), toNat_ofNat (by omega), toNat_ofNat (by omega)]; omega
      · rw [er4 (by omega) (by omega)]
        simp only [List.mem_cons, List.not_mem_nil, or_false, forall_eq_or_imp, forall_eq]
        rw [toNat_ofNat (by omega), toNat_ofNat (by omega), toNat_ofNat (by omega), toNat_ofNat (by omega)]; omega

/-! ### The runes of a text -/

/-- A text's runes, as ranging over it tells them, at most so many. -/
def runesF : Nat → List UInt8 → List Nat
  | 0, _ => []
  | n + 1, l => if l = [] then [] else (dl l).1 :: runesF n (l.drop (dl l).2)
/-- A text's runes, as ranging over it tells them. -/
def runes (l : List UInt8) : List Nat := runesF l.length l

theorem dl_width (l : List UInt8) (hl : l ≠ []) : 1 ≤ (dl l).2 ∧ (dl l).2 ≤ 4 ∧ (dl l).2 ≤ l.length := by
  rcases dl_cases l hl with ⟨_, hd⟩ | ⟨r, t, _, he, hd, _⟩
  · rw [hd]
    have : l.length ≠ 0 := by simpa using hl
    exact ⟨Nat.le_refl _, by decide, by show 1 ≤ l.length; omega⟩
  · have := er_len r
    rw [hd]
    refine ⟨this.1, this.2, ?_⟩
    rw [he, List.length_append]
    exact Nat.le_add_right _ _

theorem runesF_more : ∀ (n m : Nat) (l : List UInt8), l.length ≤ n → l.length ≤ m → runesF n l = runesF m l
  | 0, m, l, hn, _ => by
    have : l = [] := List.length_eq_zero_iff.1 (by omega)
    subst this
    cases m <;> simp [runesF]
  | n + 1, 0, l, _, hm => by
    have : l = [] := List.length_eq_zero_iff.1 (by omega)
    subst this
    simp [runesF]
  | n + 1, m + 1, l, hn, hm => by
    rw [runesF, runesF]
    by_cases hl : l = []
    · rw [if_pos hl, if_pos hl]
    · have hw := dl_width l hl
      rw [if_neg hl, if_neg hl, runesF_more n m _ (by simp; omega) (by simp; omega)]
theorem runes_step (l : List UInt8) (hl : l ≠ []) : runes l = (dl l).1 :: runes (l.drop (dl l).2) := by
  have hw := dl_width l hl
  unfold runes
  obtain ⟨k, hk⟩ : ∃ k, l.length = k + 1 := ⟨l.length - 1, by omega⟩
  rw [hk, runesF, if_neg hl, runesF_more k (l.drop (dl l).2).length _ (by simp; omega) (Nat.le_refl _)]
theorem runes_nil : runes [] = [] := rfl

theorem runes_er (r : Nat) (hs : Scalar r) (t : List UInt8) : runes (er r ++ t) = r :: runes t := by
  have := er_len r
  have hne : er r ++ t ≠ [] := by
    intro e
    have := congrArg List.length e
    simp only [List.length_append, List.length_nil] at this
    omega
  rw [runes_step _ hne, dl_er r hs t]
  simp

/-- The bytes of a list of runes. -/
def enc (rs : List Nat) : List UInt8 := (rs.map er).flatten
theorem enc_nil : enc [] = [] := rfl
theorem enc_cons (r : Nat) (rs : List Nat) : enc (r :: rs) = er r ++ enc rs := rfl
theorem enc_append (a b : List Nat) : enc (a ++ b) = enc a ++ enc b := by simp [enc]

theorem runes_enc (rs : List Nat) (h : ∀ r ∈ rs, Scalar r) (t : List UInt8) : runes (enc rs ++ t) = rs ++ runes t := by
  induction rs with
  | nil => simp [enc_nil]
  | cons r rs ih =>
    rw [enc_cons, List.append_assoc, runes_er r (h r (by simp)), ih (fun x hx => h x (by simp [hx]))]
    rfl

theorem scalar_err : Scalar 65533 := .inr ⟨by decide, by decide⟩

theorem dl_scalar (l : List UInt8) (hl : l ≠ []) : Scalar (dl l).1 := by
  rcases dl_cases l hl with ⟨_, hd⟩ | ⟨r, t, hr, _, hd, _⟩
  · rw [hd]; exact scalar_err
  · rw [hd]; exact hr

theorem runes_scalar (l : List UInt8) : ∀ r ∈ runes l, Scalar r := by
  induction h : l.length using Nat.strongRecOn generalizing l with
  | ind n ih =>
    intro r hr
    by_cases hl : l = []
    · subst hl; rw [runes_nil] at hr; simp at hr
    · rw [runes_step l hl] at hr
      have hw := dl_width l hl
      rcases List.mem_cons.1 hr with rfl | hr
      · exact dl_scalar l hl
      · exact ih (l.drop (dl l).2).length (by simp; omega) _ rfl r hr

/-- Are all characters right? -/
def valid (l : List UInt8) : Bool := enc (runes l) == l

theorem valid_step_good (r : Nat) (hs : Scalar r) (t : List UInt8) : valid (er r ++ t) = valid t := by
  unfold valid
  rw [runes_er r hs, enc_cons, Bool.eq_iff_iff]
  simp

/-- A right sequence is told by its rune and the bytes. -/
theorem right_iff (l : List UInt8) (hl : l ≠ []) : rt l ≠ 0 ↔ (dl l).1 ≠ 65533 ∨ [239, 191, 189] <+: l := by
  have e65 : er 65533 = [239, 191, 189] := by decide
  constructor
  · intro h
    obtain ⟨r, t, hr, he, hd, _⟩ := dl_good l h
    by_cases h5 : r = 65533
    · refine .inr ⟨t, ?_⟩
      rw [he, h5, e65]
    · left
      rw [hd]
      exact h5
  · rintro (h | ⟨t, ht⟩) h0
    · exact h (by rw [dl_bad l h0 hl])
    · have := rt_er 65533 scalar_err t
      rw [e65, ht, h0] at this
      exact absurd this (by decide)

theorem enc_runes_len (l : List UInt8) : l.length ≤ (enc (runes l)).length := by
  induction h : l.length using Nat.strongRecOn generalizing l with
  | ind n ih =>
    by_cases hl : l = []
    · subst hl; simp at h; omega
    · rw [runes_step l hl, enc_cons, List.length_append]
      have hw := dl_width l hl
      have h2 := ih (l.drop (dl l).2).length (by simp; omega) _ rfl
      simp at h2
      have h3 : (dl l).2 ≤ (er (dl l).1).length := by
        rcases dl_cases l hl with ⟨_, hd⟩ | ⟨r, t, _, _, hd, _⟩
        · rw [hd]; exact (er_len _).1
        · rw [hd]; exact Nat.le_refl _
      omega

theorem valid_step (l : List UInt8) (hl : l ≠ []) : valid l = (decide (rt l ≠ 0) && valid (l.drop (dl l).2)) := by
  rcases dl_cases l hl with ⟨h0, hd⟩ | ⟨r, t, hr, he, hd, hrt⟩
  · rw [h0, hd]
    simp only [ne_eq, not_true_eq_false, decide_false, Bool.false_and]
    unfold valid
    rw [beq_eq_false_iff_ne]
    intro e
    rw [runes_step l hl, hd, enc_cons] at e
    have hr := rt_er 65533 scalar_err (enc (runes (l.drop 1)))
    rw [e, h0] at hr
    exact absurd hr (by decide)
  · have h1 := er_len r
    rw [hrt, hd, decide_eq_true (by omega), Bool.true_and]
    rw [he, valid_step_good r hr]
    simp

theorem valid_enc (rs : List Nat) (h : ∀ r ∈ rs, Scalar r) : valid (enc rs) = true := by
  unfold valid
  have := runes_enc rs h []
  rw [List.append_nil, runes_nil, List.append_nil] at this
  rw [this]
  simp

/-! ### Small letters -/
def low8 (b : UInt8) : UInt8 := if 65 ≤ b.toNat ∧ b.toNat ≤ 90 then UInt8.ofNat (b.toNat + 32) else b
def lowN (r : Nat) : Nat := if 65 ≤ r ∧ r ≤ 90 then r + 32 else r
theorem low8_toNat (b : UInt8) : (low8 b).toNat = lowN b.toNat := by
  unfold low8 lowN
  split
  · rw [toNat_ofNat (by omega)]
  · rfl
def lower (l : List UInt8) : List UInt8 := l.map low8

theorem lower_er (r : Nat) (hs : Scalar r) : lower (er r) = er (lowN r) := by
  rcases er_bytes r hs with ⟨h, e⟩ | ⟨h, e⟩
  · rw [e]
    unfold lowN
    by_cases hu : 65 ≤ r ∧ r ≤ 90
    · rw [if_pos hu, er1 (by omega)]
      simp only [lower, low8, List.map_cons, List.map_nil]
      rw [toNat_ofNat (by omega), if_pos hu]
    · rw [if_neg hu, e]
      simp only [lower, low8, List.map_cons, List.map_nil]
      rw [toNat_ofNat (by omega), if_neg hu]
  · have : lowN r = r := by unfold lowN; rw [if_neg (by omega)]
    rw [this]
    unfold lower
    conv => rhs; rw [← List.map_id (er r)]
    apply List.map_congr_left
    intro x hx
    have := e x hx
    unfold low8
    rw [if_neg (by omega)]
    rfl

theorem lowN_scalar (r : Nat) (h : Scalar r) : Scalar (lowN r) := by
  unfold Scalar at *
  unfold lowN
  split <;> omega

theorem atN_lower (l : List UInt8) (k : Nat) : atN (lower l) k = lowN (atN l k) := by
  unfold atN lower
  rw [List.getD_eq_getElem?_getD, List.getD_eq_getElem?_getD, List.getElem?_map]
  cases l[k]? with
  | none => rfl
  | some b => exact low8_toNat b

theorem rt_lower (l : List UInt8) : rt (lower l) = rt l := by
  unfold rt
  rw [atN_lower, atN_lower, atN_lower, atN_lower]
  have hl : (lower l).length = l.length := by simp [lower]
  rw [hl]
  generalize atN l 0 = a
  generalize atN l 1 = b
  generalize atN l 2 = c
  generalize atN l 3 = d
  have key : ∀ x : Nat, (lowN x < 128 ↔ x < 128) ∧ (128 ≤ x → lowN x = x) := by
    intro x
    unfold lowN
    split <;> omega
  have ka := key a
  have kb := key b
  have kc := key c
  have kd := key d
  unfold rtN
  by_cases ha : a < 128
  · rw [if_pos ha, if_pos (ka.1.2 ha)]
  · rw [ka.2 (by omega)]
    generalize hb : lowN b = b' at *
    generalize hc : lowN c = c' at *
    generalize hd : lowN d = d' at *
    have e1 : (128 ≤ b' ∧ b' ≤ 191) = (128 ≤ b ∧ b ≤ 191) := propext (by omega)
    have e2 : ∀ X, (X ∧ (a = 224 → 160 ≤ b') ∧ 128 ≤ b' ∧ b' ≤ 191 ∧ (a = 237 → b' ≤ 159) ∧ 128 ≤ c' ∧ c' ≤ 191) = (X ∧ (a = 224 → 160 ≤ b) ∧ 128 ≤ b ∧ b ≤ 191 ∧ (a = 237 → b ≤ 159) ∧ 128 ≤ c ∧ c ≤ 191) := fun X => propext (and_congr_right fun _ => by omega)
    have e3 : ∀ X, (X ∧ (a = 240 → 144 ≤ b') ∧ 128 ≤ b' ∧ b' ≤ 191 ∧ (a = 244 → b' ≤ 143) ∧ 128 ≤ c' ∧ c' ≤ 191 ∧ 128 ≤ d' ∧ d' ≤ 191) = (X ∧ (a = 240 → 144 ≤ b) ∧ 128 ≤ b ∧ b ≤ 191 ∧ (a = 244 → b ≤ 143) ∧ 128 ≤ c ∧ c ≤ 191 ∧ 128 ≤ d ∧ d ≤ 191) := fun X => propext (and_congr_right fun _ => by omega)
    simp only [e1, e2, e3]

theorem dl_snd (l : List UInt8) (hl : l ≠ []) : (dl l).2 = max (rt l) 1 := by
  rcases dl_cases l hl with ⟨h0, hd⟩ | ⟨r, t, _, _, hd, hrt⟩
  · rw [hd, h0]; rfl
  · rw [hd, hrt]
    have := er_len r
    show (er r).length = _
    omega

theorem lower_drop (l : List UInt8) (k : Nat) : (lower l).drop k = lower (l.drop k) := by simp [lower, List.map_drop]
theorem lower_nil_iff (l : List UInt8) : lower l = [] ↔ l = [] := by simp [lower]

theorem valid_lower (l : List UInt8) : valid (lower l) = valid l := by
  induction h : l.length using Nat.strongRecOn generalizing l with
  | ind n ih =>
    by_cases hl : l = []
    · subst hl; rfl
    · have hl' : lower l ≠ [] := fun e => hl ((lower_nil_iff l).1 e)
      have hw := dl_width l hl
      rw [valid_step _ hl', valid_step l hl, rt_lower, dl_snd _ hl', rt_lower, ← dl_snd l hl, lower_drop, ih (l.drop (dl l).2).length (by simp; omega) _ rfl]

theorem lower_lower (l : List UInt8) : lower (lower l) = lower l := by
  unfold lower
  rw [List.map_map]
  apply List.map_congr_left
  intro b _
  apply UInt8.toNat_inj.1
  show (low8 (low8 b)).toNat = _
  rw [low8_toNat, low8_toNat]
  unfold lowN
  repeat' split
  all_goals omega

theorem lower_no (l : List UInt8) : ∀ b ∈ lower l, ¬ (65 ≤ b.toNat ∧ b.toNat ≤ 90) := by
  intro b hb
  simp only [lower, List.mem_map] at hb
  obtain ⟨c, _, rfl⟩ := hb
  rw [low8_toNat]
  unfold lowN
  split <;> omega

/-- The head's bytes, made small. -/
theorem low_head (l : List UInt8) (hl : l ≠ []) :
    (65 ≤ (dl l).1 ∧ (dl l).1 ≤ 90 ∧ (dl l).2 = 1 ∧ (dl l).1 = atN l 0) ∨
    (¬ (65 ≤ (dl l).1 ∧ (dl l).1 ≤ 90) ∧ lower (l.take (dl l).2) = l.take (dl l).2) := by
  rcases dl_cases l hl with ⟨h0, hd⟩ | ⟨r, t, hr, he, hd, hrt⟩
  · right
    rw [hd]
    refine ⟨by show ¬ (65 ≤ 65533 ∧ 65533 ≤ 90); omega, ?_⟩
    cases l with
    | nil => exact absurd rfl hl
    | cons b t =>
      have : ¬ b.toNat < 128 := by
        intro hb
        have : rt (b :: t) = 1 := by
          unfold rt rtN
          rw [if_neg (by simp)]
          exact if_pos hb
        omega
      simp only [List.take_succ_cons, List.take_zero, lower, List.map_cons, List.map_nil, low8]
      rw [if_neg (by omega)]
  · rw [hd]
    have ht : l.take (er r).length = er r := by rw [he]; simp
    by_cases hu : 65 ≤ r ∧ r ≤ 90
    · left
      have h1 : er r = [UInt8.ofNat r] := er1 (by omega)
      refine ⟨hu.1, hu.2, by rw [h1]; rfl, ?_⟩
      rw [he, h1]
      show r = (UInt8.ofNat r).toNat
      rw [toNat_ofNat (by omega)]
    · right
      refine ⟨hu, ?_⟩
      show lower (l.take (er r).length) = l.take (er r).length
      rw [ht, lower_er r hr]
      unfold lowN
      rw [if_neg hu]

/-! ### Bytes as a right text -/
def one (last r : Nat) : List Nat := if r = 0 then [65533] else if r = 13 then [10] else if r = 10 ∧ last = 13 then [] else [r]
def fixR : Nat → List Nat → List Nat
  | _, [] => []
  | last, r :: t => one last r ++ fixR r t
def fix (l : List UInt8) : List UInt8 := enc (fixR 0 (runes l))

theorem one_scalar (last r : Nat) (h : Scalar r) : ∀ x ∈ one last r, Scalar x ∧ x ≠ 0 ∧ x ≠ 13 := by
  intro x hx
  unfold one at hx
  split at hx
  · simp at hx; subst hx; exact ⟨scalar_err, by decide, by decide⟩
  · split at hx
    · simp at hx; subst hx; exact ⟨.inl (by decide), by decide, by decide⟩
    · split at hx
      · simp at hx
      · simp at hx; subst hx; exact ⟨h, by assumption, by assumption⟩

theorem fixR_scalar : ∀ (rs : List Nat) (last : Nat), (∀ r ∈ rs, Scalar r) → ∀ x ∈ fixR last rs, Scalar x ∧ x ≠ 0 ∧ x ≠ 13
  | [], _, _, x, hx => by simp [fixR] at hx
  | r :: t, last, h, x, hx => by
    rw [fixR, List.mem_append] at hx
    rcases hx with hx | hx
    · exact one_scalar last r (h r (by simp)) x hx
    · exact fixR_scalar t r (fun y hy => h y (by simp [hy])) x hx

theorem fixR_same : ∀ (rs : List Nat) (last : Nat), last ≠ 13 → (∀ r ∈ rs, r ≠ 0 ∧ r ≠ 13) → fixR last rs = rs
  | [], _, _, _ => rfl
  | r :: t, last, hl, h => by
    have hr := h r (by simp)
    rw [fixR, fixR_same t r hr.2 (fun y hy => h y (by simp [hy]))]
    unfold one
    rw [if_neg hr.1, if_neg hr.2, if_neg (fun e => hl e.2)]
    rfl

theorem fixR_last (rs : List Nat) (a b : Nat) (ha : a ≠ 13) (hb : b ≠ 13) : fixR a rs = fixR b rs := by
  cases rs with
  | nil => rfl
  | cons r t =>
    rw [fixR, fixR]
    unfold one
    simp [ha, hb]

theorem fixR_append : ∀ (rs qs : List Nat) (last : Nat), fixR last (rs ++ qs) = fixR last rs ++ fixR (rs.getLast?.getD last) qs
  | [], _, _ => rfl
  | r :: t, qs, last => by
    rw [List.cons_append, fixR, fixR, fixR_append t qs r, List.append_assoc]
    congr 2
    cases t with
    | nil => rfl
    | cons x t => rw [List.getLast?_cons_cons]; simp [List.getLast?_cons]

theorem fix_scalar (l : List UInt8) : ∀ x ∈ fixR 0 (runes l), Scalar x ∧ x ≠ 0 ∧ x ≠ 13 := fixR_scalar _ _ (runes_scalar l)

theorem valid_fix (l : List UInt8) : valid (fix l) = true := valid_enc _ fun r hr => (fix_scalar l r hr).1

theorem runes_fix (l : List UInt8) : runes (fix l) = fixR 0 (runes l) := by
  have := runes_enc (fixR 0 (runes l)) (fun r hr => (fix_scalar l r hr).1) []
  rw [List.append_nil, runes_nil, List.append_nil] at this
  exact this

theorem fix_fix (l : List UInt8) : fix (fix l) = fix l := by
  show enc (fixR 0 (runes (fix l))) = _
  rw [runes_fix, fixR_same _ 0 (by decide) (fun r hr => (fix_scalar l r hr).2)]
  rfl

theorem er_no (r : Nat) (hs : Scalar r) (k : Nat) (hk : k < 128) (hr : r ≠ k) : ∀ x ∈ er r, x.toNat ≠ k := by
  intro x hx
  rcases er_bytes r hs with ⟨h, e⟩ | ⟨_, e⟩
  · rw [e] at hx
    simp only [List.mem_singleton] at hx
    subst hx
    rw [toNat_ofNat (by omega)]
    exact hr
  · have := e x hx
    omega

theorem fix_no (l : List UInt8) : ∀ x ∈ fix l, x.toNat ≠ 0 ∧ x.toNat ≠ 13 := by
  intro x hx
  unfold fix enc at hx
  rw [List.mem_flatten] at hx
  obtain ⟨c, hc, hx⟩ := hx
  rw [List.mem_map] at hc
  obtain ⟨r, hr, rfl⟩ := hc
  have h := fix_scalar l r hr
  exact ⟨er_no r h.1 0 (by decide) h.2.1 x hx, er_no r h.1 13 (by decide) h.2.2 x hx⟩

theorem runes_mem (l : List UInt8) (k : Nat) (hk : k < 128) (h : ∀ x ∈ l, x.toNat ≠ k) : ∀ r ∈ runes l, r ≠ k := by
  induction hn : l.length using Nat.strongRecOn generalizing l with
  | ind n ih =>
    intro r hr
    by_cases hl : l = []
    · subst hl; rw [runes_nil] at hr; simp at hr
    · rw [runes_step l hl] at hr
      have hw := dl_width l hl
      rcases List.mem_cons.1 hr with rfl | hr
      · intro e
        rcases dl_cases l hl with ⟨_, hd⟩ | ⟨q, t, hq, he, hd, _⟩
        · rw [hd] at e
          have : (65533 : Nat) = k := e
          omega
        · rw [hd] at e
          have e' : q = k := e
          subst e'
          have hm : UInt8.ofNat q ∈ l := by rw [he, er1 (by omega)]; simp
          exact h _ hm (toNat_ofNat (by omega))
      · exact ih (l.drop (dl l).2).length (by simp; omega) _ (fun x hx => h x (List.mem_of_mem_drop hx)) rfl r hr

theorem fix_plain (l : List UInt8) (hv : valid l = true) (h : ∀ x ∈ l, x.toNat ≠ 0 ∧ x.toNat ≠ 13) : fix l = l := by
  unfold fix
  rw [fixR_same _ 0 (by decide) (fun r hr => ⟨runes_mem l 0 (by decide) (fun x hx => (h x hx).1) r hr, runes_mem l 13 (by decide) (fun x hx => (h x hx).2) r hr⟩)]
  unfold valid at hv
  exact beq_iff_eq.1 hv

theorem enc_getLast (rs : List Nat) (h : ∀ r ∈ rs, Scalar r) (he : (enc rs).getLast? ≠ some 13) : rs.getLast? ≠ some 13 := by
  intro e
  obtain ⟨init, rfl⟩ := List.getLast?_eq_some_iff.1 e
  apply he
  rw [enc_append, enc_cons, enc_nil]
  have : er 13 = [13] := by decide
  rw [this]
  simp

/-- A right text that ends with no byte 13, and bytes behind it. -/
theorem fix_append (a b : List UInt8) (hv : valid a = true) (he : a.getLast? ≠ some 13) : fix (a ++ b) = fix a ++ fix b := by
  unfold valid at hv
  have ha := beq_iff_eq.1 hv
  unfold fix
  have hr : runes (a ++ b) = runes a ++ runes b := by
    conv => lhs; rw [← ha]
    exact runes_enc _ (runes_scalar a) b
  rw [hr, fixR_append, enc_append]
  congr 2
  have h1 := enc_getLast (runes a) (runes_scalar a) (by rw [ha]; exact he)
  cases hg : (runes a).getLast? with
  | none => rfl
  | some x =>
    rw [hg] at h1
    exact fixR_last _ _ _ (fun e => h1 (by rw [← e]; rfl)) (by decide)

/-- The document's own way: what stands behind is looked at. -/
def fixQ : List Nat → List Nat
  | [] => []
  | r :: t => (if r = 0 then [65533] else if r = 13 then (if t.head? = some 10 then [] else [10]) else [r]) ++ fixQ t

theorem fixR_fixQ : ∀ (rs : List Nat), (∀ last, last ≠ 13 → fixR last rs = fixQ rs) ∧ fixR 13 rs = (if rs.head? = some 10 then fixQ rs.tail else fixQ rs)
  | [] => ⟨fun _ _ => rfl, rfl⟩
  | r :: t => by
    have ih := fixR_fixQ t
    have hstep : ∀ last, (r = 10 → last ≠ 13) → fixR last (r :: t) = fixQ (r :: t) := by
      intro last hl
      rw [fixR, fixQ]
      unfold one
      by_cases h0 : r = 0
      · rw [if_pos h0, if_pos h0, ih.1 r (by omega)]
      · rw [if_neg h0, if_neg h0]
        by_cases h13 : r = 13
        · rw [if_pos h13, if_pos h13, h13, ih.2]
          by_cases ht : t.head? = some 10
          · rw [if_pos ht, if_pos ht]
            cases t with
            | nil => simp at ht
            | cons x t =>
              have hx : x = 10 := by simpa using ht
              subst hx
              simp [fixQ]
          · rw [if_neg ht, if_neg ht]
        · rw [if_neg h13, if_neg h13, if_neg (fun e => hl e.1 e.2), ih.1 r h13]
    refine ⟨fun last hl => hstep last (fun _ => hl), ?_⟩
    by_cases h10 : r = 10
    · subst h10
      simp only [List.head?_cons, if_true, List.tail_cons]
      rw [fixR]
      simp [one, ih.1 10 (by decide)]
    · have : (r :: t).head? ≠ some 10 := by simpa using h10
      rw [if_neg this]
      exact hstep 13 (fun e => absurd e h10)

theorem fix_fixQ (l : List UInt8) : fix l = enc (fixQ (runes l)) := by
  unfold fix
  rw [(fixR_fixQ _).1 0 (by decide)]

/-! ### A text, cut -/
/-- The longest beginning of whole characters with at most n bytes, in at most so many steps: how many bytes it has. -/
def cutRF : Nat → Nat → List UInt8 → Nat
  | 0, _, _ => 0
  | k + 1, n, l => if l = [] then 0 else if (dl l).2 ≤ n then (dl l).2 + cutRF k (n - (dl l).2) (l.drop (dl l).2) else 0
/-- The longest beginning of whole characters with at most n bytes: how many bytes it has. -/
def cutR (n : Nat) (l : List UInt8) : Nat := cutRF l.length n l

theorem cutRF_more : ∀ (k m n : Nat) (l : List UInt8), l.length ≤ k → l.length ≤ m → cutRF k n l = cutRF m n l
  | 0, m, n, l, hn, _ => by
    have : l = [] := List.length_eq_zero_iff.1 (by omega)
    subst this
    cases m <;> simp [cutRF]
  | k + 1, 0, n, l, _, hm => by
    have : l = [] := List.length_eq_zero_iff.1 (by omega)
    subst this
    simp [cutRF]
  | k + 1, m + 1, n, l, hn, hm => by
    rw [cutRF, cutRF]
    by_cases hl : l = []
    · rw [if_pos hl, if_pos hl]
    · have hw := dl_width l hl
      rw [if_neg hl, if_neg hl, cutRF_more k m _ _ (by simp; omega) (by simp; omega)]
theorem cutR_nil (n : Nat) : cutR n [] = 0 := rfl
theorem cutR_step (n : Nat) (l : List UInt8) (hl : l ≠ []) : cutR n l = if (dl l).2 ≤ n then (dl l).2 + cutR (n - (dl l).2) (l.drop (dl l).2) else 0 := by
  have hw := dl_width l hl
  unfold cutR
  obtain ⟨k, hk⟩ : ∃ k, l.length = k + 1 := ⟨l.length - 1, by omega⟩
  rw [hk, cutRF, if_neg hl, cutRF_more k (l.drop (dl l).2).length _ _ (by simp; omega) (Nat.le_refl _)]

theorem cutR_le (n : Nat) (l : List UInt8) : cutR n l ≤ n ∧ cutR n l ≤ l.length := by
  induction h : l.length using Nat.strongRecOn generalizing l n with
  | ind m ih =>
    by_cases hl : l = []
    · subst hl; rw [cutR_nil]; omega
    · have hw := dl_width l hl
      rw [cutR_step n l hl]
      split
      · have := ih (l.drop (dl l).2).length (by simp; omega) (n - (dl l).2) _ rfl
        simp at this
        omega
      · omega

theorem cutR_all (n : Nat) (l : List UInt8) (hn : l.length ≤ n) : cutR n l = l.length := by
  induction h : l.length using Nat.strongRecOn generalizing l n with
  | ind m ih =>
    by_cases hl : l = []
    · subst hl; rw [cutR_nil]; simpa using h
    · have hw := dl_width l hl
      rw [cutR_step n l hl, if_pos (by omega), ih (l.drop (dl l).2).length (by simp; omega) _ _ (by simp; omega) rfl]
      simp
      omega

theorem cutR_near (n : Nat) (l : List UInt8) : cutR n l = l.length ∨ n < cutR n l + 4 := by
  induction h : l.length using Nat.strongRecOn generalizing l n with
  | ind m ih =>
    by_cases hl : l = []
    · subst hl; left; rw [cutR_nil]; simpa using h
    · have hw := dl_width l hl
      rw [cutR_step n l hl]
      split
      · have := ih (l.drop (dl l).2).length (by simp; omega) (n - (dl l).2) _ rfl
        simp at this
        omega
      · omega

/-- What lies within a beginning is read as it was. -/
theorem dl_take (l : List UInt8) (hl : l ≠ []) (k : Nat) (hk : (dl l).2 ≤ k) : dl (l.take k) = dl l := by
  have hw := dl_width l hl
  have hne : l.take k ≠ [] := by
    intro e
    have := congrArg List.length e
    simp only [List.length_take, List.length_nil] at this
    omega
  rcases dl_cases l hl with ⟨h0, hd⟩ | ⟨r, t, hr, he, hd, hrt⟩
  · rw [hd]
    refine dl_bad _ ?_ hne
    apply Classical.byContradiction
    intro h
    obtain ⟨r, t, hr, he, _, _⟩ := dl_good _ h
    have h2 := rt_er r hr (t ++ l.drop k)
    rw [← List.append_assoc, ← he, List.take_append_drop, h0] at h2
    have := er_len r
    omega
  · rw [hd] at hk ⊢
    have hk : (er r).length ≤ k := hk
    rw [he, List.take_append, List.take_of_length_le hk]
    exact dl_er r hr _

/-- The runes of what is cut, and of what is left. -/
theorem runes_cut (n : Nat) (l : List UInt8) : runes (l.take (cutR n l)) ++ runes (l.drop (cutR n l)) = runes l := by
  induction h : l.length using Nat.strongRecOn generalizing l n with
  | ind m ih =>
    by_cases hl : l = []
    · subst hl; rw [cutR_nil]; simp [runes_nil]
    · have hw := dl_width l hl
      rw [cutR_step n l hl]
      split
      · have hi := ih (l.drop (dl l).2).length (by simp; omega) (n - (dl l).2) _ rfl
        generalize cutR (n - (dl l).2) (l.drop (dl l).2) = k at *
        have hne : l.take ((dl l).2 + k) ≠ [] := by
          intro e
          have := congrArg List.length e
          simp only [List.length_take, List.length_nil] at this
          omega
        rw [runes_step _ hne, dl_take l hl _ (Nat.le_add_right _ _), runes_step l hl, ← hi]
        rw [List.drop_take, Nat.add_sub_cancel_left, ← List.drop_drop]
        rfl
      · simp [runes_nil]

/-- The loop that cuts, place by place, in at most so many rounds. -/
def cutFF (n : Int) : Nat → Nat → Nat → List UInt8 → Nat
  | 0, _, e, _ => e
  | k + 1, pos, e, l => if l = [] then e else if n < (pos : Int) then e else cutFF n k (pos + (dl l).2) pos (l.drop (dl l).2)
/-- The loop that cuts: place by place. -/
def cutF (n : Int) (pos e : Nat) (l : List UInt8) : Nat := cutFF n l.length pos e l

theorem cutFF_more (n : Int) : ∀ (k m pos e : Nat) (l : List UInt8), l.length ≤ k → l.length ≤ m → cutFF n k pos e l = cutFF n m pos e l
  | 0, m, pos, e, l, hn, _ => by
    have : l = [] := List.length_eq_zero_iff.1 (by omega)
    subst this
    cases m <;> simp [cutFF]
  | k + 1, 0, pos, e, l, _, hm => by
    have : l = [] := List.length_eq_zero_iff.1 (by omega)
    subst this
    simp [cutFF]
  | k + 1, m + 1, pos, e, l, hn, hm => by
    rw [cutFF, cutFF]
    by_cases hl : l = []
    · rw [if_pos hl, if_pos hl]
    · have hw := dl_width l hl
      rw [if_neg hl, if_neg hl, cutFF_more n k m _ _ _ (by simp; omega) (by simp; omega)]
theorem cutF_nil (n : Int) (pos e : Nat) : cutF n pos e [] = e := rfl
theorem cutF_step (n : Int) (pos e : Nat) (l : List UInt8) (hl : l ≠ []) : cutF n pos e l = if n < (pos : Int) then e else cutF n (pos + (dl l).2) pos (l.drop (dl l).2) := by
  have hw := dl_width l hl
  unfold cutF
  obtain ⟨k, hk⟩ : ∃ k, l.length = k + 1 := ⟨l.length - 1, by omega⟩
  rw [hk, cutFF, if_neg hl, cutFF_more n k (l.drop (dl l).2).length _ _ _ (by simp; omega) (Nat.le_refl _)]

theorem cutF_cutR (n : Nat) (l : List UInt8) : ∀ pos e : Nat, pos ≤ n → n < pos + l.length → cutF n pos e l = pos + cutR (n - pos) l := by
  induction h : l.length using Nat.strongRecOn generalizing l with
  | ind m ih =>
    intro pos e hp hn
    have hl : l ≠ [] := by
      intro e
      subst e
      simp at h
      omega
    have hw := dl_width l hl
    rw [cutF_step _ _ _ l hl, if_neg (by omega), cutR_step _ l hl]
    by_cases hk : (dl l).2 ≤ n - pos
    · rw [if_pos hk, ih (l.drop (dl l).2).length (by simp; omega) _ rfl (pos + (dl l).2) pos (by omega) (by simp; omega), Nat.sub_sub]
      omega
    · rw [if_neg hk]
      by_cases hd : l.drop (dl l).2 = []
      · rw [hd, cutF_nil]; omega
      · rw [cutF_step _ _ _ _ hd, if_pos (by omega)]; omega

theorem cutF_neg (n : Int) (hn : n < 0) (l : List UInt8) : cutF n 0 0 l = 0 := by
  by_cases hl : l = []
  · subst hl; exact cutF_nil _ _ _
  · rw [cutF_step _ _ _ l hl, if_pos (by omega)]

/-- What is cut: the beginning's bytes. -/
def cut (l : List UInt8) (n : Int) : List UInt8 := l.take (cutR n.toNat l)

theorem cut_all (l : List UInt8) (n : Int) (h : (l.length : Int) ≤ n) : cut l n = l := by
  unfold cut
  rw [cutR_all _ _ (by omega), List.take_length]

theorem cut_loop (l : List UInt8) (n : Int) (h : n < (l.length : Int)) : l.take (cutF n 0 0 l) = cut l n := by
  unfold cut
  by_cases hn : n < 0
  · rw [cutF_neg n hn]
    have : n.toNat = 0 := by omega
    have h2 := cutR_le 0 l
    rw [this]
    have : cutR 0 l = 0 := by omega
    rw [this]
  · obtain ⟨k, rfl⟩ : ∃ k : Nat, n = k := ⟨n.toNat, by omega⟩
    rw [cutF_cutR k l 0 0 (by omega) (by omega)]
    simp

end Utf1
