/-
  Package tok's small functions: letters, the closures that tell what is passed over, pass.
-/
import Derived.Test.YtholfdfjapgfbaaGreatDoorP6
import Derived.Test.YtholfdfjapgfbaaGreatDoorM4
namespace Go.Proofs.YtholfdfjapgfbaaGreatDoor
open Go.RowKit
open Utf1

theorem isLet_iff (c : UInt8) : isLet c = decide ((97 ≤ c.toNat ∧ c.toNat ≤ 122) ∨ (65 ≤ c.toNat ∧ c.toNat ≤ 90)) := by
  unfold isLet
  simp only [UInt8.le_iff_toNat_le, Bool.decide_or, Bool.decide_and]
  rfl

theorem isLetter_any (c : UInt8) (w : World) :
    Calls Tryz.prog 41 #[.int .u8 (c.toNat : Int)] w fun e w' => e = .returned (.bool (isLet c)) ∧ w' = w := by
  have hb := c.toNat_lt
  have HI := hide (isLet_iff c)
  obtain ⟨n, hn⟩ : ∃ n, n = c.toNat := ⟨_, rfl⟩
  rw [← hn] at HI hb ⊢
  rw [HI.out]
  clear HI hn
  rcases (show n < 65 ∨ (65 ≤ n ∧ n ≤ 90) ∨ (90 < n ∧ n < 97) ∨ (97 ≤ n ∧ n ≤ 122) ∨ 122 < n from by omega) with h | ⟨h1, h2⟩ | ⟨h1, h2⟩ | ⟨h1, h2⟩ | h
  · rw [show decide ((97 ≤ n ∧ n ≤ 122) ∨ (65 ≤ n ∧ n ≤ 90)) = false from decide_eq_false (by omega)]
    go_enter Tryz.func41, Tryz.ntmps41
    go_wp2
    go_ret
    exact ⟨rfl, rfl⟩
  · rw [show decide ((97 ≤ n ∧ n ≤ 122) ∨ (65 ≤ n ∧ n ≤ 90)) = true from decide_eq_true (by omega)]
    go_enter Tryz.func41, Tryz.ntmps41
    go_wp2
    go_ret
    exact ⟨ret_bool (by simp; omega), rfl⟩
  · rw [show decide ((97 ≤ n ∧ n ≤ 122) ∨ (65 ≤ n ∧ n ≤ 90)) = false from decide_eq_false (by omega)]
    go_enter Tryz.func41, Tryz.ntmps41
    go_wp2
    go_ret
    exact ⟨ret_bool (by simp; omega), rfl⟩
  · rw [show decide ((97 ≤ n ∧ n ≤ 122) ∨ (65 ≤ n ∧ n ≤ 90)) = true from decide_eq_true (by omega)]
    go_enter Tryz.func41, Tryz.ntmps41
    go_wp2
    go_ret
    exact ⟨rfl, rfl⟩
  · rw [show decide ((97 ≤ n ∧ n ≤ 122) ∨ (65 ≤ n ∧ n ≤ 90)) = false from decide_eq_false (by omega)]
    go_enter Tryz.func41, Tryz.ntmps41
    go_wp2
    go_ret
    exact ⟨ret_bool (by simp; omega), rfl⟩

theorem index_mem (l : List UInt8) (c : UInt8) : (0 ≤ Lib.indexByte l c ↔ l.contains c = true) := by
  induction l with
  | nil => simp [Lib.indexByte]
  | cons b t ih =>
    have hge := Lib.indexByte_ge t c
    unfold Lib.indexByte
    by_cases hb : b = c
    · subst hb
      simp
    · rw [if_neg (by simpa using hb)]
      have e : (b :: t).contains c = t.contains c := by
        simp [Ne.symm hb]
      rw [e, ← ih]
      split
      · rename_i h
        have : Lib.indexByte t c = -1 := by simpa using h
        omega
      · rename_i h
        have : Lib.indexByte t c ≠ -1 := by simpa using h
        omega

theorem byte_back (c : UInt8) : ((c.toNat : Int)).toNat.toUInt8 = c := by
  simp

/-- The closure of noneOf. -/
theorem none1_any (t : ByteArray) (c : UInt8) (B : Nat) (w : World) (h : w.cell? ⟨B, 0, none⟩ = some (.string t)) :
    Calls Tryz.prog 62 #[.int .u8 (c.toNat : Int), .pointer (some ⟨B, 0, none⟩)] w fun e w' => e = .returned (.bool (!(bl t).contains c)) ∧ w' = w := by
  have hi := Tryz.strings_IndexByte t (c.toNat : Int) w
  rw [byte_back] at hi
  have HM := hide (index_mem (bl t) c)
  obtain ⟨k, hk⟩ : ∃ k, k = Lib.indexByte (bl t) c := ⟨_, rfl⟩
  rw [← hk] at hi HM
  clear hk
  obtain ⟨z, hz⟩ : ∃ z : Int, z = (c.toNat : Int) := ⟨_, rfl⟩
  rw [← hz] at hi ⊢
  clear hz
  by_cases hc : (bl t).contains c = true
  · rw [hc]
    have hk0 : 0 ≤ k := HM.out.2 hc
    clear HM hc
    go_enter Tryz.func62, Tryz.ntmps62
    go_wp2_with fail
    refine hi.mono ?_
    rintro e w1 ⟨rfl, rfl⟩
    go_wp2_with fail
    go_ret
    exact ⟨ret_bool (by simp; omega), rfl⟩
  · have hf : (bl t).contains c = false := by simpa using hc
    have hk0 : k < 0 := by
      have := HM.out
      rw [hf] at this
      simpa using this
    rw [hf]
    clear HM hc hf
    go_enter Tryz.func62, Tryz.ntmps62
    go_wp2_with fail
    refine hi.mono ?_
    rintro e w1 ⟨rfl, rfl⟩
    go_wp2_with fail
    go_ret
    exact ⟨ret_bool (by simp), rfl⟩

/-- The closure of oneOf. -/
theorem one1_any (t : ByteArray) (c : UInt8) (B : Nat) (w : World) (h : w.cell? ⟨B, 0, none⟩ = some (.string t)) :
    Calls Tryz.prog 63 #[.int .u8 (c.toNat : Int), .pointer (some ⟨B, 0, none⟩)] w fun e w' => e = .returned (.bool ((bl t).contains c)) ∧ w' = w := by
  have hi := Tryz.strings_IndexByte t (c.toNat : Int) w
  rw [byte_back] at hi
  have HM := hide (index_mem (bl t) c)
  obtain ⟨k, hk⟩ : ∃ k, k = Lib.indexByte (bl t) c := ⟨_, rfl⟩
  rw [← hk] at hi HM
  clear hk
  obtain ⟨z, hz⟩ : ∃ z : Int, z = (c.toNat : Int) := ⟨_, rfl⟩
  rw [← hz] at hi ⊢
  clear hz
  by_cases hc : (bl t).contains c = true
  · rw [hc]
    have hk0 : 0 ≤ k := HM.out.2 hc
    clear HM hc
    go_enter Tryz.func63, Tryz.ntmps63
    go_wp2_with fail
    refine hi.mono ?_
    rintro e w1 ⟨rfl, rfl⟩
    go_wp2_with fail
    go_ret
    exact ⟨ret_bool (by simp), rfl⟩
  · have hf : (bl t).contains c = false := by simpa using hc
    have hk0 : k < 0 := by
      have := HM.out
      rw [hf] at this
      simpa using this
    rw [hf]
    clear HM hc hf
    go_enter Tryz.func63, Tryz.ntmps63
    go_wp2_with fail
    refine hi.mono ?_
    rintro e w1 ⟨rfl, rfl⟩
    go_wp2_with fail
    go_ret
    exact ⟨ret_bool (by simp; omega), rfl⟩

theorem noneOf_any (t : ByteArray) (w : World) :
    Calls Tryz.prog 45 #[.string t] w fun e w' => e = .returned (.func (.func 62) #[] #[.pointer (some ⟨w.heap.size, 0, none⟩)]) ∧ w' = w.alloc (.cells #[.string t] 9) := by
  have hmf : ∀ (fn : Fn) (first cap : Array Value) (w : World), (Instr.makeFunc fn first cap).run Tryz.prog w = .ok (.func fn first cap) w := fun _ _ _ _ => rfl
  go_enter Tryz.func45, Tryz.ntmps45
  go_wp2
  go_ret
  exact ⟨rfl, rfl⟩
theorem oneOf_any (t : ByteArray) (w : World) :
    Calls Tryz.prog 47 #[.string t] w fun e w' => e = .returned (.func (.func 63) #[] #[.pointer (some ⟨w.heap.size, 0, none⟩)]) ∧ w' = w.alloc (.cells #[.string t] 9) := by
  have hmf : ∀ (fn : Fn) (first cap : Array Value) (w : World), (Instr.makeFunc fn first cap).run Tryz.prog w = .ok (.func fn first cap) w := fun _ _ _ _ => rfl
  go_enter Tryz.func47, Tryz.ntmps47
  go_wp2
  go_ret
  exact ⟨rfl, rfl⟩
theorem first_any (fn : Fn) (caps : Array Value) (w : World) :
    Calls Tryz.prog 48 #[.func fn #[] caps] w fun e w' => e = .returned (.func (.func 64) #[] #[.pointer (some ⟨w.heap.size + 1, 0, none⟩), .pointer (some ⟨w.heap.size, 0, none⟩)]) ∧ w' = (w.alloc (.cells #[.func fn #[] caps] 81)).alloc (.cells #[.bool false] 4) := by
  have hmf : ∀ (fn : Fn) (first cap : Array Value) (w : World), (Instr.makeFunc fn first cap).run Tryz.prog w = .ok (.func fn first cap) w := fun _ _ _ _ => rfl
  go_enter Tryz.func48, Tryz.ntmps48
  go_wp2
  go_ret
  exact ⟨rfl, rfl⟩

theorem span_take (l : List UInt8) (P : UInt8 → Bool) (p : Nat) (h : l.takeWhile P = l.take p) : l.dropWhile P = l.drop p := by
  have h1 := List.takeWhile_append_dropWhile (p := P) (l := l)
  rw [h] at h1
  have h2 : l.take p ++ l.drop p = l := List.take_append_drop p l
  exact List.append_cancel_left (h1.trans h2.symm)
theorem span_step (l : List UInt8) (P : UInt8 → Bool) (p : Nat) (c : UInt8) (t : List UInt8) (hd : l.drop p = c :: t) (hc : P c = true) (h : l.takeWhile P = l.take p ++ (l.drop p).takeWhile P) : l.takeWhile P = l.take (p + 1) ++ (l.drop (p + 1)).takeWhile P := by
  have e1 : l.drop (p + 1) = t := by rw [← List.drop_drop, hd]; rfl
  have e2 : l.take (p + 1) = l.take p ++ [c] := by
    rw [List.take_add, hd]
    rfl
  rw [h, hd, e1, e2, List.takeWhile_cons, if_pos hc]
  simp
theorem ext_drop (s : ByteArray) (p : Nat) : s.extract p s.size = ⟨((bl s).drop p).toArray⟩ := by
  apply ByteArray.ext
  apply Array.toList_inj.1
  rw [Lib.extract_data]
  show ((bl s).drop p).take (s.size - p) = _
  rw [List.take_of_length_le (by rw [List.length_drop, bl_len]; exact Nat.le_refl _)]

set_option maxHeartbeats 1000000 in
theorem pass_none (s t : ByteArray) (B : Nat) (w : World) (hs : s.size ≤ 1099511627776) (h : w.cell? ⟨B, 0, none⟩ = some (.string t)) :
    Calls Tryz.prog 44 #[.string s, .func (.func 62) #[] #[.pointer (some ⟨B, 0, none⟩)]] w fun e w' => e = .returned (.tuple #[.string ⟨((bl s).takeWhile (fun x => !(bl t).contains x)).toArray⟩, .string ⟨((bl s).dropWhile (fun x => !(bl t).contains x)).toArray⟩]) ∧ Below w.heap.size w w' := by
  obtain ⟨P, hP⟩ : ∃ P : UInt8 → Bool, P = fun x => !(bl t).contains x := ⟨_, rfl⟩
  rw [← hP]
  have hcl := fun c => none1_any t c B w h
  have hcl : ∀ c : UInt8, Calls Tryz.prog 62 #[.int .u8 (c.toNat : Int), .pointer (some ⟨B, 0, none⟩)] w fun e w' => e = .returned (.bool (P c)) ∧ w' = w := by
    intro c
    rw [hP]
    exact hcl c
  clear hP h
  have hl := bl_len s
  go_enter Tryz.func44, Tryz.ntmps44
  go_wp2
  go_loopg [6] s.size (fun g v wr => ∃ p : Nat, p + g = s.size ∧ v = .int .i64 (p : Int) ∧ wr = w ∧ Hid ((bl s).takeWhile P = (bl s).take p ++ ((bl s).drop p).takeWhile P))
  case atStart => exact ⟨0, by omega, rfl, rfl, hide (by simp)⟩
  case round =>
    obtain ⟨p, hpg, rfl, rfl, HT⟩ := hrel
    have HF : (bl s).takeWhile P = (bl s).take p → Hid ((.tuple #[.string (s.extract 0 p), .string (s.extract p s.size)] : Value) = .tuple #[.string ⟨((bl s).takeWhile P).toArray⟩, .string ⟨((bl s).dropWhile P).toArray⟩]) := fun h => hide (by rw [span_take _ _ p h, h, extract_take, ext_drop])
    by_cases hlt : p < s.size
    · have i0 : ∀ w, (Instr.index 9 (.string s) (.int .i64 (p : Int))).run Tryz.prog w = .ok (.int .u8 (atN ((bl s).drop p) 0 : Nat)) w := idx_run s p 0 hlt
      rw [atN_drop s p hlt] at i0
      have hdc := drop_cons s p hlt
      generalize (bl s)[p]'(by rw [bl_len]; exact hlt) = c at i0 hdc
      have hc := hcl c
      by_cases hPc : P c = true
      · have HN : Hid ((bl s).takeWhile P = (bl s).take (p + 1) ++ ((bl s).drop (p + 1)).takeWhile P) := hide (span_step _ _ p c _ hdc hPc HT.out)
        rw [hPc] at hc
        obtain ⟨z, hz⟩ : ∃ z : Int, z = (c.toNat : Int) := ⟨_, rfl⟩
        rw [← hz] at i0 hc
        clear hz hdc HF HT hcl hPc
        go_wp2_with fail
        refine hc.mono ?_
        rintro e w1 ⟨rfl, rfl⟩
        go_wp2_with fail
        go_roundg (gk - 1)
        case measure => omega
        case rel => exact ⟨p + 1, by omega, by first | rfl | simp, rfl, HN⟩
      · have hPf : P c = false := by simpa using hPc
        have HR := HF (by rw [HT.out, hdc, List.takeWhile_cons, if_neg (by simp [hPf])]; simp)
        rw [hPf] at hc
        obtain ⟨z, hz⟩ : ∃ z : Int, z = (c.toNat : Int) := ⟨_, rfl⟩
        rw [← hz] at i0 hc
        clear hz hdc HF HT hcl hPc hPf
        go_wp2_with fail
        refine hc.mono ?_
        rintro e w1 ⟨rfl, rfl⟩
        go_wp2_with fail
        go_region
        all_goals (try go_wp2)
        all_goals go_ret2
        all_goals exact ⟨congrArg Ending.returned HR.out, (Below.refl _ _).drew⟩
    · have HR := HF (by rw [HT.out, List.drop_of_length_le (by omega)]; simp)
      clear HF HT hcl
      go_wp2_with fail
      go_region
      all_goals (try go_wp2)
      all_goals go_ret2
      all_goals exact ⟨congrArg Ending.returned HR.out, (Below.refl _ _).drew⟩
set_option maxHeartbeats 1000000 in
theorem pass_one (s t : ByteArray) (B : Nat) (w : World) (hs : s.size ≤ 1099511627776) (h : w.cell? ⟨B, 0, none⟩ = some (.string t)) :
    Calls Tryz.prog 44 #[.string s, .func (.func 63) #[] #[.pointer (some ⟨B, 0, none⟩)]] w fun e w' => e = .returned (.tuple #[.string ⟨((bl s).takeWhile (fun x => (bl t).contains x)).toArray⟩, .string ⟨((bl s).dropWhile (fun x => (bl t).contains x)).toArray⟩]) ∧ Below w.heap.size w w' := by
  obtain ⟨P, hP⟩ : ∃ P : UInt8 → Bool, P = fun x => (bl t).contains x := ⟨_, rfl⟩
  rw [← hP]
  have hcl := fun c => one1_any t c B w h
  have hcl : ∀ c : UInt8, Calls Tryz.prog 63 #[.int .u8 (c.toNat : Int), .pointer (some ⟨B, 0, none⟩)] w fun e w' => e = .returned (.bool (P c)) ∧ w' = w := by
    intro c
    rw [hP]
    exact hcl c
  clear hP h
  have hl := bl_len s
  go_enter Tryz.func44, Tryz.ntmps44
  go_wp2
  go_loopg [6] s.size (fun g v wr => ∃ p : Nat, p + g = s.size ∧ v = .int .i64 (p : Int) ∧ wr = w ∧ Hid ((bl s).takeWhile P = (bl s).take p ++ ((bl s).drop p).takeWhile P))
  case atStart => exact ⟨0, by omega, rfl, rfl, hide (by simp)⟩
  case round =>
    obtain ⟨p, hpg, rfl, rfl, HT⟩ := hrel
    have HF : (bl s).takeWhile P = (bl s).take p → Hid ((.tuple #[.string (s.extract 0 p), .string (s.extract p s.size)] : Value) = .tuple #[.string ⟨((bl s).takeWhile P).toArray⟩, .string ⟨((bl s).dropWhile P).toArray⟩]) := fun h => hide (by rw [span_take _ _ p h, h, extract_take, ext_drop])
    by_cases hlt : p < s.size
    · have i0 : ∀ w, (Instr.index 9 (.string s) (.int .i64 (p : Int))).run Tryz.prog w = .ok (.int .u8 (atN ((bl s).drop p) 0 : Nat)) w := idx_run s p 0 hlt
      rw [atN_drop s p hlt] at i0
      have hdc := drop_cons s p hlt
      generalize (bl s)[p]'(by rw [bl_len]; exact hlt) = c at i0 hdc
      have hc := hcl c
      by_cases hPc : P c = true
      · have HN : Hid ((bl s).takeWhile P = (bl s).take (p + 1) ++ ((bl s).drop (p + 1)).takeWhile P) := hide (span_step _ _ p c _ hdc hPc HT.out)
        rw [hPc] at hc
        obtain ⟨z, hz⟩ : ∃ z : Int, z = (c.toNat : Int) := ⟨_, rfl⟩
        rw [← hz] at i0 hc
        clear hz hdc HF HT hcl hPc
        go_wp2_with fail
        refine hc.mono ?_
        rintro e w1 ⟨rfl, rfl⟩
        go_wp2_with fail
        go_roundg (gk - 1)
        case measure => omega
        case rel => exact ⟨p + 1, by omega, by first | rfl | simp, rfl, HN⟩
      · have hPf : P c = false := by simpa using hPc
        have HR := HF (by rw [HT.out, hdc, List.takeWhile_cons, if_neg (by simp [hPf])]; simp)
        rw [hPf] at hc
        obtain ⟨z, hz⟩ : ∃ z : Int, z = (c.toNat : Int) := ⟨_, rfl⟩
        rw [← hz] at i0 hc
        clear hz hdc HF HT hcl hPc hPf
        go_wp2_with fail
        refine hc.mono ?_
        rintro e w1 ⟨rfl, rfl⟩
        go_wp2_with fail
        go_region
        all_goals (try go_wp2)
        all_goals go_ret2
        all_goals exact ⟨congrArg Ending.returned HR.out, (Below.refl _ _).drew⟩
    · have HR := HF (by rw [HT.out, List.drop_of_length_le (by omega)]; simp)
      clear HF HT hcl
      go_wp2_with fail
      go_region
      all_goals (try go_wp2)
      all_goals go_ret2
      all_goals exact ⟨congrArg Ending.returned HR.out, (Below.refl _ _).drew⟩

theorem first1_any (t : ByteArray) (c : UInt8) (asked : Bool) (A O B : Nat) (w : World) (hA : w.cell? ⟨A, 0, none⟩ = some (.bool asked)) (hAf : w.frozen? ⟨A, 0, none⟩ = false) (hO : w.cell? ⟨O, 0, none⟩ = some (.func (.func 62) #[] #[.pointer (some ⟨B, 0, none⟩)])) (h : w.cell? ⟨B, 0, none⟩ = some (.string t)) :
    Calls Tryz.prog 64 #[.int .u8 (c.toNat : Int), .pointer (some ⟨A, 0, none⟩), .pointer (some ⟨O, 0, none⟩)] w fun e w' => e = .returned (.bool (!asked || !(bl t).contains c)) ∧ w' = w.setCell ⟨A, 0, none⟩ (.bool true) := by
  have hcl := none1_any t c B w h
  obtain ⟨b, hb⟩ : ∃ b, b = !(bl t).contains c := ⟨_, rfl⟩
  rw [← hb] at hcl ⊢
  clear hb
  obtain ⟨z, hz⟩ : ∃ z : Int, z = (c.toNat : Int) := ⟨_, rfl⟩
  rw [← hz] at hcl ⊢
  clear hz
  cases asked
  · go_enter Tryz.func64, Tryz.ntmps64
    go_wp2
    go_ret
    exact ⟨rfl, rfl⟩
  · go_enter Tryz.func64, Tryz.ntmps64
    go_wp2_with fail
    refine hcl.mono ?_
    rintro e w1 ⟨rfl, rfl⟩
    go_wp2_with fail
    go_ret
    exact ⟨rfl, rfl⟩

theorem take_first (c : UInt8) (l : List UInt8) (p : Nat) (hp : 1 ≤ p) : (c :: l).take p = c :: l.take (p - 1) := by
  obtain ⟨q, rfl⟩ : ∃ q, p = q + 1 := ⟨p - 1, by omega⟩
  rfl
end Go.Proofs.YtholfdfjapgfbaaGreatDoor
