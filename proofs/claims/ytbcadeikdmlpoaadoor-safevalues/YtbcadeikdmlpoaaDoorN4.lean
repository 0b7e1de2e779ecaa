/-
  Names that may be an element's or an attribute's, as the program tells them.
-/
import Derived.Test.YtbcadeikdmlpoaaDoorN0
import Derived.Test.YtbcadeikdmlpoaaDoorRaw
import Derived.Maps.Own
import Derived.Maps.OwnOps
import Derived.Maps.Views
namespace Utf1
def isSm (c : UInt8) : Bool := decide (97 ≤ c.toNat ∧ c.toNat ≤ 122)
/-- A byte that may stand in a name. -/
def nmB (others : List UInt8) (c : UInt8) : Bool := isSm c || decide (48 ≤ c.toNat ∧ c.toNat ≤ 57) || decide (c ∈ others)
def isNmL (others : List UInt8) : List UInt8 → Bool
  | [] => false
  | c :: t => isSm c && (c :: t).all (nmB others)
def mayE (n : List UInt8) : Bool := !(rawOf n).isSome && isNmL [45] n
def mayA (l : List (List UInt8 × List UInt8)) : Bool := l.all (fun kv => isNmL [45, 95, 58] kv.1) && decide ((l.map Prod.fst).Nodup)
end Utf1
namespace Go.Proofs.YtbcadeikdmlpoaaDoor.Dm
open Go.RowKit
open Utf1

set_option maxRecDepth 100000 in
theorem isSmall_any (c : UInt8) (w : World) : Calls Tryd.prog 136 #[.int .u8 (c.toNat : Int)] w fun e w' => e = .returned (.bool (isSm c)) ∧ w' = w := by
  have hc : c.toNat < 256 := c.toNat_lt
  unfold isSm
  obtain ⟨z, hz⟩ : ∃ z, z = c.toNat := ⟨_, rfl⟩
  rw [← hz] at hc ⊢
  clear hz
  by_cases h1 : 97 ≤ z
  · by_cases h2 : z ≤ 122
    · rw [decide_eq_true ⟨h1, h2⟩]
      go_enter Tryd.func136, Tryd.ntmps136
      go_wp2
      go_ret
      exact ⟨ret_bool (decide_eq_true (by omega)), rfl⟩
    · rw [decide_eq_false (fun h => h2 h.2)]
      go_enter Tryd.func136, Tryd.ntmps136
      go_wp2
      go_ret
      exact ⟨ret_bool (decide_eq_false (by omega)), rfl⟩
  · rw [decide_eq_false (fun h => h1 h.1)]
    go_enter Tryd.func136, Tryd.ntmps136
    go_wp2
    go_ret
    exact ⟨rfl, rfl⟩
theorem indexByte_neg (l : List UInt8) (c : UInt8) : decide (Lib.indexByte l c < 0) = !decide (c ∈ l) := by
  by_cases h : c ∈ l
  · rw [decide_eq_true h]
    obtain ⟨k, hk⟩ := List.getElem?_of_mem h
    have h1 := Lib.indexByte_ge l c
    have h2 : Lib.indexByte l c ≠ -1 := fun e => Lib.indexByte_none e k hk
    exact decide_eq_false (by omega)
  · rw [decide_eq_false h]
    refine decide_eq_true ?_
    apply Classical.byContradiction
    intro h2
    obtain ⟨o, ho⟩ : ∃ o : Nat, Lib.indexByte l c = o := ⟨(Lib.indexByte l c).toNat, by omega⟩
    exact h (List.mem_of_getElem? (Lib.indexByte_some ho).1)
theorem nat_u8 (c : UInt8) : (c.toNat : Int).toNat.toUInt8 = c := by
  apply UInt8.toNat.inj
  simp

set_option maxRecDepth 100000 in
set_option maxHeartbeats 8000000 in
theorem isName_any (s others : ByteArray) (w : World) (hs : s.size ≤ 9223372036854775807) : Calls Tryd.prog 135 #[.string s, .string others] w fun e w' => e = .returned (.bool (isNmL (bl others) (bl s))) ∧ w' = w := by
  have qE : s.toList.isEmpty = decide (bl s = []) := by
    have := nm_empty (bl s)
    rwa [bl_eta] at this
  by_cases h0 : bl s = []
  · rw [decide_eq_true h0] at qE
    rw [h0]
    go_enter Tryd.func135, Tryd.ntmps135
    go_wp2
    go_ret
    exact ⟨rfl, rfl⟩
  rw [decide_eq_false h0] at qE
  have hpos : 0 < s.size := by
    rw [← bl_len]
    cases h : bl s with
    | nil => exact absurd h h0
    | cons c t => simp
  have hat : ∀ j (h : j < s.size), (bl s)[j]? = some (s[j]'h) := by
    intro j h
    rw [List.getElem?_eq_getElem (by rw [bl_len]; exact h)]
    rfl
  have hct : ∃ t, bl s = (s[0]'hpos) :: t := by
    have h1 := hat 0 hpos
    cases h : bl s with
    | nil => exact absurd h h0
    | cons c t =>
      rw [h] at h1
      have : c = s[0]'hpos := by simpa using h1
      rw [this]
      exact ⟨t, rfl⟩
  obtain ⟨t0, hct⟩ := hct
  have HAT := hide hat
  have HSM := hide (fun w => isSmall_any (s[0]'hpos) w)
  have HRES : Hid (isNmL (bl others) (bl s) = (isSm (s[0]'hpos) && (bl s).all (nmB (bl others)))) := hide (by rw [hct]; rfl)
  rw [HRES.out]
  clear hat h0 hct HRES
  cases hsm : isSm (s[0]'hpos) with
  | false =>
    rw [hsm] at HSM
    go_enter Tryd.func135, Tryd.ntmps135
    go_wp2_with fail
    refine (HSM.out _).mono ?_
    rintro e w1 ⟨rfl, rfl⟩
    go_wp2_with fail
    go_ret
    exact ⟨rfl, rfl⟩
  | true =>
    rw [hsm] at HSM
    rw [Bool.true_and]
    go_enter Tryd.func135, Tryd.ntmps135
    go_wp2_with fail
    refine (HSM.out _).mono ?_
    rintro e w1 ⟨rfl, rfl⟩
    clear HSM
    go_wp2_with fail
    clear hsm
    go_loopg [17] s.size (fun k v17 wr => ∃ j : Nat, j + k = s.size ∧ v17 = .int .i64 (j : Int) ∧ wr = w1 ∧ Hid (((bl s).take j).all (nmB (bl others)) = true))
    case atStart => exact ⟨0, by omega, rfl, rfl, hide rfl⟩
    case round =>
      obtain ⟨j, hjk, rfl, rfl, HA⟩ := hrel
      by_cases hjl : j < s.size
      · have hgc := HAT.out j hjl
        have HTK : Hid ((bl s).take (j + 1) = (bl s).take j ++ [s[j]'hjl]) := hide (by rw [List.take_add_one, hgc]; rfl)
        have HNO : Hid (nmB (bl others) (s[j]'hjl) = false → (bl s).all (nmB (bl others)) = false) := hide (by
          intro h
          rw [List.all_eq_false]
          exact ⟨s[j]'hjl, List.mem_of_getElem? hgc, by rw [h]; decide⟩)
        have HN1 : Hid (nmB (bl others) (s[j]'hjl) = true → ((bl s).take (j + 1)).all (nmB (bl others)) = true) := hide (by
          intro h
          rw [HTK.out, List.all_append, HA.out]
          simp [h])
        have HIB := hide (fun w => Tryd.strings_IndexByte others ((s[j]'hjl).toNat : Int) w)
        rw [nat_u8] at HIB
        have hib := indexByte_neg others.data.toList (s[j]'hjl)
        have hcb : (s[j]'hjl).toNat < 256 := (s[j]'hjl).toNat_lt
        have HS1 := hide (fun w => isSmall_any (s[j]'hjl) w)
        have HB : Hid (nmB (bl others) (s[j]'hjl) = (isSm (s[j]'hjl) || decide (48 ≤ (s[j]'hjl).toNat ∧ (s[j]'hjl).toNat ≤ 57) || decide (s[j]'hjl ∈ bl others))) := hide rfl
        obtain ⟨ix, hix⟩ : ∃ ix, ix = Lib.indexByte others.data.toList (s[j]'hjl) := ⟨_, rfl⟩
        rw [← hix] at HIB hib
        clear hgc hix HTK
        have yes : nmB (bl others) (s[j]'hjl) = true → Hid (((bl s).take (j + 1)).all (nmB (bl others)) = true) := fun h => hide (HN1.out h)
        have HYES := hide yes
        clear yes HN1 HAT HA
        cases hsj : isSm (s[j]'hjl) with
        | true =>
          rw [hsj] at HS1
          have HY := HYES.out (by rw [HB.out, hsj]; rfl)
          clear HYES HNO HB hib HIB hsj
          go_wp2_with fail
          refine (HS1.out _).mono ?_
          rintro e w2 ⟨rfl, rfl⟩
          clear HS1
          go_wp2_with fail
          go_roundg (gk - 1)
          case measure => omega
          case rel => exact ⟨j + 1, by omega, by first | rfl | simp, rfl, HY⟩
        | false =>
          rw [hsj] at HS1
          by_cases h1 : 48 ≤ (s[j]'hjl).toNat
          · by_cases h2 : (s[j]'hjl).toNat ≤ 57
            · have HY := HYES.out (by rw [HB.out, decide_eq_true (And.intro h1 h2)]; simp)
              clear HYES HNO HB hib HIB hsj
              go_wp2_with fail
              refine (HS1.out _).mono ?_
              rintro e w2 ⟨rfl, rfl⟩
              clear HS1
              go_wp2_with fail
              go_roundg (gk - 1)
              case measure => omega
              case rel => exact ⟨j + 1, by omega, by first | rfl | simp, rfl, HY⟩
            · by_cases ho : s[j]'hjl ∈ bl others
              · have HY := HYES.out (by rw [HB.out, decide_eq_true ho]; simp)
                have hi2 : ¬ ix < 0 := by
                  have := hib
                  rw [decide_eq_true ho] at this
                  exact of_decide_eq_false this
                clear HYES HNO HB hib hsj ho
                go_wp2_with fail
                refine (HS1.out _).mono ?_
                rintro e w2 ⟨rfl, rfl⟩
                clear HS1
                go_wp2_with fail
                refine (HIB.out _).mono ?_
                rintro e w2 ⟨rfl, rfl⟩
                clear HIB
                go_wp2_with fail
                go_roundg (gk - 1)
                case measure => omega
                case rel => exact ⟨j + 1, by omega, by first | rfl | simp, rfl, HY⟩
              · have HY := hide (HNO.out (by rw [HB.out, hsj, decide_eq_false (fun h => h2 h.2), decide_eq_false ho]; rfl))
                have hi2 : ix < 0 := by
                  have := hib
                  rw [decide_eq_false ho] at this
                  exact of_decide_eq_true this
                clear HYES HNO HB hib hsj ho
                go_wp2_with fail
                refine (HS1.out _).mono ?_
                rintro e w2 ⟨rfl, rfl⟩
                clear HS1
                go_wp2_with fail
                refine (HIB.out _).mono ?_
                rintro e w2 ⟨rfl, rfl⟩
                clear HIB
                go_wp2_with fail
                try rw [Exit.noGoto_ret]
                go_ret
                exact ⟨ret_bool HY.out.symm, rfl⟩
          · by_cases ho : s[j]'hjl ∈ bl others
            · have HY := HYES.out (by rw [HB.out, decide_eq_true ho]; simp)
              have hi2 : ¬ ix < 0 := by
                have := hib
                rw [decide_eq_true ho] at this
                exact of_decide_eq_false this
              clear HYES HNO HB hib hsj ho
              go_wp2_with fail
              refine (HS1.out _).mono ?_
              rintro e w2 ⟨rfl, rfl⟩
              clear HS1
              go_wp2_with fail
              refine (HIB.out _).mono ?_
              rintro e w2 ⟨rfl, rfl⟩
              clear HIB
              go_wp2_with fail
              go_roundg (gk - 1)
              case measure => omega
              case rel => exact ⟨j + 1, by omega, by first | rfl | simp, rfl, HY⟩
            · have HY := hide (HNO.out (by rw [HB.out, hsj, decide_eq_false (fun h => h1 h.1), decide_eq_false ho]; rfl))
              have hi2 : ix < 0 := by
                have := hib
                rw [decide_eq_false ho] at this
                exact of_decide_eq_true this
              clear HYES HNO HB hib hsj ho
              go_wp2_with fail
              refine (HS1.out _).mono ?_
              rintro e w2 ⟨rfl, rfl⟩
              clear HS1
              go_wp2_with fail
              refine (HIB.out _).mono ?_
              rintro e w2 ⟨rfl, rfl⟩
              clear HIB
              go_wp2_with fail
              try rw [Exit.noGoto_ret]
              go_ret
              exact ⟨ret_bool HY.out.symm, rfl⟩
      · have e : j = s.size := by omega
        have HR : Hid ((bl s).all (nmB (bl others)) = true) := hide (by
          have := HA.out
          rwa [List.take_of_length_le (by rw [bl_len, e]; exact Nat.le_refl _)] at this)
        go_wp2_with fail
        go_ret
        exact ⟨ret_bool HR.out.symm, rfl⟩

set_option maxRecDepth 100000 in
set_option maxHeartbeats 8000000 in
theorem mayBeElement_any (s : ByteArray) (w : World) (hs : s.size ≤ 9223372036854775807) : Calls Tryd.prog 131 #[.string s] w fun e w' => e = .returned (.bool (mayE (bl s))) ∧ w' = w := by
  have HR := hide (fun w => raw_any s w)
  have HN := hide (fun w => isName_any s ⟨#[45]⟩ w hs)
  have HM : Hid (mayE (bl s) = (!(rawOf (bl s)).isSome && isNmL (bl ⟨#[45]⟩) (bl s))) := hide rfl
  rw [HM.out]
  clear HM
  obtain ⟨r, hr⟩ : ∃ r, r = (rawOf (bl s)).isSome := ⟨_, rfl⟩
  obtain ⟨r2, hr2⟩ : ∃ r2, r2 = (rawOf (bl s)).getD false := ⟨_, rfl⟩
  obtain ⟨q, hq⟩ : ∃ q, q = isNmL (bl ⟨#[45]⟩) (bl s) := ⟨_, rfl⟩
  rw [← hr, ← hr2] at HR
  rw [← hq] at HN
  rw [← hr, ← hq]
  clear hr hr2 hq
  cases r with
  | true =>
    go_enter Tryd.func131, Tryd.ntmps131
    go_wp2_with fail
    refine (HR.out _).mono ?_
    rintro e w1 ⟨rfl, rfl⟩
    go_wp2_with fail
    go_ret
    exact ⟨rfl, rfl⟩
  | false =>
    go_enter Tryd.func131, Tryd.ntmps131
    go_wp2_with fail
    refine (HR.out _).mono ?_
    rintro e w1 ⟨rfl, rfl⟩
    go_wp2_with fail
    refine (HN.out _).mono ?_
    rintro e w1 ⟨rfl, rfl⟩
    go_wp2_with fail
    go_ret
    exact ⟨rfl, rfl⟩

/-- How often each name was met. -/
def Met (D : DataW Unit) (ns : List (List UInt8)) : Prop := ∀ n : List UInt8, ∃ c : Int, D.atKey (.string n) (.lit (.int .i64 0)) = .lit (.int .i64 c) ∧ 0 ≤ c ∧ c ≤ 1 ∧ (c = 0 ↔ n ∉ ns)
theorem zeroInt (w : World) : (zeroValue 3).run Tryd.prog w = .ok (.int .i64 0) w := by kernel_rfl
theorem law9 : Maps.Keyed Tryd.prog 9 := Maps.string_keyed Tryd.underlying9
/-- A map of names that were met, in a block of its own. -/
def MetSt (w : World) (b k : Nat) (ns : List (List UInt8)) : Prop := ∃ D : DataW Unit, w.ownsMap Tryd.prog 9 (plainElem Tryd.prog 3) b k D ∧ Maps.IsMap D ∧ Met D ns
theorem MetSt.below {w w' : World} {b k : Nat} {ns : List (List UInt8)} (h : MetSt w b k ns) (hb : Below w.heap.size w w') : MetSt w' b k ns := by
  obtain ⟨D, h1, h2⟩ := h
  exact ⟨D, h1.kept (below_grown hb) (by simp), h2⟩
theorem met_new (w : World) : MetSt (w.alloc (.map #[] 0)) w.heap.size 0 [] :=
  ⟨_, World.ownsMap_made w _ _ _, ⟨_, rfl⟩, fun n => ⟨0, rfl, by decide, by decide, by simp⟩⟩
theorem met_step {w w0 : World} {b k : Nat} {ns : List (List UInt8)} (h : MetSt w b k ns) (hk : k < 9223372036854775807) (L : ByteArray) (hL : L.size ≤ 281474976710656) (hb : Below w0.heap.size w0 w) (hb0 : w0.heap.size ≤ b) :
    ∃ (c : Int) (w2 : World), (c = 0 ∨ c = 1) ∧ (c = 0 ↔ bl L ∉ ns) ∧
      (Instr.lookup 64 (.map (some b)) (.string L) false).run Tryd.prog w = .ok (.int .i64 c) w ∧
      (Instr.mapUpdate 64 (.map (some b)) (.string L) (.int .i64 (c + 1))).run Tryd.prog w = .ok () w2 ∧
      (Instr.lookup 64 (.map (some b)) (.string L) false).run Tryd.prog w2 = .ok (.int .i64 (c + 1)) w2 ∧
      (bl L ∉ ns → MetSt w2 b (k + 1) (ns ++ [bl L])) ∧ Below w0.heap.size w0 w2 ∧ w.grownBy w2 (some b) := by
  obtain ⟨D, h4, hD, hm⟩ := h
  have hkey : keyOf Tryd.prog 9 (.string L) = some (.string L.data.toList) := WideMaps.keyOf_string_mk Tryd.underlying9 (by unfold maxLen; omega)
  obtain ⟨c, hlk, hat, _⟩ := h4.lookup_int law9 Tryd.underlying64 Tryd.underlying3 (zeroInt _) hkey
  obtain ⟨c', hat', hc0, hck, hcz⟩ := hm (bl L)
  have hcc : c' = c := by
    rw [hat] at hat'
    cases hat'
    rfl
  subst hcc
  have hwf : (Lit.int .i64 (c' + 1)).wf = true := WalkArith.wf_i64 (by omega)
  obtain ⟨w2, hup, hown2, hgr⟩ := h4.update law9 Tryd.underlying64 (by unfold maxLen; omega) hkey (plainElem_int (H := Unit) Tryd.underlying3 hwf)
  obtain ⟨c2, hlk2, hat2, _⟩ := hown2.lookup_int law9 Tryd.underlying64 Tryd.underlying3 (zeroInt _) hkey
  have hc2 : c2 = c' + 1 := by
    rw [Maps.atKey_put_same hD (show WideAt.IsKeyLit (.string L.data.toList) from trivial)] at hat2
    cases hat2
    rfl
  subst hc2
  refine ⟨c', w2, by omega, hcz, hlk, hup, hlk2, fun hn => ⟨_, hown2, hD.put _ _, ?_⟩, hb.grown hgr hb.size (fun j hj => by cases hj; exact hb0), hgr⟩
  intro n
  by_cases hne : n = bl L
  · subst hne
    refine ⟨c' + 1, Maps.atKey_put_same hD (show WideAt.IsKeyLit (.string L.data.toList) from trivial) _ _, by omega, by have := hcz.2 hn; omega, ?_⟩
    constructor
    · intro h
      omega
    · intro h
      simp at h
  · obtain ⟨d, hd1, hd2, hd3, hd4⟩ := hm n
    refine ⟨d, ?_, hd2, hd3, ?_⟩
    · rw [Maps.atKey_put_other (by intro e; cases e; exact hne rfl)]
      exact hd1
    · rw [hd4]
      simp [hne]
end Go.Proofs.YtbcadeikdmlpoaaDoor.Dm
