/-
  The document's decimal, Field and begins, walked.
-/
import Derived.Test.YtmogplecohkjcaaGreatDoorPH
import Derived.Test.YtmogplecohkjcaaGreatDoorMZ
import Derived.Deep.MidRow
import Derived.Deep.CutRange
import Derived.BigQuiet
namespace Go.Proofs.YtmogplecohkjcaaGreatDoor
open Go.RowKit
open Utf1
open Pol8 hiding text right Right
open Msg15

theorem mconv_one (w : World) (t : TypeId) (c : Nat) (hc : c < 256) :
    (convert 83 9 (.slice (some ⟨w.heap.size, 0, none⟩) 1 1)).run Tryz.prog (w.alloc (.cells #[.int .u8 (c : Int)] t)) = .ok (.string ⟨#[UInt8.ofNat c]⟩) (w.alloc (.cells #[.int .u8 (c : Int)] t)) := by
  have := run_convert_bytes_back (P := Tryz.prog) (w.alloc (.cells #[.int .u8 (c : Int)] t)) 83 9 5 ⟨w.heap.size, 0, none⟩ 1 [UInt8.ofNat c] Tryz.underlying83 Tryz.underlying5 Tryz.underlying9 (by
    intro j hj
    have : j = 0 := by simp at hj; omega
    subst this
    rw [add_plain]
    have e : ([UInt8.ofNat c][0]'hj).toNat = c := toNat_ofNat hc
    rw [e]
    simp)
  exact this

theorem mnumTo_step {l : L} {k : Nat} {c : UInt8} (h : l[k]? = some c) : numTo 0 (l.take (k + 1)) = stepN (numTo 0 (l.take k)) c := by
  rw [List.take_add_one, h]
  exact (numTo_app (l.take k) [c] 0).trans (numTo_one _ _)
theorem mnumTo_lt (l : L) : ∀ n : Nat, l.all dig = true → numTo n l < (n + 1) * 10 ^ l.length := by
  induction l with
  | nil =>
    intro n _
    rw [List.length_nil, Nat.pow_zero, Nat.mul_one]
    exact Nat.lt_succ_self n
  | cons c l ih =>
    intro n h
    rw [List.all_cons, Bool.and_eq_true] at h
    have hc := of_decide_eq_true h.1
    have i1 := ih (stepN n c) h.2
    unfold stepN at i1
    have h1 : n * 10 + (c.toNat - 48) + 1 ≤ (n + 1) * 10 := by omega
    have h2 := Nat.mul_le_mul_right (10 ^ l.length) h1
    have h3 : (n + 1) * 10 * 10 ^ l.length = (n + 1) * 10 ^ (c :: l).length := by
      rw [List.length_cons, Nat.pow_succ, Nat.mul_assoc, Nat.mul_comm 10]
    rw [numTo_cons]
    unfold stepN
    rw [h3] at h2
    exact Nat.lt_of_lt_of_le i1 h2

/-- Digits are gone through as far as they go, six at most. -/
theorem kd_exit {s : L} {k : Nat} (hk : k ≤ 6) (hl : k ≤ s.length) (hd : (s.take k).all dig = true) (he : k = s.length ∨ k = 6 ∨ ∀ c, s[k]? = some c → dig c = false) : kd s = s.take k := by
  unfold kd
  obtain ⟨r, hr⟩ : ∃ r, r = s.drop k := ⟨_, rfl⟩
  have hs : s = s.take k ++ r := by rw [hr, List.take_append_drop]
  have htw : s.takeWhile dig = s.take k ++ r.takeWhile dig := by
    conv => lhs; rw [hs]
    rw [List.takeWhile_append_of_pos (fun a ha => List.all_eq_true.1 hd a ha)]
  have hlt : (s.take k).length = k := by rw [List.length_take]; omega
  rw [htw]
  rcases he with he | he | he
  · have : r = [] := by rw [hr, he, List.drop_length]
    rw [this]
    simp
    rw [List.take_take, Nat.min_eq_right hk]
  · rw [List.take_append, hlt, he, Nat.sub_self]
    simp
    rw [List.take_take]
    simp
  · have : r.takeWhile dig = [] := by
      cases hrr : r with
      | nil => rfl
      | cons c q =>
        have h1 : s[k]? = some c := by
          have h2 : (s.drop k)[0]? = some c := by rw [← hr, hrr]; rfl
          rw [List.getElem?_drop, Nat.add_zero] at h2
          exact h2
        rw [List.takeWhile_cons_of_neg (by rw [he c h1]; decide)]
    rw [this, List.append_nil, List.take_take, Nat.min_eq_right hk]
end Go.Proofs.YtmogplecohkjcaaGreatDoor

namespace Go.Proofs.YtmogplecohkjcaaGreatDoor
open Go.RowKit
open Utf1
open Pol8 hiding text right Right
open Msg15

/-- A number of digits; -1: there is none. -/
def numM (s : L) : Int := if s.all dig = true ∧ s.length ≤ 7 then (numTo 0 s : Int) else -1
theorem numM_bad {l : L} {k : Nat} {c : UInt8} (h : l[k]? = some c) (hc : dig c = false) : numM l = -1 := by
  unfold numM
  rw [if_neg]
  rintro ⟨h1, _⟩
  have := List.all_eq_true.1 h1 c (List.mem_of_getElem? h)
  rw [hc] at this
  cases this
theorem numM_long {l : L} (h : 7 < l.length) : numM l = -1 := by
  unfold numM
  rw [if_neg]
  rintro ⟨_, h1⟩
  omega
theorem numM_dec (n : Nat) (h : n ≤ 1000000) : numM (dec n) = (n : Int) := by
  unfold numM
  rw [if_pos ⟨(dec_facts n).1, dec_len n 6 (by omega)⟩, (dec_facts n).2]

/-- A slice of posts that is read. -/
def PostRow (w : World) (v : Value) (ts : List (ByteArray × ByteArray)) : Prop := ∃ p cap, v = .slice p ts.length cap ∧ ts.length ≤ cap ∧ (p = none → cap = 0) ∧ ∀ i a b, ts[i]? = some (a, b) → ∃ g off, p = some ⟨g, off, none⟩ ∧ w.cell? ⟨g, off + i * 2, none⟩ = some (.string a) ∧ w.cell? ⟨g, off + i * 2 + 1, none⟩ = some (.string b)
theorem mcell_keep {w w' : World} {a : Addr} {v : Value} (h : w.cell? a = some v) (hb : Below w.heap.size w w') : w'.cell? a = some v := by
  have hl : a.block < w.heap.size := by
    unfold World.cell? at h
    cases hb2 : w.heap[a.block]? with
    | none => rw [hb2] at h; simp at h
    | some o => exact (Array.getElem?_eq_some_iff.1 hb2).1
  rw [← h]
  exact hb.cell hl
theorem PostRow.below {w w' : World} {v : Value} {ts : List (ByteArray × ByteArray)} (h : PostRow w v ts) (hb : Below w.heap.size w w') : PostRow w' v ts := by
  obtain ⟨p, cap, e, h1, h0, hc⟩ := h
  refine ⟨p, cap, e, h1, h0, fun i a b hi => ?_⟩
  obtain ⟨g, off, hp, x, y⟩ := hc i a b hi
  exact ⟨g, off, hp, mcell_keep x hb, mcell_keep y hb⟩
theorem infoStrM4 : (Tryz.prog.info? 9).map (fun i => (i.zero, i.size, i.bytes)) = some (some (.string ByteArray.empty), 1, 16) := by kernel_rfl

set_option maxRecDepth 100000 in
set_option maxHeartbeats 8000000 in
theorem mids_any (v : Value) (ts : List (ByteArray × ByteArray)) (hl : ts.length ≤ 100000) (w : World) (hv : PostRow w v ts) :
    Calls Tryz.prog 33 #[v] w fun e w' => (∃ u ss, e = .returned u ∧ StrArg w' u ss ∧ ss = ts.map (·.1)) ∧ Below w.heap.size w w' := by
  obtain ⟨i0, hi, hz0, hz1, hz2⟩ := info_parts infoStrM4
  have HV := hide hv
  obtain ⟨p, cap, rfl, -, -, -⟩ := hv
  obtain ⟨N, hN⟩ : ∃ N, N = ts.length := ⟨_, rfl⟩
  rw [← hN] at hl HV ⊢
  have HN := hide hN
  clear hN
  go_enter Tryz.func33, Tryz.ntmps33
  go_wp2_with fail
  go_loopg [3, 4] N (fun g v3 v4 wr => ∃ (i n cp : Nat) (q : Option Addr), i + g = N ∧ n = i ∧ v4 = .int .i64 (i : Int) ∧ v3 = .slice q n cp ∧ Hid (wr.ownsRow w.heap.size 9 1 (.slice q n cp) n (strV ((ts.take i).map (·.1))) ∧ Below w.heap.size w wr))
  case atStart => exact ⟨0, 0, 0, none, by omega, rfl, rfl, rfl, hide ⟨⟨rfl, .inl ⟨rfl, rfl⟩⟩, Below.refl _ _⟩⟩
  case round =>
    obtain ⟨i, n, cp, q, hig, hni, rfl, rfl, HR⟩ := hrel
    by_cases hlt : i < N
    · have hd : decide ((i : Int) < (N : Int)) = true := decide_eq_true (by omega)
      have hia : i < ts.length := by rw [← HN.out]; exact hlt
      have hga : ts[i]? = some ts[i] := List.getElem?_eq_getElem hia
      generalize ts[i] = ab at hga
      obtain ⟨a, b⟩ := ab
      obtain ⟨g, off, rfl, c0⟩ : ∃ g off, p = some ⟨g, off, none⟩ ∧ wr.cell? ⟨g, off + i * 2, none⟩ = some (.string a) := by
        obtain ⟨p', cap', e, _, _, hc⟩ := HV.out.below HR.out.2
        injection e with e1 e2 e3
        obtain ⟨g, off, e4, x, _⟩ := hc i a b hga
        exact ⟨g, off, e1.trans e4, x⟩
      have HTK : Hid ((ts.take (i + 1)).map (·.1) = (ts.take i).map (·.1) ++ [a]) := hide (by
        rw [List.take_add_one, hga, List.map_append]
        rfl)
      have HOW : Hid ((wr.alloc (.cells #[.string a] 9)).ownsRow w.heap.size 9 1 (.slice q n cp) n (strV ((ts.take i).map (·.1)))) := hide (HR.out.1.alloc _)
      have HSZ : Hid (w.heap.size ≤ (wr.alloc (.cells #[.string a] 9)).heap.size) := hide (by have := HR.out.2.size; simp; omega)
      have HNI := hide hni
      have hn1 : n ≤ 100000 := by omega
      clear hga hia hni
      go_wp2_with (at_builtin; refine wpList_append_own _ rfl _ _ 30 rfl w.heap.size 9 i0 _ 1 16 Tryz.underlying30 hi hz0 hz1 hz2 rfl (by decide) (.slice q n cp) n (strV ((ts.take i).map (·.1))) rfl HOW.out ⟨wr.heap.size, 0, none⟩ 1 1 [.string a] rfl rfl (one_new _ _ _) (by simp [Value.oneCell']) (by unfold maxLen; omega) (by omega) HSZ.out ?_)
      intro u' w3 hown3 hg3 _
      obtain ⟨p', c', rfl, -⟩ := own_shape hown3
      have HR3 : Hid (w3.ownsRow w.heap.size 9 1 (.slice p' (n + 1) c') (n + 1) (strV ((ts.take (i + 1)).map (·.1))) ∧ Below w.heap.size w w3) := hide ⟨by rw [HTK.out, strV_app, List.map_take]; exact hown3, (HR.out.2.alloc HR.out.2.size _).grown hg3 HSZ.out (fun kk hkk => (HOW.out.lt kk hkk).1)⟩
      clear hown3 hg3 HOW HSZ HR
      go_wp2_with fail
      go_roundg (N - (i + 1))
      case measure => omega
      case rel => exact ⟨i + 1, n + 1, c', p', by omega, by have := HNI.out; omega, by first | rfl | simp, rfl, HR3⟩
    · have hd : decide ((i : Int) < (N : Int)) = false := decide_eq_false (by omega)
      have hiN : i = ts.length := by rw [← HN.out]; omega
      have HE : Hid (StrArg wr (.slice q n cp) (ts.map (·.1)) ∧ Below w.heap.size w wr) := hide (by
        refine ⟨?_, HR.out.2⟩
        have h1 := HR.out.1
        rw [hiN, List.take_length] at h1
        exact own_arg (B := w.heap.size) (by rw [List.length_map, ← hiN, ← hni]; exact h1))
      clear hiN HR
      go_wp2_with fail
      go_ret
      exact ⟨⟨_, _, rfl, HE.out.1, rfl⟩, HE.out.2⟩
end Go.Proofs.YtmogplecohkjcaaGreatDoor

namespace Go.Proofs.YtmogplecohkjcaaGreatDoor
open Go.RowKit
open Utf1
open Pol8 hiding text right Right
open Msg15

theorem bel_drewN (w : World) (n : Nat) : Below w.heap.size w (w.drewN n) := ⟨rfl, rfl, rfl, Nat.le_refl _, fun _ _ => rfl⟩
theorem mless_is (x y : ByteArray) : Op.bytesLess x.toList y.toList = lt (bl x) (bl y) := by
  unfold lt
  rw [ByteArray.toList_eq, ByteArray.toList_eq]
theorem chain_step : ∀ (l : List L), (∀ j a b, l[j]? = some a → l[j + 1]? = some b → lt a b = true) → Pol8.chain l = true
  | [], _ => rfl
  | [_], _ => rfl
  | a :: b :: r, h => by
    unfold Pol8.chain
    rw [Bool.and_eq_true]
    exact ⟨h 0 a b rfl rfl, chain_step (b :: r) (fun j x y hx hy => h (j + 1) x y hx hy)⟩
theorem chain_at : ∀ (l : List L), Pol8.chain l = true → ∀ j a b, l[j]? = some a → l[j + 1]? = some b → lt a b = true
  | [], _, _, _, _, h, _ => by simp at h
  | [_], _, _, _, _, _, h => by simp at h
  | a :: b :: r, hc, j, x, y, hx, hy => by
    unfold Pol8.chain at hc
    rw [Bool.and_eq_true] at hc
    cases j with
    | zero =>
      have e1 : a = x := by simpa using hx
      have e2 : b = y := by simpa using hy
      rw [← e1, ← e2]
      exact hc.1
    | succ j => exact chain_at (b :: r) hc.2 j x y hx hy

/-- The list is right up to place i. -/
def RsI (l : List L) (i : Nat) : Prop := (∀ j a, j < i → l[j]? = some a → 1 ≤ a.length ∧ a.length ≤ 16) ∧ ∀ j a b, j + 1 < i → l[j]? = some a → l[j + 1]? = some b → lt a b = true
theorem rsI_all {l : List L} (h : RsI l l.length) : riseI l = decide (l.length ≤ 64) := by
  unfold riseI
  have h1 : l.all (fun s => decide (1 ≤ s.length ∧ s.length ≤ 16)) = true := by
    rw [List.all_eq_true]
    intro x hx
    obtain ⟨j, hj, e⟩ := List.mem_iff_getElem.1 hx
    exact decide_eq_true (h.1 j x hj (by rw [List.getElem?_eq_getElem hj, e]))
  have h2 : Pol8.chain l = true := chain_step l (fun j a b ha hb => h.2 j a b (List.getElem?_eq_some_iff.1 hb).1 ha hb)
  rw [h1, h2, Bool.true_and, Bool.true_and]
theorem rs_bad_len {l : List L} {j : Nat} {a : L} (h : l[j]? = some a) (hb : ¬ (1 ≤ a.length ∧ a.length ≤ 16)) : riseI l = false := by
  unfold riseI
  have h1 : l.all (fun s => decide (1 ≤ s.length ∧ s.length ≤ 16)) = false := by
    rw [List.all_eq_false]
    exact ⟨a, List.mem_of_getElem? h, by simpa using hb⟩
  rw [h1, Bool.false_and]
theorem rs_bad_lt {l : List L} {j : Nat} {a b : L} (h : l[j]? = some a) (h2 : l[j + 1]? = some b) (hb : lt a b = false) : riseI l = false := by
  unfold riseI
  have h1 : Pol8.chain l = false := by
    cases hc : Pol8.chain l with
    | false => rfl
    | true =>
      have := chain_at l hc j a b h h2
      rw [hb] at this
      cases this
  rw [h1, Bool.false_and, Bool.and_false]
theorem RsI.step {l : List L} {i : Nat} {a : L} (h : RsI l i) (ha : l[i]? = some a) (hl : 1 ≤ a.length ∧ a.length ≤ 16) (hp : ∀ b, i = 0 ∨ (l[i - 1]? = some b → lt b a = true)) : RsI l (i + 1) := by
  refine ⟨fun j x hj hx => ?_, fun j x y hj hx hy => ?_⟩
  · rcases Nat.lt_or_ge j i with h1 | h1
    · exact h.1 j x h1 hx
    · have : j = i := by omega
      subst this
      rw [ha] at hx
      rw [← Option.some.inj hx]
      exact hl
  · rcases Nat.lt_or_ge (j + 1) i with h1 | h1
    · exact h.2 j x y h1 hx hy
    · have : j + 1 = i := by omega
      subst this
      rw [ha] at hy
      rw [← Option.some.inj hy]
      rcases hp x with h2 | h2
      · omega
      · exact h2 (by rw [Nat.add_sub_cancel]; exact hx)

set_option maxRecDepth 100000 in
set_option maxHeartbeats 8000000 in
theorem mrises_any (v : Value) (ss : List ByteArray) (hl : ss.length ≤ 100000) (w : World) (hv : StrArg w v ss) :
    Calls Tryz.prog 32 #[v] w fun e w' => e = .returned (.bool (riseI (ss.map bl))) ∧ Below w.heap.size w w' := by
  obtain ⟨R, hR⟩ : ∃ R, R = riseI (ss.map bl) := ⟨_, rfl⟩
  rw [← hR]
  have HAL := hide hR
  clear hR
  have HV := hide hv
  obtain ⟨p, cap, rfl, -, hc⟩ := hv
  obtain ⟨N, hN⟩ : ∃ N, N = ss.length := ⟨_, rfl⟩
  rw [← hN] at hl HV ⊢
  have HN := hide hN
  clear hc hN
  go_enter Tryz.func32, Tryz.ntmps32
  go_wp2_with fail
  go_loopg [3] N (fun g v wx => ∃ i : Nat, i + g = N ∧ v = .int .i64 (i : Int) ∧ Hid (RsI (ss.map bl) i ∧ Below w.heap.size w wx))
  case atStart => exact ⟨0, by omega, rfl, hide ⟨⟨fun j a h => by omega, fun j a b h => by omega⟩, Below.refl _ _⟩⟩
  case round =>
    obtain ⟨i, hig, rfl, HU⟩ := hrel
    by_cases hlt : i < N
    · have hd : decide ((i : Int) < (N : Int)) = true := decide_eq_true (by omega)
      obtain ⟨x, hx⟩ : ∃ y, ss[i]? = some y := ⟨_, List.getElem?_eq_getElem (by rw [← HN.out]; exact hlt)⟩
      obtain ⟨p', cap', e, -, hc⟩ := HV.out.below HU.out.2
      injection e with e1 e2 e3
      clear e2 e3
      obtain ⟨b, off, e4, c1⟩ := hc i x hx
      rw [← e1] at e4
      subst e4
      have HXX : Hid ((ss.map bl)[i]? = some (bl x) ∧ (bl x).length = x.size) := hide ⟨by rw [List.getElem?_map, hx]; rfl, bl_len x⟩
      have HB : Hid (Below w.heap.size w wr.drew) := hide HU.out.2.drew
      by_cases h1 : x.size < 1
      · have HR : Hid (R = false) := hide (by rw [HAL.out]; exact rs_bad_len HXX.out.1 (by rw [HXX.out.2]; omega))
        have d1 : decide ((x.size : Int) < 1) = true := decide_eq_true (by omega)
        clear h1 hc hx e1
        go_wp2_with fail
        go_quiet (fail)
        go_wp2_with fail
        go_ret
        rw [HR.out]
        exact ⟨rfl, HU.out.2.trans ((bel_drewN wr nq).mono HU.out.2.size)⟩
      · have d1 : decide ((x.size : Int) < 1) = false := decide_eq_false (by omega)
        by_cases h16 : 16 < x.size
        · have HR : Hid (R = false) := hide (by rw [HAL.out]; exact rs_bad_len HXX.out.1 (by rw [HXX.out.2]; omega))
          have d2 : decide ((16 : Int) < (x.size : Int)) = true := decide_eq_true (by omega)
          clear h1 h16 hc hx e1
          go_wp2_with fail
          go_quiet (fail)
          go_wp2_with fail
          go_ret
          rw [HR.out]
          exact ⟨rfl, HU.out.2.trans ((bel_drewN wr nq).mono HU.out.2.size)⟩
        · have d2 : decide ((16 : Int) < (x.size : Int)) = false := decide_eq_false (by omega)
          have HLX : Hid (1 ≤ (bl x).length ∧ (bl x).length ≤ 16) := hide (by rw [HXX.out.2]; omega)
          by_cases h0 : i = 0
          · have HS : Hid (RsI (ss.map bl) (i + 1)) := hide (HU.out.1.step HXX.out.1 HLX.out (fun _ => .inl h0))
            have d0 : decide (0 < i) = false := decide_eq_false (by omega)
            have H0 := hide h0
            clear h1 h16 hc hx e1 h0
            go_wp2_with fail
            go_quiet (fail)
            go_wp2_with fail
            go_roundg (N - (i + 1))
            case measure => omega
            case rel => exact ⟨i + 1, by omega, by first | rfl | simp, hide ⟨HS.out, HU.out.2.trans ((bel_drewN wr nq).mono HU.out.2.size)⟩⟩
          · have d0 : decide ((0 : Int) < (i : Int)) = true := decide_eq_true (by omega)
            obtain ⟨k, rfl⟩ : ∃ k, i = k + 1 := ⟨i - 1, by omega⟩
            obtain ⟨y, hy⟩ : ∃ y, ss[k]? = some y := ⟨_, List.getElem?_eq_getElem (by rw [← HN.out]; omega)⟩
            obtain ⟨b', off', e5, c0⟩ := hc k y hy
            rw [← e1] at e5
            injection e5 with e5
            injection e5 with e6 e7
            subst e6
            subst e7
            have hkc : ((k + 1 : Nat) : Int) - 1 = (k : Int) := by omega
            have HYY : Hid ((ss.map bl)[k]? = some (bl y)) := hide (by rw [List.getElem?_map, hy]; rfl)
            clear hc hx hy e1
            cases hxy : lt (bl y) (bl x) with
            | true =>
              have HS : Hid (RsI (ss.map bl) (k + 1 + 1)) := hide (HU.out.1.step HXX.out.1 HLX.out (fun b => .inr (fun hb => by
                rw [Nat.add_sub_cancel, HYY.out] at hb
                rw [← Option.some.inj hb]
                exact hxy)))
              have hgq2 := mless_is y x
              rw [hxy] at hgq2
              clear hxy h1 h16 h0
              go_wp2_with fail
              go_quiet (fail)
              go_wp2_with fail
              go_roundg (N - (k + 1 + 1))
              case measure => omega
              case rel => exact ⟨k + 1 + 1, by omega, by first | rfl | simp | (congr 1), hide ⟨HS.out, HU.out.2.trans ((bel_drewN wr nq).mono HU.out.2.size)⟩⟩
            | false =>
              have HR : Hid (R = false) := hide (by rw [HAL.out]; exact rs_bad_lt HYY.out HXX.out.1 hxy)
              have hgq2 := mless_is y x
              rw [hxy] at hgq2
              clear hxy h1 h16 h0
              go_wp2_with fail
              go_quiet (fail)
              go_wp2_with fail
              go_ret
              rw [HR.out]
              exact ⟨rfl, HU.out.2.trans ((bel_drewN wr nq).mono HU.out.2.size)⟩
    · have hd : decide ((i : Int) < (N : Int)) = false := decide_eq_false (by omega)
      have HR : Hid (R = decide (N ≤ 64)) := hide (by
        have hiN : i = (ss.map bl).length := by rw [List.length_map, ← HN.out]; omega
        have h := HU.out.1
        rw [hiN] at h
        rw [HAL.out, rsI_all h, List.length_map, ← HN.out])
      have HB := hide HU.out.2
      clear HU HAL
      by_cases h64 : N ≤ 64
      · have d6 : decide ((N : Int) ≤ 64) = true := decide_eq_true (by omega)
        have HR2 : Hid (R = true) := hide (by rw [HR.out]; exact decide_eq_true h64)
        go_wp2_with fail
        go_ret
        rw [HR2.out]
        exact ⟨rfl, HB.out⟩
      · have d6 : decide ((N : Int) ≤ 64) = false := decide_eq_false (by omega)
        have HR2 : Hid (R = false) := hide (by rw [HR.out]; exact decide_eq_false h64)
        go_wp2_with fail
        go_ret
        rw [HR2.out]
        exact ⟨rfl, HB.out⟩
end Go.Proofs.YtmogplecohkjcaaGreatDoor
