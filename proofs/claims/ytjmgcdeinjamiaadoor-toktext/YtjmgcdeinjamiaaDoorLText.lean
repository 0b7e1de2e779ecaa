/-
  The law TokText, walked: it answers true at every text.
-/
import Derived.Test.YtjmgcdeinjamiaaDoorB8
import Derived.Test.YtjmgcdeinjamiaaDoorM5
import Derived.Test.YtjmgcdeinjamiaaDoorP7
namespace Go.Proofs.YtjmgcdeinjamiaaDoor
open Go.RowKit
open Utf1

theorem one_of {l : List (Tk × Value)} {a : Tk} (h : l.map Prod.fst = [a]) : ∃ x, l = [(a, x)] := by
  match l, h with
  | [(a', x)], h =>
    simp at h
    subst h
    exact ⟨x, rfl⟩
theorem none_of {l : List (Tk × Value)} (h : l.map Prod.fst = []) : l = [] := by simpa using h

set_option maxHeartbeats 4000000 in
theorem lawText (s : ByteArray) (w : World) (hg : Glob w) (hgm : GlobM w) : Calls Tryd.prog 5 #[.string s] w fun e w' => e = .returned (.bool true) ∧ Below w.heap.size w w' := by
  have HG := hide (And.intro hg hgm)
  clear hg hgm
  by_cases hs : 3000 < s.size
  · go_enter Tryd.func5, Tryd.ntmps5
    go_wp2_with fail
    refine (awake_any _ HG.out.1 HG.out.2).mono ?_
    rintro e w1 ⟨rfl, hb1⟩
    go_wp2_with fail
    go_ret
    exact ⟨rfl, hb1⟩
  have hs : s.size ≤ 3000 := by omega
  have he := fun w => escape_any s false w (by omega)
  obtain ⟨t, ht⟩ : ∃ t : ByteArray, t = ⟨(esc false (bl s)).toArray⟩ := ⟨_, rfl⟩
  rw [← ht] at he
  have hbt : bl t = esc false (bl s) := by rw [ht]
  have hts : t.size ≤ 4294967280 := by
    have := (esc_lens false (bl s)).2
    rw [← hbt, bl_len, bl_len] at this
    omega
  have htk := fun w hg hgm => tokens_any t w hts hg hgm
  rw [hbt] at htk
  have q0 := eq_lit s []
  have HE := hide he
  by_cases hn : bl s = []
  · rw [decide_eq_true hn] at q0
    rw [hn, esc_nil, toks_nil] at htk
    have HT := hide htk
    clear ht hbt hn htk he hts
    go_enter Tryd.func5, Tryd.ntmps5
    go_wp2_with fail
    refine (awake_any _ HG.out.1 HG.out.2).mono ?_
    rintro e w1 ⟨rfl, hb1⟩
    have HB1 := hide hb1
    clear hb1
    go_wp2_with fail
    refine (HE.out _).mono ?_
    rintro e w2 ⟨rfl, hb2⟩
    have HB2 := hide (bel2 HB1.out hb2)
    clear hb2 HB1
    go_wp2_with fail
    refine (HT.out _ (HG.out.1.below HB2.out) (HG.out.2.below HB2.out)).mono ?_
    rintro e w3 ⟨v, l, rfl, hl, htk, hb3⟩
    obtain rfl := none_of hl
    obtain ⟨p, c, rfl⟩ := own_len htk.1
    have HB3 := hide (bel2 HB2.out hb3)
    clear hl htk hb3
    go_wp2_with fail
    go_ret
    exact ⟨rfl, HB3.out⟩
  · rw [decide_eq_false hn] at q0
    rw [toks_esc _ hn] at htk
    have HT := hide htk
    clear ht hbt hn htk he hts
    go_enter Tryd.func5, Tryd.ntmps5
    go_wp2_with fail
    refine (awake_any _ HG.out.1 HG.out.2).mono ?_
    rintro e w1 ⟨rfl, hb1⟩
    have HB1 := hide hb1
    clear hb1
    go_wp2_with fail
    refine (HE.out _).mono ?_
    rintro e w2 ⟨rfl, hb2⟩
    have HB2 := hide (bel2 HB1.out hb2)
    clear hb2 HB1
    go_wp2_with fail
    refine (HT.out _ (HG.out.1.below HB2.out) (HG.out.2.below HB2.out)).mono ?_
    rintro e w3 ⟨v, l, rfl, hl, htk, hb3⟩
    obtain ⟨x, rfl⟩ := one_of hl
    obtain ⟨g, cap, rfl, -⟩ := toks_slice htk (by simp)
    obtain ⟨xp, xc, rfl⟩ : ∃ p c, x = .slice p 0 c := own_len (htk.2 (_, x) (List.mem_cons_self ..))
    have c0 : w3.cell? ⟨g, 0, none⟩ = some (.int .i64 1) := tok_at htk 0 _ rfl 0 (by decide)
    have c1 : w3.cell? ⟨g, 1, none⟩ = some (.string ⟨#[]⟩) := tok_at htk 0 _ rfl 1 (by decide)
    have c2 : w3.cell? ⟨g, 2, none⟩ = some (.slice xp 0 xc) := tok_at htk 0 _ rfl 2 (by decide)
    have c4 : w3.cell? ⟨g, 4, none⟩ = some (.string ⟨(bl s).toArray⟩) := tok_at htk 0 _ rfl 4 (by decide)
    rw [bl_eta] at c4
    have HB3 := hide (bel2 HB2.out hb3)
    clear hl htk hb3
    go_wp2_with fail
    go_ret
    exact ⟨rfl, HB3.out⟩
end Go.Proofs.YtjmgcdeinjamiaaDoor
