/-
  The document's take, held against the program's.
-/
import Derived.Test.YtkdppcpkigpmdaaH11
namespace Go.Proofs.Ytkdppcpkigpmdaa
open Go.RowKit
open Utf1

def AttrsOk (w0 : World) (fl : List Fl) : Prop := ∀ f ∈ fl, AttrRow w0 f.ap f.am f.attrs
theorem attr_none (w0 : World) : AttrRow w0 none 0 [] := ⟨rfl, fun i kv h => by simp at h⟩
theorem attrs_snoc {w0 : World} {fl : List Fl} {f : Fl} (h : AttrsOk w0 fl) (hf : AttrRow w0 f.ap f.am f.attrs) : AttrsOk w0 (fl ++ [f]) := by
  intro g hg
  rcases List.mem_append.1 hg with hg | hg
  · exact h g hg
  · have : g = f := by simpa using hg
    rw [this]
    exact hf
/-- Whether it is too much. -/
def badB (s : Bs) : Bool := decide (¬ (s.o ≤ 64 ∧ s.n ≤ 2000))
theorem bad_start {s : Bs} {u : Fs} (h : Rel s.r s.t u.fl u.op) (hg : Good s) (hb : u.bad = false) (ho : s.o ≤ 64) (name : List UInt8) (hn : name ≠ []) (at' : List (List UInt8 × List UInt8)) (ap : Option Addr) (am ac : Nat) : (startF name at' ap am ac u).bad = badB (startB name at' s) := by
  have hw := rel_way h hg.ne hg.root name
  have W := wayR_all name s.r s.t hg.ne hg.root
  have hl := rel_len h hg.ne
  have hc := hg.cnt
  unfold badB startB startR startF
  rw [if_neg hn]
  cases hh : (wayR name s.r s.t).1 with
  | nil => rw [hh] at W; simp at W
  | cons nd q =>
    rw [hh] at hw
    have hl2 := (rel_len hw (by simp)).2.1
    simp only [List.length_cons] at hl2
    simp only [hb, Bool.false_or]
    by_cases hv : name ∈ voids
    · simp only [if_pos hv]
      rw [decide_eq_decide]
      omega
    · simp only [if_neg hv]
      rw [← Bool.decide_or, decide_eq_decide]
      omega

set_option maxHeartbeats 4000000 in
theorem rtake_sim (w0 w : World) (base R : Nat) (s : Bs) (u : Fs) (kind : Int) (name text : ByteArray) (cl : Bool) (ap : Option Addr) (am ac : Nat) (at' : List (List UInt8 × List UInt8)) (h : FBs w base R u) (hrel : Rel s.r s.t u.fl u.op) (hb : u.bad = false) (hg : Good s) (hfi : Fi (s.o + 1) s.r) (ho : s.o ≤ 64) (hn : s.n ≤ 2000) (ht : s.t.length + text.size ≤ 100000) (hnm : kind = 2 → bl name ≠ []) (ha : AttrRow w0 ap am at') (hao : AttrsOk w0 u.fl) :
    Calls Try.prog 25 #[.pointer (some ⟨R, 0, none⟩), .agg #[.int .i64 kind, .string name, .slice ap am ac, .bool cl, .string text]] w fun e w' => e = .returned (.tuple #[]) ∧ (∃ u', FBs w' base R u' ∧ Rel (takeB ⟨kind, bl name, at', bl text⟩ s).r (takeB ⟨kind, bl name, at', bl text⟩ s).t u'.fl u'.op ∧ u'.bad = badB (takeB ⟨kind, bl name, at', bl text⟩ s) ∧ AttrsOk w0 u'.fl) ∧ Bel base w w' := by
  have hl := rel_len hrel hg.ne
  have hc := hg.cnt
  have hrl := len_cnt s.r
  have hin := hl.2.2
  have hop : u.op.length ≤ 9000 := by omega
  have hfl : u.fl.length ≤ 9000 := by omega
  have hbs : badB s = false := decide_eq_false (fun hx => hx ⟨ho, hn⟩)
  unfold takeB
  simp only []
  by_cases k1 : kind = 1
  · subst k1
    rw [if_pos rfl]
    by_cases hx : bl text = []
    · refine (rtake_none w base R u 1 name text cl ap am ac h (.inl ⟨rfl, hx⟩)).mono ?_
      rintro e w' ⟨rfl, m1, m2⟩
      have e1 : textB (bl text) s = s := by
        unfold textB newT
        rw [hx, List.append_nil, if_neg (by simp)]
        rfl
      rw [e1]
      exact ⟨rfl, ⟨u, m1, hrel, by rw [hb, hbs], hao⟩, m2⟩
    · by_cases ht0 : s.t = []
      · have hrel0 : Rel s.r [] u.fl u.op := by rw [← ht0]; exact hrel
        refine (rtake_new w base R u.fl u.op u.bad name text cl ap am ac h (by omega) (by omega) hx (rel_last hrel0 hg.ne hfi)).mono ?_
        rintro e w' ⟨rfl, m1, m2⟩
        refine ⟨rfl, ⟨⟨_, u.op, _⟩, m1, ?_, ?_, attrs_snoc hao (attr_none w0)⟩, m2⟩
        · show Rel s.r (s.t ++ bl text) _ _
          rw [ht0, List.nil_append]
          exact rel_new hrel0 hg.ne (bl text) hx
        · show (u.bad || decide (2000 < u.fl.length + 1)) = badB (textB (bl text) s)
          unfold badB textB newT
          simp only []
          rw [hb, Bool.false_or, if_pos ⟨ht0, hx⟩, decide_eq_decide]
          have : tx s.t = 0 := by rw [ht0]; rfl
          omega
      · obtain ⟨i, f, hif, hfu, hfn, hft, hr2⟩ := rel_more hrel hg.ne ht0 (bl text)
        have hil : i.length ≤ 9000 := by
          rw [hif] at hfl
          simp at hfl
          omega
        unfold FBs at h
        rw [hif] at h
        refine (rtake_more w base R i f u.op u.bad name text cl ap am ac h (by omega) (by omega) hfu hfn hx (by rw [hft]; omega)).mono ?_
        rintro e w' ⟨rfl, m1, m2⟩
        refine ⟨rfl, ⟨⟨_, u.op, u.bad⟩, m1, hr2, ?_, ?_⟩, m2⟩
        · show u.bad = badB (textB (bl text) s)
          unfold badB textB newT
          simp only []
          rw [hb, if_neg (fun hx => ht0 hx.1)]
          exact (decide_eq_false (fun hx => hx ⟨ho, hn⟩)).symm
        · intro g hg'
          show AttrRow w0 g.ap g.am g.attrs
          rw [hif] at hao
          rcases List.mem_append.1 hg' with hg' | hg'
          · exact hao g (List.mem_append_left _ hg')
          · have : g = { f with text := f.text ++ bl text } := by simpa using hg'
            rw [this]
            exact hao f (by simp)
  rw [if_neg k1]
  by_cases k2 : kind = 2
  · subst k2
    rw [if_pos rfl]
    have hne := hnm rfl
    refine (rtake_start w base R u name text cl ap am ac at' h hin hop hfl).mono ?_
    rintro e w' ⟨rfl, m1, m2⟩
    exact ⟨rfl, ⟨_, m1, rel_start hrel hg (bl name) hne at' ap am ac, bad_start hrel hg hb ho (bl name) hne at' ap am ac, attrs_snoc hao ha⟩, m2⟩
  rw [if_neg k2]
  by_cases k3 : kind = 3
  · subst k3
    rw [if_pos rfl]
    refine (rtake_end w base R u name text cl ap am ac h hin hop hfl).mono ?_
    rintro e w' ⟨rfl, m1, m2⟩
    refine ⟨rfl, ⟨_, m1, rel_end hrel hg (bl name), ?_, ?_⟩, m2⟩
    · unfold endB endF
      rw [rel_inner hrel hg.ne]
      by_cases hi : 0 < innerR [bl name] s.r
      · rw [if_pos hi, if_pos hi]
        show u.bad = _
        rw [hb]
        exact hbs.symm
      · rw [if_neg hi, if_neg hi]
        by_cases hp : bl name = [112]
        · rw [if_pos hp, if_pos hp]
          exact bad_start hrel hg hb ho [112] (by simp) [] none 0 0
        · rw [if_neg hp, if_neg hp]
          by_cases hbr : bl name = [98, 114]
          · rw [if_pos hbr, if_pos hbr]
            exact bad_start hrel hg hb ho [98, 114] (by simp) [] none 0 0
          · rw [if_neg hbr, if_neg hbr, hb]
            exact hbs.symm
    · unfold endF
      split
      · exact hao
      · split
        · exact attrs_snoc hao (attr_none w0)
        · split
          · exact attrs_snoc hao (attr_none w0)
          · exact hao
  · rw [if_neg k3]
    refine (rtake_none w base R u kind name text cl ap am ac h (.inr ⟨k1, k2, k3⟩)).mono ?_
    rintro e w' ⟨rfl, m1, m2⟩
    exact ⟨rfl, ⟨u, m1, hrel, by rw [hb, hbs], hao⟩, m2⟩
end Go.Proofs.Ytkdppcpkigpmdaa
