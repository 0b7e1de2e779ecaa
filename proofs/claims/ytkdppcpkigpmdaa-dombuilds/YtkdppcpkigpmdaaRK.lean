import Derived.Test.YtkdppcpkigpmdaaH11
import Derived.Laws.Rows

/-
  The document's take, held against the program's.
-/
namespace Go.Proofs.Ytkdppcpkigpmdaa
open Go.RowKit
open Utf1

def AttrsOk (w0 : World) (fl : List Fl) : Prop := ∀ f ∈ fl, AttrRow w0 f.ap f.am f.attrs
theorem attr_none (w0 : World) : AttrRow w0 none 0 [] := ⟨rfl, fun i kv h => by simp at h⟩
theorem attrs_snoc {w0 : World} {fl : List Fl} {f : Fl} (h : AttrsOk w0 fl) (hf : AttrRow w0 f.ap f.am f.attrs) : AttrsOk w0 (fl ++ [f]) := by
  intro g hg
  rcases List.mem_append.1 hg with hg | hg
  · exact h g hg
  · have : g = f := by simpa using hg
    rw [this]
    exact hf
/-- Whether it is too much. -/
def badB (s : Bs) : Bool := decide (¬ (s.o ≤ 64 ∧ s.n ≤ 2000))
theorem bad_start {s : Bs} {u : Fs} (h : Rel s.r s.t u.fl u.op) (hg : Good s) (hb : u.bad = false) (ho : s.o ≤ 64) (name : List UInt8) (hn : name ≠ []) (at' : List (List UInt8 × List UInt8)) (ap : Option Addr) (am ac : Nat) : (startF name at' ap am ac u).bad = badB (startB name at' s) := by
  have hw := rel_way h hg.ne hg.root name
  have W := wayR_all name s.r s.t hg.ne hg.root
  have hl := rel_len h hg.ne
  have hc := hg.cnt
  unfold badB startB startR startF
  rw [if_neg hn]
  cases hh : (wayR name s.r s.t).1 with
  | nil => rw [hh] at W; simp at W
  | cons nd q =>
    rw [hh] at hw
    have hl2 := (rel_len hw (by simp)).2.1
    simp only [List.length_cons] at hl2
    simp only [hb, Bool.false_or]
    by_cases hv : name ∈ voids
    · simp only [if_pos hv]
      rw [decide_eq_decide]
      omega
    · simp only [if_neg hv]
      rw [← Bool.decide_or, decide_eq_decide]
      omega

set_option maxHeartbeats 4000000 in
theorem rtake_sim (w0 w : World) (base R : Nat) (s : Bs) (u : Fs) (kind : Int) (name text : ByteArray) (cl : Bool) (ap : Option Addr) (am ac : Nat) (at' : List (List UInt8 × List UInt8)) (h : FBs w base R u) (hrel : Rel s.r s.t u.fl u.op) (hb : u.bad = false) (hg : Good s) (hfi : Fi (s.o + 1) s.r) (ho : s.o ≤ 64) (hn : s.n ≤ 2000) (ht : s.t.length + text.size ≤ 100000) (hnm : kind = 2 → bl name ≠ []) (ha : AttrRow w0 ap am at') (hao : AttrsOk w0 u.fl) :
    Calls Try.prog 25 #[.pointer (some ⟨R, 0, none⟩), .agg #[.int .i64 kind, .string name, .slice ap am ac, .bool cl, .string text]] w fun e w' => e = .returned (.tuple #[]) ∧ (∃ u', FBs w' base R u' ∧ Rel (takeB ⟨kind, bl name, at', bl text⟩ s).r (takeB ⟨kind, bl name, at', bl text⟩ s).t u'.fl u'.op ∧ u'.bad = badB (takeB ⟨kind, bl name, at', bl text⟩ s) ∧ AttrsOk w0 u'.fl) ∧ Bel base w w' := by
  have hl := rel_len hrel hg.ne
  have hc := hg.cnt
  have hrl := len_cnt s.r
  have hin := hl.2.2
  have hop : u.op.length ≤ 9000 := by omega
  have hfl : u.fl.length ≤ 9000 := by omega
  have hbs : badB s = false := decide_eq_false (fun hx => hx ⟨ho, hn⟩)
  unfold takeB
  simp only []
  by_cases k1 : kind = 1
  · subst k1
    rw [if_pos rfl]
    by_cases hx : bl text = []
    · refine (rtake_none w base R u 1 name text cl ap am ac h (.inl ⟨rfl, hx⟩)).mono ?_
      rintro e w' ⟨rfl, m1, m2⟩
      have e1 : textB (bl text) s = s := by
        unfold textB newT
        rw [hx, List.append_nil, if_neg (by simp)]
        rfl
      rw [e1]
      exact ⟨rfl, ⟨u, m1, hrel, by rw [hb, hbs], hao⟩, m2⟩
    · by_cases ht0 : s.t = []
      · have hrel0 : Rel s.r [] u.fl u.op := by rw [← ht0]; exact hrel
        refine (rtake_new w base R u.fl u.op u.bad name text cl ap am ac h (by omega) (by omega) hx (rel_last hrel0 hg.ne hfi)).mono ?_
        rintro e w' ⟨rfl, m1, m2⟩
        refine ⟨rfl, ⟨⟨_, u.op, _⟩, m1, ?_, ?_, attrs_snoc hao (attr_none w0)⟩, m2⟩
        · show Rel s.r (s.t ++ bl text) _ _
          rw [ht0, List.nil_append]
          exact rel_new hrel0 hg.ne (bl text) hx
        · show (u.bad || decide (2000 < u.fl.length + 1)) = badB (textB (bl text) s)
          unfold badB textB newT
          simp only []
          rw [hb, Bool.false_or, if_pos ⟨ht0, hx⟩, decide_eq_decide]
          have : tx s.t = 0 := by rw [ht0]; rfl
          omega
      · obtain ⟨i, f, hif, hfu, hfn, hft, hr2⟩ := rel_more hrel hg.ne ht0 (bl text)
        have hil : i.length ≤ 9000 := by
          rw [hif] at hfl
          simp at hfl
          omega
        unfold FBs at h
        rw [hif] at h
        refine (rtake_more w base R i f u.op u.bad name text cl ap am ac h (by omega) (by omega) hfu hfn hx (by rw [hft]; omega)).mono ?_
        rintro e w' ⟨rfl, m1, m2⟩
        refine ⟨rfl, ⟨⟨_, u.op, u.bad⟩, m1, hr2, ?_, ?_⟩, m2⟩
        · show u.bad = badB (textB (bl text) s)
          unfold badB textB newT
          simp only []
          rw [hb, if_neg (fun hx => ht0 hx.1)]
          exact (decide_eq_false (fun hx => hx ⟨ho, hn⟩)).symm
        · intro g hg'
          show AttrRow w0 g.ap g.am g.attrs
          rw [hif] at hao
          rcases List.mem_append.1 hg' with hg' | hg'
          · exact hao g (List.mem_append_left _ hg')
          · have : g = { f with text := f.text ++ bl text } := by simpa using hg'
            rw [this]
            exact hao f (by simp)
  rw [if_neg k1]
  by_cases k2 : kind = 2
  · subst k2
    rw [if_pos rfl]
    have hne := hnm rfl
    refine (rtake_start w base R u name text cl ap am ac at' h hin hop hfl).mono ?_
    rintro e w' ⟨rfl, m1, m2⟩
    exact ⟨rfl, ⟨_, m1, rel_start hrel hg (bl name) hne at' ap am ac, bad_start hrel hg hb ho (bl name) hne at' ap am ac, attrs_snoc hao ha⟩, m2⟩
  rw [if_neg k2]
  by_cases k3 : kind = 3
  · subst k3
    rw [if_pos rfl]
    refine (rtake_end w base R u name text cl ap am ac h hin hop hfl).mono ?_
    rintro e w' ⟨rfl, m1, m2⟩
    refine ⟨rfl, ⟨_, m1, rel_end hrel hg (bl name), ?_, ?_⟩, m2⟩
    · unfold endB endF
      rw [rel_inner hrel hg.ne]
      by_cases hi : 0 < innerR [bl name] s.r
      · rw [if_pos hi, if_pos hi]
        show u.bad = _
        rw [hb]
        exact hbs.symm
      · rw [if_neg hi, if_neg hi]
        by_cases hp : bl name = [112]
        · rw [if_pos hp, if_pos hp]
          exact bad_start hrel hg hb ho [112] (by simp) [] none 0 0
        · rw [if_neg hp, if_neg hp]
          by_cases hbr : bl name = [98, 114]
          · rw [if_pos hbr, if_pos hbr]
            exact bad_start hrel hg hb ho [98, 114] (by simp) [] none 0 0
          · rw [if_neg hbr, if_neg hbr, hb]
            exact hbs.symm
    · unfold endF
      split
      · exact hao
      · split
        · exact attrs_snoc hao (attr_none w0)
        · split
          · exact attrs_snoc hao (attr_none w0)
          · exact hao
  · rw [if_neg k3]
    refine (rtake_none w base R u kind name text cl ap am ac h (.inr ⟨k1, k2, k3⟩)).mono ?_
    rintro e w' ⟨rfl, m1, m2⟩
    exact ⟨rfl, ⟨u, m1, hrel, by rw [hb, hbs], hao⟩, m2⟩
end Go.Proofs.Ytkdppcpkigpmdaa

/-
  The document's kids.
-/
namespace Go.Proofs.Ytkdppcpkigpmdaa
open Go.RowKit
open Utf1

mutual
/-- A slice holds nodes; their attributes are the argument's. -/
inductive RAt (w0 w : World) (base : Nat) : Value → List Nd → List Nat → Prop
  | mk (v : Value) (l : List (Nd × Value × Value)) (fp : List Nat) (row : w.ownsRow base 40 4 v l.length (ndCells l)) (all : RAll w0 w base l fp) : RAt w0 w base v (l.map Prod.fst) (blk v ++ fp)
inductive RAll (w0 w : World) (base : Nat) : List (Nd × Value × Value) → List Nat → Prop
  | nil : RAll w0 w base [] []
  | cons (n : Nd) (p : Option Addr) (m c : Nat) (kv : Value) (l : List (Nd × Value × Value)) (fp fps : List Nat) (ha : AttrRow w0 p m n.attrs) (hk : RAt w0 w base kv n.kids fp) (hl : RAll w0 w base l fps) : RAll w0 w base ((n, .slice p m c, kv) :: l) (fp ++ fps)
end
mutual
theorem RAt.stays {w0 w w' : World} {base : Nat} {S : List Nat} {v : Value} {ns : List Nd} {fp : List Nat} (h : RAt w0 w base v ns fp) (hS : ∀ k, k < w.heap.size → k ∉ S → w'.heap[k]? = w.heap[k]?) (hd : ∀ k ∈ fp, k ∉ S) : RAt w0 w' base v ns fp :=
  match h with
  | .mk v l fp row all => .mk v l fp (own_stays row hS fun k hk => hd k (List.mem_append_left _ (by unfold blk; rw [hk]; simp))) (all.stays hS fun k hk => hd k (List.mem_append_right _ hk))
theorem RAll.stays {w0 w w' : World} {base : Nat} {S : List Nat} {l : List (Nd × Value × Value)} {fp : List Nat} (h : RAll w0 w base l fp) (hS : ∀ k, k < w.heap.size → k ∉ S → w'.heap[k]? = w.heap[k]?) (hd : ∀ k ∈ fp, k ∉ S) : RAll w0 w' base l fp :=
  match h with
  | .nil => .nil
  | .cons n p m c kv l fp fps ha hk hl => .cons n p m c kv l fp fps ha (hk.stays hS fun k hk' => hd k (List.mem_append_left _ hk')) (hl.stays hS fun k hk' => hd k (List.mem_append_right _ hk'))
end
theorem RAt.under {w0 w w' : World} {base : Nat} {v : Value} {ns : List Nd} {fp : List Nat} (h : RAt w0 w base v ns fp) (hb : Below w.heap.size w w') : RAt w0 w' base v ns fp := h.stays (S := []) (fun k hk _ => hb.block k hk) (fun _ _ h => by cases h)
theorem RAll.under {w0 w w' : World} {base : Nat} {l : List (Nd × Value × Value)} {fp : List Nat} (h : RAll w0 w base l fp) (hb : Below w.heap.size w w') : RAll w0 w' base l fp := h.stays (S := []) (fun k hk _ => hb.block k hk) (fun _ _ h => by cases h)
mutual
theorem RAt.low {w0 w : World} {base b : Nat} {v : Value} {ns : List Nd} {fp : List Nat} (h : RAt w0 w base v ns fp) (hb : b ≤ base) : RAt w0 w b v ns fp :=
  match h with
  | .mk v l fp row all => .mk v l fp (own_low row hb) (all.low hb)
theorem RAll.low {w0 w : World} {base b : Nat} {l : List (Nd × Value × Value)} {fp : List Nat} (h : RAll w0 w base l fp) (hb : b ≤ base) : RAll w0 w b l fp :=
  match h with
  | .nil => .nil
  | .cons n p m c kv l fp fps ha hk hl => .cons n p m c kv l fp fps ha (hk.low hb) (hl.low hb)
theorem RAt.lt {w0 w : World} {base : Nat} {v : Value} {ns : List Nd} {fp : List Nat} (h : RAt w0 w base v ns fp) : ∀ k ∈ fp, base ≤ k ∧ k < w.heap.size :=
  match h with
  | .mk v l fp row all => fun k hk => (List.mem_append.1 hk).elim (own_lt row k) (all.lt k)
theorem RAll.lt {w0 w : World} {base : Nat} {l : List (Nd × Value × Value)} {fp : List Nat} (h : RAll w0 w base l fp) : ∀ k ∈ fp, base ≤ k ∧ k < w.heap.size :=
  match h with
  | .nil => fun k hk => by cases hk
  | .cons n p m c kv l fp fps ha hk hl => fun k hk' => (List.mem_append.1 hk').elim (hk.lt k) (hl.lt k)
end
theorem RAll.app {w0 w : World} {base : Nat} : ∀ {l l' : List (Nd × Value × Value)} {fp fp' : List Nat}, RAll w0 w base l fp → RAll w0 w base l' fp' → RAll w0 w base (l ++ l') (fp ++ fp')
  | _, _, _, _, .nil, h' => h'
  | _, _, _, _, .cons n p m c kv l fp fps ha hk hl, h' => by
    rw [List.append_assoc]
    exact .cons n p m c kv _ fp _ ha hk (hl.app h')
theorem RAt.empty (w0 w : World) (base : Nat) : RAt w0 w base (.slice Option.none 0 0) [] [] := RAt.mk (.slice Option.none 0 0) [] [] (World.ownsRow_nil _ _ _ _) .nil

theorem wpList_append_new {P : Program} {w : World} {ops : Array Oper} {rest : List Oper} {o : Oper} {a : Act} {Q : Exit → Act → World → Prop} (hgd : o.guard = none) (s x : Operand) (t : TypeId)
    (ho : o.op = .call { callee := .builtin .append, args := #[s, x], argTypes := #[t, t] })
    (base : Nat) (e : TypeId) (i : TypeInfo) (z : Value) (size bytes : Nat) (ht : P.underlying t = some (.slice e)) (hi : P.info? e = some i) (hz : i.zero = some z)
    (hsize : i.size = size) (hby : i.bytes = bytes) (hzs : z.cells.size = size) (hsz : 0 < size)
    (v : Value) (n : Nat) (xs : List Value) (hs : a.eval s = v) (hown : w.ownsRow base e size v n xs)
    (ad : Addr) (m c : Nat) (news : List Value) (hx : a.eval x = .slice (some ad) m c) (hl : news.length = m * size) (hnews : ∀ j u, news[j]? = some u → w.cell? (ad.add j) = some u) (h1 : ∀ u ∈ news, u.oneCell' = true)
    (h63 : n + m ≤ maxLen) (hbytes : (n + m) * bytes ≤ 140737488355328) (hbase : base ≤ w.heap.size) (hm : 0 < m)
    (h : ∀ v' w', w'.ownsRow base e size v' (n + m) (xs ++ news) → w.grownBy w' v.ownBlock → (v'.ownBlock = v.ownBlock ∨ v'.ownBlock = some w.heap.size) → wpList P ops Q rest (a.put o.dst v') w') : wpList P ops Q (o :: rest) a w :=
  wpList_plain hgd fun _ hK => wp_append_new s x t ho base e i z size bytes ht hi hz hsize hby hzs hsz v n xs hs hown ad m c news hx hl hnews h1 h63 hbytes hbase hm (fun v' w' a1 a2 a3 => hK _ _ (h v' w' a1 a2 a3))

/-- A node more in a row. -/
theorem rall_more {w0 w w5 : World} {base : Nat} {ov v' : Value} {l : List (Nd × Value × Value)} {fp f2 : List Nat} {nd : Nd} {p : Option Addr} {m c : Nat} {kv : Value} (hall : RAll w0 w base l fp) (hnd : (blk ov ++ fp).Nodup) (ha : AttrRow w0 p m nd.attrs) (hk : RAt w0 w base kv nd.kids f2) (hf2 : f2.Nodup) (hdis : ∀ k ∈ f2, k ∉ blk ov ++ fp)
    (hown : w5.ownsRow base 40 4 v' (l.length + 1) (ndCells l ++ [.string ⟨nd.name.toArray⟩, .slice p m c, .string ⟨nd.text.toArray⟩, kv])) (hgr : w.grownBy w5 ov.ownBlock) (hfr : v'.ownBlock = ov.ownBlock ∨ v'.ownBlock = some w.heap.size) :
    ∃ fp', RAll w0 w5 base (l ++ [(nd, .slice p m c, kv)]) fp' ∧ w5.ownsRow base 40 4 v' (l ++ [(nd, Value.slice p m c, kv)]).length (ndCells (l ++ [(nd, .slice p m c, kv)])) ∧ (blk v' ++ fp').Nodup := by
  have hS : ∀ k, k < w.heap.size → k ∉ blk ov → w5.heap[k]? = w.heap[k]? := fun k hk hm => hgr.block k hk (fun e => hm (by unfold blk; rw [← e]; simp))
  have hnd' := List.nodup_append.1 hnd
  have h1 : RAll w0 w5 base l fp := hall.stays hS (fun k hk hm => hnd'.2.2 k hm k hk rfl)
  have h2 : RAt w0 w5 base kv nd.kids f2 := hk.stays hS (fun k hk' hm => hdis k hk' (List.mem_append_left _ hm))
  refine ⟨fp ++ (f2 ++ []), h1.app (.cons nd p m c kv [] f2 [] ha h2 .nil), ?_, ?_⟩
  · rw [nd_one, List.length_append]
    exact hown
  · rw [List.append_nil]
    have hlt1 := hall.lt
    have hlt2 := hk.lt
    have hn2 : (fp ++ f2).Nodup := List.nodup_append.2 ⟨hnd'.2.1, hf2, fun a ha b hb e => hdis b hb (List.mem_append_right _ (by rw [← e]; exact ha))⟩
    rcases hfr with e | e
    · have eb : blk v' = blk ov := by unfold blk; rw [e]
      rw [eb]
      refine List.nodup_append.2 ⟨hnd'.1, hn2, ?_⟩
      intro a ha b hb e2
      subst e2
      rcases List.mem_append.1 hb with hb | hb
      · exact hnd'.2.2 a ha a hb rfl
      · exact hdis a hb (List.mem_append_left _ ha)
    · have eb : blk v' = [w.heap.size] := by unfold blk; rw [e]; rfl
      rw [eb]
      refine List.nodup_append.2 ⟨by simp, hn2, ?_⟩
      intro a ha b hb e2
      simp only [List.mem_singleton] at ha
      rcases List.mem_append.1 hb with hb | hb
      · have := (hlt1 b hb).2
        omega
      · have := (hlt2 b hb).2
        omega
end Go.Proofs.Ytkdppcpkigpmdaa

/-
  The document's kids, walked.
-/
namespace Go.Proofs.Ytkdppcpkigpmdaa
open Go.RowKit
open Utf1

/-- The rows that the document's kids has made so far. -/
def Out (w0 w : World) (base : Nat) (v : Value) (d : List Nd) : Prop := ∃ (l : List (Nd × Value × Value)) (fp : List Nat), l.map Prod.fst = d ∧ w.ownsRow base 40 4 v l.length (ndCells l) ∧ RAll w0 w base l fp ∧ (blk v ++ fp).Nodup
theorem Out.under {w0 w w' : World} {base : Nat} {v : Value} {d : List Nd} (h : Out w0 w base v d) (hb : Below w.heap.size w w') : Out w0 w' base v d := by
  obtain ⟨l, fp, h1, h2, h3, h4⟩ := h
  exact ⟨l, fp, h1, own_below h2 hb, h3.under hb, h4⟩

theorem node_one (a t : ByteArray) (p : Option Addr) (m c : Nat) (q : Option Addr) (m2 c2 : Nat) : ∀ x ∈ [Value.string a, .slice p m c, .string t, .slice q m2 c2], x.oneCell' = true := by
  intro x hx
  simp only [List.mem_cons, List.not_mem_nil, or_false] at hx
  rcases hx with rfl | rfl | rfl | rfl <;> rfl

set_option maxRecDepth 100000 in
set_option maxHeartbeats 8000000 in
theorem kids_st (w0 : World) (base R : Nat) (us : Fs) (hao : AttrsOk w0 us.fl) (hfl : us.fl.length ≤ 10000) : ∀ (M : Nat) (w : World) (ns : List Nd) (u : Int) (s : Nat) (pre post : List Fa) (p li pr : Bool), cntL ns ≤ M → FBs w base R us → us.fl.map Fl.fa = pre ++ (flatL ns u s ++ post) → pre.length = s → u + 1 = (s : Int) → (∀ f ∈ post, f.up < u ∨ ((s + cntL ns : Nat) : Int) ≤ f.up) → FineL blocks voids ns p li pr →
    Calls Try.prog 26 #[.pointer (some ⟨R, 0, none⟩), .int .i64 u] w fun e w' => ∃ q m c fp, e = .returned (.slice q m c) ∧ RAt w0 w' w.heap.size (.slice q m c) ns fp ∧ fp.Nodup ∧ Below w.heap.size w w' := by
  intro M
  induction M using Nat.strongRecOn with
  | _ M ih =>
  intro w ns u s pre post p li pr hM hF hlist hpre hu hpost hfine
  obtain ⟨N, hN⟩ : ∃ N, N = us.fl.length := ⟨_, rfl⟩
  have hsN : s ≤ N := by
    have := congrArg List.length hlist
    rw [List.length_map, List.length_append, hpre] at this
    omega
  have hN1 : N ≤ 10000 := by omega
  have HIH := hide ih
  have HF := hide hF
  have HM := hide hM
  have HN := hide hN
  have HAO := hide hao
  obtain ⟨i0, hi, hz0, hz1, hz2⟩ := info_parts infoNode
  have HINV : Hid (∃ (d rest : List Nd) (skip post' P : List Fa), ns = d ++ rest ∧ d = [] ∧ us.fl.map Fl.fa = P ++ (skip ++ (flatL rest u (s + skip.length) ++ post')) ∧ P.length = s ∧ (∀ f ∈ skip, f.up ≠ u) ∧ (∀ f ∈ post', f.up ≠ u) ∧ (rest ≠ [] → ∀ f ∈ post', f.up < u ∨ ((s + skip.length + cntL rest : Nat) : Int) ≤ f.up) ∧ ∃ pr, FineL blocks voids rest p li pr) := hide ⟨[], ns, [], post, pre, rfl, rfl, hlist, hpre, (fun f hf => by cases hf), (fun f hf => by rcases hpost f hf with h | h <;> omega), (fun _ => hpost), pr, hfine⟩
  have hcns : cntL ns ≤ 10000 := by
    have := congrArg List.length hlist
    rw [List.length_map, List.length_append, List.length_append, flatL_len] at this
    omega
  have HCNS := hide hcns
  have HU := hide hu
  have hub1 : -1 ≤ u := by omega
  have hub2 : u ≤ 10000 := by omega
  clear ih hF hM hN hlist hpre hpost hfine hcns hu
  go_enter Try.func26, Try.ntmps26
  go_wp2_with fail
  go_loopg [5, 6] (N - s) (fun k v5 v6 wr => ∃ (i : Nat), i + k = N ∧ s ≤ i ∧ v6 = .int .i64 (i : Int) ∧ (∃ q m c, v5 = .slice q m c) ∧ Hid (∃ (d rest : List Nd) (skip post' P : List Fa), ns = d ++ rest ∧ Out w0 wr w.heap.size v5 d ∧ us.fl.map Fl.fa = P ++ (skip ++ (flatL rest u (i + skip.length) ++ post')) ∧ P.length = i ∧ (∀ f ∈ skip, f.up ≠ u) ∧ (∀ f ∈ post', f.up ≠ u) ∧ (rest ≠ [] → ∀ f ∈ post', f.up < u ∨ ((i + skip.length + cntL rest : Nat) : Int) ≤ f.up) ∧ ∃ pr, FineL blocks voids rest p li pr) ∧ Hid (Below w.heap.size w wr))
  case atStart =>
    refine ⟨s, by omega, Nat.le_refl _, ?_, ⟨_, _, _, rfl⟩, hide ?_, hide (Below.refl _ _)⟩
    · first | (rw [HU.out]) | (show Value.int IntKind.i64 (u + 1) = _; rw [HU.out])
    · obtain ⟨d, rest, skip, post', P, e1, e2, e3⟩ := HINV.out
      exact ⟨d, rest, skip, post', P, e1, ⟨[], [], by rw [e2]; rfl, World.ownsRow_nil _ _ _ _, .nil, by simp [blk, Value.ownBlock]⟩, e3⟩
  case round =>
    obtain ⟨i, hik, hsi, rfl, ⟨oq, om, oc, rfl⟩, HV, HB⟩ := hrel
    clear HINV
    have hfr := FB.under HF.out HB.out
    obtain ⟨lp, lc, pp, pc, hR, hread, -⟩ := hfr.reads
    have c0 : wr.cell? ⟨R, 0, none⟩ = some (.slice lp us.fl.length lc) := tag_cell hR 0 _ rfl
    rw [← HN.out] at c0
    by_cases hlt : i < N
    · have hd : decide ((i : Int) < (N : Int)) = true := decide_eq_true (by omega)
      have hgf : us.fl[i]? = some (us.fl[i]'(by rw [← HN.out]; exact hlt)) := List.getElem?_eq_getElem _
      generalize us.fl[i]'(by rw [← HN.out]; exact hlt) = f at hgf
      obtain ⟨g, rfl, x0, x1, x2, x3, x4⟩ := hread i f hgf
      obtain ⟨d, rest, skip, post', P, e1, hout, e3, e4, e5, e6, e7, e8⟩ := HV.out
      have hfa : (skip ++ (flatL rest u (i + skip.length) ++ post'))[0]? = some f.fa := by
        have h1 : (us.fl.map Fl.fa)[i]? = some f.fa := by rw [List.getElem?_map, hgf]; rfl
        rw [e3, List.getElem?_append_right (by omega), e4, Nat.sub_self] at h1
        exact h1
      by_cases hup : f.up = u
      case neg =>
        have hupf : (f.up == u) = false := beq_eq_false_iff_ne.2 hup
        have HV2 : Hid (∃ (d rest : List Nd) (skip post' P : List Fa), ns = d ++ rest ∧ Out w0 wr w.heap.size (.slice oq om oc) d ∧ us.fl.map Fl.fa = P ++ (skip ++ (flatL rest u (i + 1 + skip.length) ++ post')) ∧ P.length = i + 1 ∧ (∀ f ∈ skip, f.up ≠ u) ∧ (∀ f ∈ post', f.up ≠ u) ∧ (rest ≠ [] → ∀ f ∈ post', f.up < u ∨ ((i + 1 + skip.length + cntL rest : Nat) : Int) ≤ f.up) ∧ ∃ pr, FineL blocks voids rest p li pr) := hide (by
          cases skip with
          | cons a sk =>
            have ea : a = f.fa := by simpa using hfa
            refine ⟨d, rest, sk, post', P ++ [a], e1, hout, ?_, by simp [e4], fun f hf => e5 f (by simp [hf]), e6, ?_, e8⟩
            · rw [e3, List.append_assoc, List.length_cons, show i + (sk.length + 1) = i + 1 + sk.length by omega]
              rfl
            · rw [List.length_cons] at e7
              rw [show i + 1 + sk.length + cntL rest = i + (sk.length + 1) + cntL rest by omega]
              exact e7
          | nil =>
            cases rest with
            | cons nd rest =>
              exfalso
              rw [List.nil_append, flatL, flatN_eq] at hfa
              have : nd.fa u = f.fa := by simpa using hfa
              exact hup (congrArg Fa.up this).symm
            | nil =>
              rw [flatL] at hfa
              cases post' with
              | nil => simp at hfa
              | cons a po =>
                have ea : a = f.fa := by simpa using hfa
                refine ⟨d, [], [], po, P ++ [a], e1, hout, ?_, by simp [e4], (fun f hf => by cases hf), (fun f hf => e6 f (by simp [hf])), (fun h => absurd rfl h), e8⟩
                rw [e3, flatL, flatL, List.append_assoc]
                rfl)
        obtain ⟨fu, hfu⟩ : ∃ fu, fu = f.up := ⟨_, rfl⟩
        rw [← hfu] at x4 hupf
        clear hfr hR hread hgf HV e1 e3 e4 e5 e6 e7 e8 hout hfa hup hfu x0 x1 x2 x3
        go_wp2_with fail
        go_roundg (gk - 1)
        case measure => omega
        case rel => exact ⟨i + 1, by omega, by omega, by first | rfl | simp, ⟨_, _, _, rfl⟩, HV2, HB⟩
      case pos =>
        subst hup
        have hsk : skip = [] := by
          cases skip with
          | nil => rfl
          | cons a sk =>
            have ea : a = f.fa := by simpa using hfa
            exact absurd (show a.up = f.up by rw [ea]; rfl) (e5 a (by simp))
        subst hsk
        obtain ⟨nd, rest', rfl⟩ : ∃ nd rest', rest = nd :: rest' := by
          cases rest with
          | cons a b => exact ⟨a, b, rfl⟩
          | nil =>
            rw [flatL] at hfa
            cases post' with
            | nil => simp at hfa
            | cons a po =>
              have ea : a = f.fa := by simpa using hfa
              exact absurd (show a.up = f.up by rw [ea]; rfl) (e6 a (by simp))
        rw [List.nil_append, flatL, flatN_eq] at hfa e3
        simp only [List.length_nil, Nat.add_zero] at e3 e7
        have hnf : nd.fa f.up = f.fa := by simpa using hfa
        have n1 : f.name = nd.name := (congrArg Fa.name hnf).symm
        have n2 : f.attrs = nd.attrs := (congrArg Fa.attrs hnf).symm
        have n3 : f.text = nd.text := (congrArg Fa.text hnf).symm
        obtain ⟨pr0, hfl0⟩ := e8
        rw [FineL] at hfl0
        obtain ⟨hfn, hfr0⟩ := hfl0
        have hcn := cntN_kids nd
        have hui : f.up < (i : Int) := by have := HU.out; omega
        have hns : ns = (d ++ [nd]) ++ rest' := by rw [e1]; simp
        have HNEXT : Hid (∀ wx v', Out w0 wx w.heap.size v' (d ++ [nd]) → ∃ (d rest : List Nd) (skip post' P : List Fa), ns = d ++ rest ∧ Out w0 wx w.heap.size v' d ∧ us.fl.map Fl.fa = P ++ (skip ++ (flatL rest f.up (i + 1 + skip.length) ++ post')) ∧ P.length = i + 1 ∧ (∀ f' ∈ skip, f'.up ≠ f.up) ∧ (∀ f' ∈ post', f'.up ≠ f.up) ∧ (rest ≠ [] → ∀ f' ∈ post', f'.up < f.up ∨ ((i + 1 + skip.length + cntL rest : Nat) : Int) ≤ f'.up) ∧ ∃ pr, FineL blocks voids rest p li pr) := hide (by
          intro wx v' hx
          refine ⟨d ++ [nd], rest', flatL nd.kids (i : Int) (i + 1), post', P ++ [nd.fa f.up], hns, hx, ?_, by simp [e4], ?_, e6, ?_, _, hfr0⟩
          · rw [e3, flatL_len, List.append_assoc, show i + 1 + cntL nd.kids = i + cntN nd by omega]
            simp
          · intro f' hf'
            rcases flatL_up _ _ _ f' hf' with h | h <;> omega
          · intro _ f' hf'
            rw [flatL_len]
            have := e7 (by simp) f' hf'
            rw [cntL] at this
            rcases this with h | h
            · exact .inl h
            · exact .inr (by omega))
        have hatt : AttrRow w0 f.ap f.am nd.attrs := by rw [← n2]; exact HAO.out f (List.mem_of_getElem? hgf)
        have HREC : Hid (nd.name ≠ [] → ∀ wx, FBs wx base R us → Calls Try.prog 26 #[.pointer (some ⟨R, 0, none⟩), .int .i64 (i : Int)] wx fun e w' => ∃ q m c fp, e = .returned (.slice q m c) ∧ RAt w0 w' wx.heap.size (.slice q m c) nd.kids fp ∧ fp.Nodup ∧ Below wx.heap.size wx w') := hide (by
          intro hne wx hx
          obtain ⟨_, _, _, _, hfk⟩ := ((FineN_iff _ _ _ _).1 hfn).2 hne
          have hlt2 : cntL nd.kids < M := by
            have h1 := HM.out
            rw [hns, cntL_app, cntL_app, cntL, cntL] at h1
            omega
          refine HIH.out (cntL nd.kids) hlt2 wx nd.kids (i : Int) (i + 1) (P ++ [nd.fa f.up]) (flatL rest' f.up (i + cntN nd) ++ post') _ _ _ (Nat.le_refl _) hx ?_ (by simp [e4]) (by omega) ?_ hfk
          · rw [e3]
            simp
          · intro f' hf'
            rcases List.mem_append.1 hf' with h | h
            · rcases flatL_up _ _ _ f' h with h | h
              · left; omega
              · right; omega
            · have := e7 (by simp) f' h
              rw [cntL] at this
              rcases this with h | h
              · left; omega
              · right; omega)
        have hkids0 : nd.name = [] → nd.kids = [] := fun e => (((FineN_iff _ _ _ _).1 hfn).1 e).2.1
        obtain ⟨l, fp, h1, hro, hall, hnd⟩ := hout
        have hom : om = l.length := by
          obtain ⟨_, _, e⟩ := own_len hro
          injection e
        subst hom
        have hll : l.length ≤ 10000 := by
          have h2 := congrArg List.length h1
          rw [List.length_map] at h2
          have h4 := HCNS.out
          have h5 := len_cnt ns
          have h6 := congrArg List.length hns
          rw [List.length_append, List.length_append] at h6
          omega
        obtain ⟨XN, hXN⟩ : ∃ X : ByteArray, X = ⟨f.name.toArray⟩ := ⟨_, rfl⟩
        obtain ⟨XT, hXT⟩ : ∃ X : ByteArray, X = ⟨f.text.toArray⟩ := ⟨_, rfl⟩
        rw [← hXN] at x0
        rw [← hXT] at x2
        have q0 : XN.toList.isEmpty = decide (nd.name = []) := by
          rw [ByteArray.toList_eq, hXN, n1]
          show nd.name.isEmpty = _
          cases nd.name <;> simp
        have HXX : Hid (XN = ⟨nd.name.toArray⟩ ∧ XT = ⟨nd.text.toArray⟩) := hide ⟨by rw [hXN, n1], by rw [hXT, n3]⟩
        obtain ⟨w2, hw2⟩ : ∃ w2, w2 = wr.alloc (.cells #[.string XN, .slice f.ap f.am f.ac, .string XT, .slice none 0 0] 40) := ⟨_, rfl⟩
        have hb2 : Below wr.heap.size wr w2 := by rw [hw2]; exact (Below.refl _ _).alloc (Nat.le_refl _) _
        have hbox : w2.heap[wr.heap.size]? = some (.cells #[.string XN, .slice f.ap f.am f.ac, .string XT, .slice none 0 0] 40 (0, 0)) := by rw [hw2]; exact heap_alloc_new _ _
        have hwz : w.heap.size ≤ wr.heap.size := HB.out.size
        have HB2 := hide (HB.out.trans (hb2.mono hwz))
        have HALL := hide (And.intro (hall.under hb2) (And.intro hnd (And.intro h1 hatt)))
        have HRO2 := hide (own_below hro hb2)
        have HLT := hide (And.intro hall.lt (own_lt hro))
        have HF2 := hide (FB.under hfr hb2)
        have HBOX := hide hbox
        have hs2 : wr.heap.size < w2.heap.size := lt_of_block hbox
        obtain ⟨Nb, hNb⟩ : ∃ Nb, Nb = wr.heap.size := ⟨_, rfl⟩
        rw [← hNb] at HBOX HLT hs2 hwz
        have HNb := hide hNb
        clear hfr hR hread hgf HV e1 e3 e4 e5 e6 e7 hfa n1 n2 n3 hfn hfr0 hns hnf hXN hXT hb2 hbox hall hro hnd h1 hatt HB hNb
        by_cases hnm : nd.name = []
        · rw [decide_eq_true hnm] at q0
          have hk0 := hkids0 hnm
          have HK0 := hide hk0
          have y0 : w2.cell? ⟨Nb, 0, none⟩ = some (.string XN) := tag_cell HBOX.out 0 _ rfl
          have y1 : w2.cell? ⟨Nb, 1, none⟩ = some (.slice f.ap f.am f.ac) := tag_cell HBOX.out 1 _ rfl
          have y2 : w2.cell? ⟨Nb, 2, none⟩ = some (.string XT) := tag_cell HBOX.out 2 _ rfl
          have y3 : w2.cell? ⟨Nb, 3, none⟩ = some (.slice none 0 0) := tag_cell HBOX.out 3 _ rfl
          have hal : Below w2.heap.size w2 (w2.alloc (.cells #[.string XN, .slice f.ap f.am f.ac, .string XT, .slice none 0 0] 40)) := (Below.refl _ _).alloc (Nat.le_refl _) _
          have HRO := hide (own_below HRO2.out hal)
          have HAL := hide (HALL.out.1.under hal)
          have HZ5 : Hid (w.heap.size ≤ (w2.alloc (.cells #[.string XN, .slice f.ap f.am f.ac, .string XT, .slice none 0 0] 40)).heap.size) := hide (Nat.le_trans HB2.out.size hal.size)
          have HB5 := hide (HB2.out.trans (hal.mono HB2.out.size))
          clear hal hk0 hkids0 hnm HREC HF2 HBOX HRO2
          go_upto_region 7 with fail
          rw [← hw2, ← HNb.out]
          clear hw2 HNb x0 x1 x2 x3
          go_wp2_with (at_builtin; refine wpList_append_new rfl (.tmp 44) (.tmp 46) 25 rfl w.heap.size 40 i0 _ 4 80 Try.underlying25 hi hz0 hz1 hz2 rfl (by decide) (.slice oq l.length oc) l.length (ndCells l) rfl HRO.out ⟨w2.heap.size, 0, none⟩ 1 1 [.string XN, .slice f.ap f.am f.ac, .string XT, .slice none 0 0] rfl rfl (five_newA w2 _ _) (node_one _ _ _ _ _ _ _ _) (by unfold maxLen; omega) (by omega) HZ5.out (by decide) ?_)
          intro v' w6 hown6 hgr6 hfr6
          obtain ⟨bp, bm, bc, rfl⟩ := own_slice hown6
          rw [HXX.out.1, HXX.out.2] at hown6
          have esz : (w2.alloc (.cells #[.string XN, .slice f.ap f.am f.ac, .string XT, .slice none 0 0] 40)).heap.size = w2.heap.size + 1 := by simp
          rw [← esz] at hfr6
          have hk : RAt w0 (w2.alloc (.cells #[.string XN, .slice f.ap f.am f.ac, .string XT, .slice none 0 0] 40)) w.heap.size (.slice none 0 0) nd.kids [] := by rw [HK0.out]; exact RAt.empty _ _ _
          obtain ⟨fp', m1, m2, m3⟩ := rall_more HAL.out HALL.out.2.1 HALL.out.2.2.2 hk List.nodup_nil (fun k hk => by cases hk) hown6 hgr6 hfr6
          have HO : Hid (Out w0 w6 w.heap.size (.slice bp bm bc) (d ++ [nd])) := hide ⟨_, fp', by rw [List.map_append, HALL.out.2.2.1]; rfl, m2, m1, m3⟩
          have HB6 := hide (HB5.out.grown hgr6 HZ5.out (fun j hj => (HRO.out.lt j hj).1))
          have HV6 := hide (HNEXT.out _ _ HO.out)
          clear esz hown6 hgr6 hfr6 hk m1 m2 m3 HO HNEXT HALL HAL HRO HZ5 HB5 HXX HK0 HB2
          go_wp2_with fail
          go_roundg (gk - 1)
          case measure => omega
          case rel => exact ⟨i + 1, by omega, by omega, by first | rfl | simp, ⟨_, _, _, rfl⟩, HV6, HB6⟩
        · rw [decide_eq_false hnm] at q0
          have HC := hide (HREC.out hnm w2 HF2.out)
          have y0 : w2.cell? ⟨Nb, 0, none⟩ = some (.string XN) := tag_cell HBOX.out 0 _ rfl
          clear hkids0 hnm HREC
          go_upto_region 7 with fail
          rw [← hw2, ← HNb.out]
          clear hw2 HNb x0 x1 x2 x3
          go_wp2_with fail
          refine HC.out.mono ?_
          rintro e w3 ⟨kq, km, kc, f2, rfl, hra, hf2, hb3⟩
          have box3 : w3.heap[Nb]? = some (.cells #[.string XN, .slice f.ap f.am f.ac, .string XT, .slice none 0 0] 40 (0, 0)) := (hb3.block Nb hs2).trans HBOX.out
          have z0 : w3.cell? ⟨Nb, 0, none⟩ = some (.string XN) := tag_cell box3 0 _ rfl
          have z1 : w3.cell? ⟨Nb, 1, none⟩ = some (.slice f.ap f.am f.ac) := tag_cell box3 1 _ rfl
          have z2 : w3.cell? ⟨Nb, 2, none⟩ = some (.string XT) := tag_cell box3 2 _ rfl
          have z3 : w3.cell? ⟨Nb, 3, none⟩ = some (.slice none 0 0) := tag_cell box3 3 _ rfl
          have zf := tag_free box3 3
          have hsz4 : (w3.setCell ⟨Nb, 3, none⟩ (.slice kq km kc)).heap.size = w3.heap.size := by simp
          have hS : ∀ k, k < w3.heap.size → k ∉ [Nb] → (w3.setCell ⟨Nb, 3, none⟩ (.slice kq km kc)).heap[k]? = w3.heap[k]? := fun k _ hk => Below.heap_setCell _ _ _ _ (by simpa using hk)
          have hal : Below (w3.setCell ⟨Nb, 3, none⟩ (.slice kq km kc)).heap.size (w3.setCell ⟨Nb, 3, none⟩ (.slice kq km kc)) ((w3.setCell ⟨Nb, 3, none⟩ (.slice kq km kc)).alloc (.cells #[.string XN, .slice f.ap f.am f.ac, .string XT, .slice kq km kc] 40)) := (Below.refl _ _).alloc (Nat.le_refl _) _
          have hz3 : w.heap.size ≤ w3.heap.size := Nat.le_trans HB2.out.size hb3.size
          have HRO := hide (own_below (own_stays (own_below HRO2.out hb3) hS (fun k hk hm => by
            have h1 := (HLT.out.2 k (by unfold blk; rw [hk]; simp)).2
            have h2 : k = Nb := by simpa using hm
            omega)) hal)
          have HAL := hide (((HALL.out.1.under hb3).stays hS (fun k hk hm => by
            have h1 := (HLT.out.1 k hk).2
            have h2 : k = Nb := by simpa using hm
            omega)).under hal)
          have hk := ((hra.stays hS (fun k hk hm => by
            have h1 := (hra.lt k hk).1
            have h2 : k = Nb := by simpa using hm
            omega)).under hal).low HB2.out.size
          have hdis : ∀ k ∈ f2, k ∉ blk (.slice oq l.length oc) ++ fp := by
            intro k hk' hm
            have h1 := (hra.lt k hk').1
            rcases List.mem_append.1 hm with h | h
            · have := (HLT.out.2 k h).2
              omega
            · have := (HLT.out.1 k h).2
              omega
          have HZ5 : Hid (w.heap.size ≤ ((w3.setCell ⟨Nb, 3, none⟩ (.slice kq km kc)).alloc (.cells #[.string XN, .slice f.ap f.am f.ac, .string XT, .slice kq km kc] 40)).heap.size) := hide (by have := hal.size; rw [hsz4] at this; omega)
          have HB5 := hide (((HB2.out.trans (hb3.mono HB2.out.size)).setCell (p := ⟨Nb, 3, none⟩) hwz (.slice kq km kc)).alloc (by rw [hsz4]; exact hz3) (.cells #[.string XN, .slice f.ap f.am f.ac, .string XT, .slice kq km kc] 40))
          have hnews := five_newA (w3.setCell ⟨Nb, 3, none⟩ (.slice kq km kc)) #[.string XN, .slice f.ap f.am f.ac, .string XT, .slice kq km kc] 40
          rw [hsz4] at hnews
          have HNEWS := hide hnews
          have HK := hide (And.intro hk (And.intro hf2 hdis))
          have HSZ4 := hide hsz4
          clear hal hk hf2 hdis hra hb3 hnews HRO2 box3 hS HC HF2 HBOX HLT y0 hsz4
          go_wp2_with (at_builtin; refine wpList_append_new rfl (.tmp 44) (.tmp 46) 25 rfl w.heap.size 40 i0 _ 4 80 Try.underlying25 hi hz0 hz1 hz2 rfl (by decide) (.slice oq l.length oc) l.length (ndCells l) rfl HRO.out ⟨w3.heap.size, 0, none⟩ 1 1 [.string XN, .slice f.ap f.am f.ac, .string XT, .slice kq km kc] rfl rfl HNEWS.out (node_one _ _ _ _ _ _ _ _) (by unfold maxLen; omega) (by omega) HZ5.out (by decide) ?_)
          intro v' w6 hown6 hgr6 hfr6
          obtain ⟨bp, bm, bc, rfl⟩ := own_slice hown6
          rw [HXX.out.1, HXX.out.2] at hown6
          have hfr7 : (Value.slice bp bm bc).ownBlock = (Value.slice oq l.length oc).ownBlock ∨ (Value.slice bp bm bc).ownBlock = some ((w3.setCell ⟨Nb, 3, none⟩ (.slice kq km kc)).alloc (.cells #[.string XN, .slice f.ap f.am f.ac, .string XT, .slice kq km kc] 40)).heap.size := by
            have e : ((w3.setCell ⟨Nb, 3, none⟩ (.slice kq km kc)).alloc (.cells #[.string XN, .slice f.ap f.am f.ac, .string XT, .slice kq km kc] 40)).heap.size = w3.heap.size + 1 := by simp
            rw [e]
            simpa using hfr6
          obtain ⟨fp', m1, m2, m3⟩ := rall_more HAL.out HALL.out.2.1 HALL.out.2.2.2 HK.out.1 HK.out.2.1 HK.out.2.2 hown6 hgr6 hfr7
          have HO : Hid (Out w0 w6 w.heap.size (.slice bp bm bc) (d ++ [nd])) := hide ⟨_, fp', by rw [List.map_append, HALL.out.2.2.1]; rfl, m2, m1, m3⟩
          have HB6 := hide (HB5.out.grown hgr6 HZ5.out (fun j hj => (HRO.out.lt j hj).1))
          have HV6 := hide (HNEXT.out _ _ HO.out)
          clear hown6 hgr6 hfr6 hfr7 m1 m2 m3 HO HNEXT HALL HAL HRO HZ5 HB5 HXX HK HB2 HNEWS HSZ4 z0 z1 z2 z3 zf
          go_wp2_with fail
          go_roundg (gk - 1)
          case measure => omega
          case rel => exact ⟨i + 1, by omega, by omega, by first | rfl | simp, ⟨_, _, _, rfl⟩, HV6, HB6⟩
    · have hd : decide ((i : Int) < (N : Int)) = false := decide_eq_false (by omega)
      have HE : Hid (∃ fp, RAt w0 wr w.heap.size (.slice oq om oc) ns fp ∧ fp.Nodup) := hide (by
        obtain ⟨d, rest, skip, post', P, e1, ⟨l, fp, h1, h2, h3, h4⟩, e3, e4, e5, e6, e7, e8⟩ := HV.out
        have hlen := congrArg List.length e3
        rw [List.length_map, ← HN.out, List.length_append, List.length_append, List.length_append, flatL_len, e4] at hlen
        have hr : rest = [] := by
          cases rest with
          | nil => rfl
          | cons a b =>
            have := cntN_kids a
            rw [cntL] at hlen
            omega
        rw [hr, List.append_nil] at e1
        rw [e1, ← h1]
        exact ⟨_, RAt.mk _ l fp h2 h3, h4⟩)
      clear hfr hR hread HV
      go_wp2_with fail
      try rw [Exit.noGoto_ret]
      go_ret
      obtain ⟨fp, h1, h2⟩ := HE.out
      exact ⟨_, _, _, fp, rfl, h1, h2, HB.out⟩
end Go.Proofs.Ytkdppcpkigpmdaa
