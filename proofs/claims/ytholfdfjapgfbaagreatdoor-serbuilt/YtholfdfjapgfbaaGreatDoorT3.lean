/-
  A scope in which the run jumps to any of its labels; what readTag's variables hold at each of them.
-/
import Derived.Test.YtholfdfjapgfbaaGreatDoorT2
import Derived.ScopeJumps
import Derived.Maps.Own
import Derived.Maps.OwnOps
import Derived.Maps.Views
import Derived.Deep.RegionWith
namespace Go.Proofs.YtholfdfjapgfbaaGreatDoor
open Go.RowKit
open Utf1

/-- As Q; by a goto to a label: what J says of that label. -/
def jumps (J : Nat → Act → World → Prop) (Q : Exit → Act → World → Prop) : Exit → Act → World → Prop
  | .goto l, a, w => J l a w
  | e, a, w => Q e a w

theorem jumps_mono {J J' : Nat → Act → World → Prop} {Q : Exit → Act → World → Prop} (h : ∀ l a w, J l a w → J' l a w) : ∀ e a w, jumps J Q e a w → jumps J' Q e a w := by
  intro e a w hq
  cases e with
  | goto l => exact h l a w hq
  | normal => exact hq
  | exit id => exact hq
  | ret => exact hq
  | panic ch => exact hq
  | outgrown => exact hq

theorem wp_scope_all {P : Program} {a : Act} {w : World} {Q : Exit → Act → World → Prop} {c : Code} (J : Nat → Nat → Act → World → Prop)
    (pass : ∀ n l a w, J n l a w → ∃ rest, findLabel c l = some rest ∧ rest.wp P (jumps (fun l' a' w' => ∃ n', n' < n ∧ J n' l' a' w') Q) a w)
    (first : c.wp P (jumps (fun l a' w' => ∃ n, J n l a' w') Q) a w) : (Code.scope c).wp P Q a w := by
  intro b k cs
  have hg : ∀ l rest, findLabel c l = some rest → gotoIn l (.inScope c :: k) = some (.code rest :: .inScope c :: k) := by
    intro l rest hf
    simp [gotoIn, hf]
  have key : ∀ n l a w rest, J n l a w → findLabel c l = some rest → rest.wp P (jumps (fun l' a' w' => ∃ n', n' < n ∧ J n' l' a' w') Q) a w → ∃ e a' w', Q e a' w' ∧ Arrives P (lone (b.at a (.code rest :: .inScope c :: k)) cs w) b k cs e a' w' := by
    intro n
    induction n using Nat.strongRecOn with
    | _ n ih =>
      intro l a w rest hJ hf hr
      obtain ⟨e, a₁, w₁, hq, harr⟩ := hr b (.inScope c :: k) cs
      cases e with
      | normal => exact ⟨.normal, a₁, w₁, hq, Steps.trans harr (.one step_inScope)⟩
      | exit id => exact ⟨.exit id, a₁, w₁, hq, fun k' hk => harr k' (by simp [exitTo, hk])⟩
      | goto l' =>
        obtain ⟨n', hlt, hJ'⟩ := hq
        obtain ⟨rest', hf', hr'⟩ := pass n' l' a₁ w₁ hJ'
        obtain ⟨e₂, a₂, w₂, hq₂, harr₂⟩ := ih n' hlt l' a₁ w₁ rest' hJ' hf' hr'
        exact ⟨e₂, a₂, w₂, hq₂, .of_steps (harr _ (hg l' rest' hf')) harr₂⟩
      | ret => exact ⟨_, a₁, w₁, hq, harr⟩
      | panic ch => exact ⟨_, a₁, w₁, hq, harr⟩
      | outgrown => exact ⟨_, a₁, w₁, hq, harr⟩
  obtain ⟨e, a₁, w₁, hq, harr⟩ := first b (.inScope c :: k) cs
  cases e with
  | normal => exact ⟨.normal, a₁, w₁, hq, .head step_scope (Steps.trans harr (.one step_inScope))⟩
  | exit id => exact ⟨.exit id, a₁, w₁, hq, fun k' hk => .head step_scope (harr k' (by simp [exitTo, hk]))⟩
  | goto l' =>
    obtain ⟨n', hJ'⟩ := hq
    obtain ⟨rest', hf', hr'⟩ := pass n' l' a₁ w₁ hJ'
    obtain ⟨e₂, a₂, w₂, hq₂, harr₂⟩ := key n' l' a₁ w₁ rest' hJ' hf' hr'
    exact ⟨e₂, a₂, w₂, hq₂, .of_steps (.head step_scope (harr _ (hg l' rest' hf'))) harr₂⟩
  | ret => exact ⟨_, a₁, w₁, hq, .of_steps (.one step_scope) harr⟩
  | panic ch => exact ⟨_, a₁, w₁, hq, .of_steps (.one step_scope) harr⟩
  | outgrown => exact ⟨_, a₁, w₁, hq, .of_steps (.one step_scope) harr⟩

/-- The first scope in a body. -/
def inScopes : Code → Option Code
  | .scope c => some c
  | .seq a b => (inScopes a).or (inScopes b)
  | _ => none
/-- What stands in readTag's scope. -/
noncomputable def tagCode : Code := ((Tryz.f24.body).bind inScopes).getD .skip

/-- Attributes as cells. -/
def attrCells : List (List UInt8 × List UInt8) → List Value
  | [] => []
  | p :: r => .string ⟨p.1.toArray⟩ :: .string ⟨p.2.toArray⟩ :: attrCells r
theorem attrCells_len : ∀ l, (attrCells l).length = l.length * 2
  | [] => rfl
  | p :: r => by
    simp only [attrCells, List.length_cons, attrCells_len r]
    omega
theorem attrCells_app : ∀ a b, attrCells (a ++ b) = attrCells a ++ attrCells b
  | [], _ => rfl
  | p :: r, b => by
    simp only [attrCells, List.cons_append, attrCells_app r b]

/-- What a tag has of the attributes that were met. -/
def atts (start : Bool) (acc : List (List UInt8 × List UInt8)) : List (List UInt8 × List UInt8) := if start then acc else []
/-- The tag of what was read. -/
def mkTk (start : Bool) (nm : ByteArray) (x : List (List UInt8 × List UInt8) × Bool × List UInt8) : Tk × List UInt8 := (if start then ⟨2, bl nm, x.1, x.2.1, []⟩ else ⟨3, bl nm, [], false, []⟩, x.2.2)

/-- How often each name was met. -/
def Met (D : DataW Unit) (ns : List (List UInt8)) (k : Nat) : Prop := ∀ n : List UInt8, ∃ c : Int, D.atKey (.string n) (.lit (.int .i64 0)) = .lit (.int .i64 c) ∧ 0 ≤ c ∧ c ≤ (k : Int) ∧ (c = 0 ↔ n ∉ ns)

/-- What readTag has laid: the result's cell, the tag, the map of names. -/
def TagSt (w0 wr : World) (start : Bool) (nm : ByteArray) (acc : List (List UInt8 × List UInt8)) (k : Nat) (av : Value) : Prop :=
  wr.heap[w0.heap.size]? = some (.cells #[.int .i64 0, .string ⟨#[]⟩, .slice none 0 0, .bool false, .string ⟨#[]⟩] 35 (0, 0)) ∧
  wr.heap[w0.heap.size + 1]? = some (.cells #[.int .i64 (if start then 2 else 3), .string nm, av, .bool false, .string ⟨#[]⟩] 35 (0, 0)) ∧
  wr.ownsRow w0.heap.size 38 2 av (atts start acc).length (attrCells (atts start acc)) ∧
  (∃ D : DataW Unit, wr.ownsMap Tryz.prog 9 (plainElem Tryz.prog 3) (w0.heap.size + 2) k D ∧ Maps.IsMap D ∧ Met D (acc.map Prod.fst) k) ∧
  acc.length ≤ k ∧ Below w0.heap.size w0 wr

theorem below_grown {w w' : World} (hb : Below w.heap.size w w') : w.grownBy w' none := ⟨hb.os, hb.tape, hb.output, hb.size, fun k hk _ => hb.block k hk⟩

theorem TagSt.below {w0 wr w1 : World} {start : Bool} {nm : ByteArray} {acc : List (List UInt8 × List UInt8)} {k : Nat} {av : Value} (h : TagSt w0 wr start nm acc k av) (hb : Below wr.heap.size wr w1) : TagSt w0 w1 start nm acc k av := by
  obtain ⟨h1, h2, h3, ⟨D, h4, h5⟩, h6, h7⟩ := h
  refine ⟨(hb.block _ (lt_of_block h1)).trans h1, (hb.block _ (lt_of_block h2)).trans h2, h3.kept (below_grown hb) ?_, ⟨D, h4.kept (below_grown hb) (by simp), h5⟩, h6, h7.trans (hb.mono h7.size)⟩
  cases v : av.ownBlock with
  | none => exact .inl rfl
  | some g => exact .inr (by simp)

theorem tag_cell {w : World} {b : Nat} {cs : Array Value} {t : TypeId} (h : w.heap[b]? = some (.cells cs t (0, 0))) (i : Nat) (v : Value) (hv : cs[i]? = some v) : w.cell? ⟨b, i, none⟩ = some v := by
  simp [World.cell?, h, hv]
theorem tag_free {w : World} {b : Nat} {cs : Array Value} {t : TypeId} (h : w.heap[b]? = some (.cells cs t (0, 0))) (i : Nat) : w.frozen? ⟨b, i, none⟩ = false := by
  simp [World.frozen?, h]

/-- What readTag answers. -/
def TagPost (tg : Option (Tk × List UInt8)) (w : World) (e : Ending) (w' : World) : Prop :=
  match tg with
  | none => e = .returned (.tuple #[.agg #[.int .i64 0, .string ⟨#[]⟩, .slice none 0 0, .bool false, .string ⟨#[]⟩], .string ⟨#[]⟩, .bool false]) ∧ Below w.heap.size w w'
  | some (t, r) => ∃ av, e = .returned (.tuple #[.agg #[.int .i64 (t.kind : Int), .string ⟨t.name.toArray⟩, av, .bool t.closed, .string ⟨t.text.toArray⟩], .string ⟨r.toArray⟩, .bool true]) ∧ w'.ownsRow w.heap.size 38 2 av t.attrs.length (attrCells t.attrs) ∧ Below w.heap.size w w'

theorem results_cell3 {fn : Func} {p u v : Tmp} {ty : TypeId} (h : fn.results = #[.cell p ty, .tmp u, .tmp v]) (tmps : Array Value) (P : Program) (w : World) :
    (results fn tmps).run P w =
      ((asAddr (tmps.getD p undef)).run P w).andThen fun a w₁ => ((loadVar ty a).run P w₁).andThen fun x w₂ => .ok (.tuple #[x, tmps.getD u undef, tmps.getD v undef]) w₂ := by
  simp only [results, h]
  simp [Sem.run_bind, Result.andThen]

theorem load_tok (w : World) (b : Nat) (v0 v1 v2 v3 v4 : Value) (h : w.heap[b]? = some (.cells #[v0, v1, v2, v3, v4] 35 (0, 0))) : (loadVar 35 ⟨b, 0, none⟩).run Tryz.prog w = .ok (.agg #[v0, v1, v2, v3, v4]) w := by
  have c0 : w.cell? ⟨b, 0, none⟩ = some v0 := tag_cell h 0 _ rfl
  have c1 : w.cell? ⟨b, 1, none⟩ = some v1 := tag_cell h 1 _ rfl
  have c2 : w.cell? ⟨b, 2, none⟩ = some v2 := tag_cell h 2 _ rfl
  have c3 : w.cell? ⟨b, 3, none⟩ = some v3 := tag_cell h 3 _ rfl
  have c4 : w.cell? ⟨b, 4, none⟩ = some v4 := tag_cell h 4 _ rfl
  clear h
  go_simp

theorem ret_tag {R : Ending → World → Prop} {a : Act} {w : World} (b : Nat) (v0 v1 v2 v3 v4 x y : Value) (hd : a.defers = []) (h2 : a.tmps.getD 2 undef = .pointer (some ⟨b, 0, none⟩)) (h3 : a.tmps.getD 3 undef = x) (h4 : a.tmps.getD 4 undef = y)
    (h : w.heap[b]? = some (.cells #[v0, v1, v2, v3, v4] 35 (0, 0))) (hR : R (.returned (.tuple #[.agg #[v0, v1, v2, v3, v4], x, y])) w) : bodyPost Tryz.prog Tryz.f24 R .ret a w := by
  refine bodyPost_ret (v := .tuple #[.agg #[v0, v1, v2, v3, v4], x, y]) ?_ hd hR
  rw [results_cell3 (p := 2) (u := 3) (v := 4) (ty := 35) rfl, h2, h3, h4]
  have e : (asAddr (.pointer (some ⟨b, 0, none⟩))).run Tryz.prog w = .ok ⟨b, 0, none⟩ w := by rfl
  rw [e]
  simp only [Result.andThen]
  rw [load_tok w b v0 v1 v2 v3 v4 h]

theorem ret_tagd {R : Ending → World → Prop} {a : Act} {w : World} (b : Nat) (v0 v1 v2 v3 v4 x y : Value) (hd : a.defers = []) (h2 : a.tmps.getD 2 undef = .pointer (some ⟨b, 0, none⟩)) (h3 : a.tmps.getD 3 undef = x) (h4 : a.tmps.getD 4 undef = y)
    (h : w.heap[b]? = some (.cells #[v0, v1, v2, v3, v4] 35 (0, 0))) (hR : R (.returned (.tuple #[.agg #[v0, v1, v2, v3, v4], x, y])) w.drew) : bodyPost Tryz.prog Tryz.f24 R .ret a w.drew :=
  ret_tag b v0 v1 v2 v3 v4 x y hd h2 h3 h4 h hR

theorem tok_set {w : World} {b : Nat} {cs : Array Value} {t : TypeId} (h : w.heap[b]? = some (.cells cs t (0, 0))) (j : Nat) (v : Value) : (w.setCell ⟨b, j, none⟩ v).heap[b]? = some (.cells (cs.setIfInBounds j v) t (0, 0)) := by
  simp [World.setCell, Array.getElem?_modify, h]
theorem tok_five {w : World} {b : Nat} {o0 o1 o2 o3 o4 : Value} {t : TypeId} (h : w.heap[b]? = some (.cells #[o0, o1, o2, o3, o4] t (0, 0))) (v0 v1 v2 v3 v4 : Value) :
    (((((w.setCell ⟨b, 0, none⟩ v0).setCell ⟨b, 1, none⟩ v1).setCell ⟨b, 2, none⟩ v2).setCell ⟨b, 3, none⟩ v3).setCell ⟨b, 4, none⟩ v4).heap[b]? = some (.cells #[v0, v1, v2, v3, v4] t (0, 0)) :=
  tok_set (tok_set (tok_set (tok_set (tok_set h 0 v0) 1 v1) 2 v2) 3 v3) 4 v4
theorem below_five {B : Nat} {w0 w : World} {b : Nat} (h : Below B w0 w) (hb : B ≤ b) (v0 v1 v2 v3 v4 : Value) :
    Below B w0 (((((w.setCell ⟨b, 0, none⟩ v0).setCell ⟨b, 1, none⟩ v1).setCell ⟨b, 2, none⟩ v2).setCell ⟨b, 3, none⟩ v3).setCell ⟨b, 4, none⟩ v4) :=
  (((((h.setCell (p := ⟨b, 0, none⟩) hb v0).setCell (p := ⟨b, 1, none⟩) hb v1).setCell (p := ⟨b, 2, none⟩) hb v2).setCell (p := ⟨b, 3, none⟩) hb v3).setCell (p := ⟨b, 4, none⟩) hb v4)

theorem own_slice {w : World} {base : Nat} {e : TypeId} {size : Nat} {v : Value} {n : Nat} {xs : List Value} (h : w.ownsRow base e size v n xs) : ∃ p m c, v = .slice p m c := by
  obtain ⟨_, ⟨rfl, _⟩ | ⟨g, cap, cur, rfl, _⟩⟩ := h
  · exact ⟨_, _, _, rfl⟩
  · exact ⟨_, _, _, rfl⟩
theorem own_apart {w : World} {base : Nat} {e t : TypeId} {size : Nat} {v : Value} {n b : Nat} {xs : List Value} {cs : Array Value} {fz : Nat × Nat} (h : w.ownsRow base e size v n xs) (hb : w.heap[b]? = some (.cells cs t fz)) (hne : e ≠ t) : v.ownBlock ≠ some b := by
  obtain ⟨_, ⟨rfl, _⟩ | ⟨g, cap, cur, rfl, _, hg, _⟩⟩ := h
  · simp [Value.ownBlock]
  · intro e1
    have : g = b := by simpa [Value.ownBlock] using e1
    subst this
    rw [hg] at hb
    simp at hb
    exact hne hb.2.1
theorem own_set {w : World} {base : Nat} {e t : TypeId} {size : Nat} {v : Value} {n b : Nat} {xs : List Value} {cs : Array Value} {fz : Nat × Nat} (h : w.ownsRow base e size v n xs) (hb : w.heap[b]? = some (.cells cs t fz)) (hne : e ≠ t) (j : Nat) (u : Value) : (w.setCell ⟨b, j, none⟩ u).ownsRow base e size v n xs :=
  ownsRow_setCell_other h (own_apart h hb hne) u
theorem own_five {w : World} {base : Nat} {e t : TypeId} {size : Nat} {v : Value} {n b : Nat} {xs : List Value} {o0 o1 o2 o3 o4 : Value} (h : w.ownsRow base e size v n xs) (hb : w.heap[b]? = some (.cells #[o0, o1, o2, o3, o4] t (0, 0))) (hne : e ≠ t) (v0 v1 v2 v3 v4 : Value) :
    (((((w.setCell ⟨b, 0, none⟩ v0).setCell ⟨b, 1, none⟩ v1).setCell ⟨b, 2, none⟩ v2).setCell ⟨b, 3, none⟩ v3).setCell ⟨b, 4, none⟩ v4).ownsRow base e size v n xs :=
  own_set (own_set (own_set (own_set (own_set h hb hne 0 v0) (tok_set hb 0 v0) hne 1 v1) (tok_set (tok_set hb 0 v0) 1 v1) hne 2 v2) (tok_set (tok_set (tok_set hb 0 v0) 1 v1) 2 v2) hne 3 v3) (tok_set (tok_set (tok_set (tok_set hb 0 v0) 1 v1) 2 v2) 3 v3) hne 4 v4

def JBet (w0 : World) (start : Bool) (nm : ByteArray) (tg : Option (Tk × List UInt8)) (N n : Nat) (a : Act) (wr : World) : Prop :=
  ∃ (s : ByteArray) (acc : List (List UInt8 × List UInt8)) (k : Nat) (av : Value) (u1 u5 u6 u7 u8 u11 u12 u13 u14 u15 u16 u17 u18 u19 u20 u21 u22 u23 u24 u25 u26 u27 u28 u29 u30 u31 u32 u33 u34 u35 u36 u37 u38 u39 u40 u41 u42 u43 u44 u45 u46 u47 u48 u49 u50 u51 u52 u53 u54 u55 u56 u57 u58 u59 u60 u61 u62 u63 u64 u65 u66 u67 u68 u69 u70 u71 u72 u73 u74 u75 u76 u77 u78 u79 u80 u81 u82 u83 u84 u85 u86 u87 u88 u89 u90 u91 u92 u93 u94 u95 u96 u97 u98 u99 u100 u101 u102 u103 u104 u105 u106 u107 u108 u109 u110 u111 u112 u113 u114 u115 u116 u117 u118 u119 u120 u121 u122 u123 u124 u125 : Value), (n = 4 * s.size + 3 ∧ s.size + k ≤ N ∧ TagSt w0 wr start nm acc k av ∧ Hid (tg = (attrsOf acc (bl s)).map (mkTk start nm))) ∧ a = { tmps := #[.string s, u1, .pointer (some ⟨w0.heap.size, 0, none⟩), .string ⟨#[]⟩, .bool false, u5, u6, u7, u8, .pointer (some ⟨w0.heap.size + 1, 0, none⟩), .map (some (w0.heap.size + 2)), u11, u12, u13, u14, u15, u16, u17, u18, u19, u20, u21, u22, u23, u24, u25, u26, u27, u28, u29, u30, u31, u32, u33, u34, u35, u36, u37, u38, u39, u40, u41, u42, u43, u44, u45, u46, u47, u48, u49, u50, u51, u52, u53, u54, u55, u56, u57, u58, u59, u60, u61, u62, u63, u64, u65, u66, u67, u68, u69, u70, u71, u72, u73, u74, u75, u76, u77, u78, u79, u80, u81, u82, u83, u84, u85, u86, u87, u88, u89, u90, u91, u92, u93, u94, u95, u96, u97, u98, u99, u100, u101, u102, u103, u104, u105, u106, u107, u108, u109, u110, u111, u112, u113, u114, u115, u116, u117, u118, u119, u120, u121, u122, u123, u124, u125], defers := [] }
def JNon (w0 : World) (tg : Option (Tk × List UInt8)) (n : Nat) (a : Act) (wr : World) : Prop :=
  ∃ (u0 u1 u5 u6 u7 u8 u11 u12 u13 u14 u15 u16 u17 u18 u19 u20 u21 u22 u23 u24 u25 u26 u27 u28 u29 u30 u31 u32 u33 u34 u35 u36 u37 u38 u39 u40 u41 u42 u43 u44 u45 u46 u47 u48 u49 u50 u51 u52 u53 u54 u55 u56 u57 u58 u59 u60 u61 u62 u63 u64 u65 u66 u67 u68 u69 u70 u71 u72 u73 u74 u75 u76 u77 u78 u79 u80 u81 u82 u83 u84 u85 u86 u87 u88 u89 u90 u91 u92 u93 u94 u95 u96 u97 u98 u99 u100 u101 u102 u103 u104 u105 u106 u107 u108 u109 u110 u111 u112 u113 u114 u115 u116 u117 u118 u119 u120 u121 u122 u123 u124 u125 : Value), (n = 0 ∧ wr.heap[w0.heap.size]? = some (.cells #[.int .i64 0, .string ⟨#[]⟩, .slice none 0 0, .bool false, .string ⟨#[]⟩] 35 (0, 0)) ∧ Below w0.heap.size w0 wr ∧ Hid (tg = none)) ∧ a = { tmps := #[u0, u1, .pointer (some ⟨w0.heap.size, 0, none⟩), .string ⟨#[]⟩, .bool false, u5, u6, u7, u8, .pointer (some ⟨w0.heap.size + 1, 0, none⟩), .map (some (w0.heap.size + 2)), u11, u12, u13, u14, u15, u16, u17, u18, u19, u20, u21, u22, u23, u24, u25, u26, u27, u28, u29, u30, u31, u32, u33, u34, u35, u36, u37, u38, u39, u40, u41, u42, u43, u44, u45, u46, u47, u48, u49, u50, u51, u52, u53, u54, u55, u56, u57, u58, u59, u60, u61, u62, u63, u64, u65, u66, u67, u68, u69, u70, u71, u72, u73, u74, u75, u76, u77, u78, u79, u80, u81, u82, u83, u84, u85, u86, u87, u88, u89, u90, u91, u92, u93, u94, u95, u96, u97, u98, u99, u100, u101, u102, u103, u104, u105, u106, u107, u108, u109, u110, u111, u112, u113, u114, u115, u116, u117, u118, u119, u120, u121, u122, u123, u124, u125], defers := [] }
def JEnd (w0 : World) (start : Bool) (nm : ByteArray) (tg : Option (Tk × List UInt8)) (N n : Nat) (a : Act) (wr : World) : Prop :=
  ∃ (s gap : ByteArray) (acc : List (List UInt8 × List UInt8)) (k : Nat) (av : Value) (u1 u6 u7 u8 u11 u12 u13 u14 u15 u16 u17 u18 u19 u20 u21 u22 u23 u24 u25 u26 u27 u28 u29 u30 u31 u32 u33 u34 u35 u36 u37 u38 u39 u40 u41 u42 u43 u44 u45 u46 u47 u48 u49 u50 u51 u52 u53 u54 u55 u56 u57 u58 u59 u60 u61 u62 u63 u64 u65 u66 u67 u68 u69 u70 u71 u72 u73 u74 u75 u76 u77 u78 u79 u80 u81 u82 u83 u84 u85 u86 u87 u88 u89 u90 u91 u92 u93 u94 u95 u96 u97 u98 u99 u100 u101 u102 u103 u104 u105 u106 u107 u108 u109 u110 u111 u112 u113 u114 u115 u116 u117 u118 u119 u120 u121 u122 u123 u124 u125 : Value), (n = 1 ∧ gap.size ≤ N ∧ 1 ≤ s.size ∧ s.size ≤ N ∧ TagSt w0 wr start nm acc k av ∧ Hid (tg = some (mkTk start nm (acc, [47].isSuffixOf (bl gap), (bl s).drop 1)))) ∧ a = { tmps := #[.string s, u1, .pointer (some ⟨w0.heap.size, 0, none⟩), .string ⟨#[]⟩, .bool false, .string gap, u6, u7, u8, .pointer (some ⟨w0.heap.size + 1, 0, none⟩), .map (some (w0.heap.size + 2)), u11, u12, u13, u14, u15, u16, u17, u18, u19, u20, u21, u22, u23, u24, u25, u26, u27, u28, u29, u30, u31, u32, u33, u34, u35, u36, u37, u38, u39, u40, u41, u42, u43, u44, u45, u46, u47, u48, u49, u50, u51, u52, u53, u54, u55, u56, u57, u58, u59, u60, u61, u62, u63, u64, u65, u66, u67, u68, u69, u70, u71, u72, u73, u74, u75, u76, u77, u78, u79, u80, u81, u82, u83, u84, u85, u86, u87, u88, u89, u90, u91, u92, u93, u94, u95, u96, u97, u98, u99, u100, u101, u102, u103, u104, u105, u106, u107, u108, u109, u110, u111, u112, u113, u114, u115, u116, u117, u118, u119, u120, u121, u122, u123, u124, u125], defers := [] }
def JKeep (w0 : World) (start : Bool) (nm : ByteArray) (tg : Option (Tk × List UInt8)) (N n : Nat) (a : Act) (wr : World) : Prop :=
  ∃ (s name value : ByteArray) (acc : List (List UInt8 × List UInt8)) (k : Nat) (av : Value) (u1 u5 u8 u11 u12 u13 u14 u15 u16 u17 u18 u19 u20 u21 u22 u23 u24 u25 u26 u27 u28 u29 u30 u31 u32 u33 u34 u35 u36 u37 u38 u39 u40 u41 u42 u43 u44 u45 u46 u47 u48 u49 u50 u51 u52 u53 u54 u55 u56 u57 u58 u59 u60 u61 u62 u63 u64 u65 u66 u67 u68 u69 u70 u71 u72 u73 u74 u75 u76 u77 u78 u79 u80 u81 u82 u83 u84 u85 u86 u87 u88 u89 u90 u91 u92 u93 u94 u95 u96 u97 u98 u99 u100 u101 u102 u103 u104 u105 u106 u107 u108 u109 u110 u111 u112 u113 u114 u115 u116 u117 u118 u119 u120 u121 u122 u123 u124 u125 : Value), (n = 4 * s.size + 4 ∧ s.size + k + 1 ≤ N ∧ name.size ≤ N ∧ value.size ≤ N ∧ TagSt w0 wr start nm acc k av ∧ Hid (tg = (attrsOf (addAt acc (lower (bl name)) (res (bl value))) (bl s)).map (mkTk start nm))) ∧ a = { tmps := #[.string s, u1, .pointer (some ⟨w0.heap.size, 0, none⟩), .string ⟨#[]⟩, .bool false, u5, .string name, .string value, u8, .pointer (some ⟨w0.heap.size + 1, 0, none⟩), .map (some (w0.heap.size + 2)), u11, u12, u13, u14, u15, u16, u17, u18, u19, u20, u21, u22, u23, u24, u25, u26, u27, u28, u29, u30, u31, u32, u33, u34, u35, u36, u37, u38, u39, u40, u41, u42, u43, u44, u45, u46, u47, u48, u49, u50, u51, u52, u53, u54, u55, u56, u57, u58, u59, u60, u61, u62, u63, u64, u65, u66, u67, u68, u69, u70, u71, u72, u73, u74, u75, u76, u77, u78, u79, u80, u81, u82, u83, u84, u85, u86, u87, u88, u89, u90, u91, u92, u93, u94, u95, u96, u97, u98, u99, u100, u101, u102, u103, u104, u105, u106, u107, u108, u109, u110, u111, u112, u113, u114, u115, u116, u117, u118, u119, u120, u121, u122, u123, u124, u125], defers := [] }
def JQuo (w0 : World) (start : Bool) (nm : ByteArray) (tg : Option (Tk × List UInt8)) (N n : Nat) (a : Act) (wr : World) : Prop :=
  ∃ (s name : ByteArray) (q : UInt8) (v : List UInt8) (acc : List (List UInt8 × List UInt8)) (k : Nat) (av : Value) (u1 u5 u7 u8 u11 u12 u13 u14 u15 u16 u17 u18 u19 u20 u21 u22 u23 u24 u25 u26 u27 u28 u29 u30 u31 u32 u33 u34 u35 u36 u37 u38 u39 u40 u41 u42 u43 u44 u45 u46 u47 u48 u49 u50 u51 u52 u53 u54 u55 u56 u57 u58 u59 u60 u61 u62 u63 u64 u65 u66 u67 u68 u69 u70 u71 u72 u73 u74 u75 u76 u77 u78 u79 u80 u81 u82 u83 u84 u85 u86 u87 u88 u89 u90 u91 u92 u93 u94 u95 u96 u97 u98 u99 u100 u101 u102 u103 u104 u105 u106 u107 u108 u109 u110 u111 u112 u113 u114 u115 u116 u117 u118 u119 u120 u121 u122 u123 u124 u125 : Value), (n = 4 * s.size + 5 ∧ s.size + k + 1 ≤ N ∧ name.size ≤ N ∧ TagSt w0 wr start nm acc k av ∧ Hid (bl s = q :: v) ∧ Hid (tg = (match v.dropWhile (fun x => x != q) with | [] => none | _ :: r => attrsOf (addAt acc (lower (bl name)) (res (v.takeWhile (fun x => x != q)))) r).map (mkTk start nm))) ∧ a = { tmps := #[.string s, u1, .pointer (some ⟨w0.heap.size, 0, none⟩), .string ⟨#[]⟩, .bool false, u5, .string name, u7, u8, .pointer (some ⟨w0.heap.size + 1, 0, none⟩), .map (some (w0.heap.size + 2)), u11, u12, u13, u14, u15, u16, u17, u18, u19, u20, u21, u22, u23, u24, u25, u26, u27, u28, u29, u30, u31, u32, u33, u34, u35, u36, u37, u38, u39, u40, u41, u42, u43, u44, u45, u46, u47, u48, u49, u50, u51, u52, u53, u54, u55, u56, u57, u58, u59, u60, u61, u62, u63, u64, u65, u66, u67, u68, u69, u70, u71, u72, u73, u74, u75, u76, u77, u78, u79, u80, u81, u82, u83, u84, u85, u86, u87, u88, u89, u90, u91, u92, u93, u94, u95, u96, u97, u98, u99, u100, u101, u102, u103, u104, u105, u106, u107, u108, u109, u110, u111, u112, u113, u114, u115, u116, u117, u118, u119, u120, u121, u122, u123, u124, u125], defers := [] }

/-- What holds at each label. -/
def tagJ (w0 : World) (start : Bool) (nm : ByteArray) (tg : Option (Tk × List UInt8)) (N n l : Nat) (a : Act) (w : World) : Prop :=
  match l with
  | 0 => JBet w0 start nm tg N n a w
  | 1 => JNon w0 tg n a w
  | 2 => JEnd w0 start nm tg N n a w
  | 3 => JKeep w0 start nm tg N n a w
  | 4 => JQuo w0 start nm tg N n a w
  | _ => False
end Go.Proofs.YtholfdfjapgfbaaGreatDoor
