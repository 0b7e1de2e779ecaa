/-
  The tree's builder as a whole: open elements, the text that waits, the counts; put, told of trees.
-/
import Derived.Test.YtholfdfjapgfbaaGreatDoorG7
namespace Go.Proofs.YtholfdfjapgfbaaGreatDoor.Dm
open Go.RowKit
open Utf1

/-- The builder: os the open nodes with what each has so far (the first has the tree), t the text that waits, o and n the counts. -/
def St0 (w : World) (base B : Nat) (os : List Nd) (pa bv : Value) (o n : Nat) : Prop :=
  base ≤ B ∧ base ≤ w.heap.size ∧ ∃ (ov : Value) (l : List (Nd × Value × Value)) (fp : List Nat), l.map Prod.fst = os ∧ BB w B ov pa bv (.int .i64 (o : Int)) (.int .i64 (n : Int)) ∧ w.ownsRow base 42 4 ov l.length (ndCells l) ∧ KAll w base l fp ∧ (blk ov ++ fp).Nodup
/-- .. with the text that waits. -/
def St (w : World) (base B : Nat) (os : List Nd) (t : List UInt8) (o n : Nat) : Prop := ∃ pa bv, St0 w base B os pa bv o n ∧ Wait w base B pa bv t

/-- A node more in the last of some nodes. -/
def addKid (nd : Nd) (x : Nd) : Nd := .mk nd.name nd.attrs nd.text (nd.kids ++ [x])
def putN : List Nd → Nd → List Nd
  | [], _ => []
  | [nd], x => [addKid nd x]
  | a :: b :: r, x => a :: putN (b :: r) x
theorem putN_app : ∀ (i : List Nd) (nd x : Nd), putN (i ++ [nd]) x = i ++ [addKid nd x]
  | [], _, _ => rfl
  | [a], nd, x => rfl
  | a :: b :: r, nd, x => by
    show a :: putN (b :: (r ++ [nd])) x = _
    have := putN_app (b :: r) nd x
    rw [List.cons_append] at this
    rw [this]
    rfl

theorem kall_split {w : World} {base : Nat} : ∀ {a b : List (Nd × Value × Value)} {fp : List Nat}, KAll w base (a ++ b) fp → ∃ fa fb, fp = fa ++ fb ∧ KAll w base a fa ∧ KAll w base b fb
  | [], b, fp, h => ⟨[], fp, rfl, .nil, h⟩
  | (n, av, kv) :: a, b, _, .cons _ _ _ _ f fps ha hk hl => by
    obtain ⟨fa, fb, rfl, h1, h2⟩ := kall_split hl
    exact ⟨f ++ fa, fb, by rw [List.append_assoc], .cons n av kv a f fa ha hk h1, h2⟩
theorem kall_one {w : World} {base : Nat} {n : Nd} {av kv : Value} {fp : List Nat} (h : KAll w base [(n, av, kv)] fp) : w.ownsRow base 38 2 av n.attrs.length (attrCells n.attrs) ∧ KAt w base kv n.kids fp := by
  generalize hl : [(n, av, kv)] = l at h
  cases h with
  | nil => cases hl
  | cons n' av' kv' l f fps ha hk hl' =>
    cases hl
    cases hl'
    rw [List.append_nil]
    exact ⟨ha, hk⟩
theorem kat_inv {w : World} {base : Nat} {v : Value} {ns : List Nd} {fp : List Nat} (h : KAt w base v ns fp) : ∃ l f, ns = l.map Prod.fst ∧ fp = blk v ++ f ∧ w.ownsRow base 42 4 v l.length (ndCells l) ∧ KAll w base l f := by
  cases h with
  | mk v l f row all => exact ⟨l, f, rfl, rfl, row, all⟩

theorem kids_eq (nd : Nd) (kv' av : Value) (x : Nd) : ndCells1 nd av kv' = ndCells1 (addKid nd x) av kv' := by
  cases nd
  rfl
theorem bl_mk (l : List UInt8) : bl ⟨l.toArray⟩ = l := rfl

theorem nodup_put {ko : List Nat} {fi bk fk f2 bk' : List Nat} {N : Nat} (h : (ko ++ (fi ++ (bk ++ fk))).Nodup) (h2 : f2.Nodup) (hd : ∀ k ∈ f2, k ∉ ko ++ (fi ++ (bk ++ fk))) (hlt : ∀ k ∈ ko ++ (fi ++ (bk ++ fk)), k < N) (hlt2 : ∀ k ∈ f2, k < N)
    (hb : bk' = bk ∨ ∃ g, bk' = [g] ∧ N ≤ g) : (ko ++ (fi ++ (bk' ++ (fk ++ f2)))).Nodup := by
  have key : ∀ b : List Nat, (∀ k ∈ b, k ∉ ko ∧ k ∉ fi ∧ k ∉ fk ∧ k ∉ f2) → b.Nodup → (ko ++ (fi ++ (b ++ (fk ++ f2)))).Nodup := by
    intro b h1 h3
    simp only [List.nodup_append, List.mem_append] at h hd ⊢
    refine ⟨h.1, ⟨h.2.1.1, ⟨h3, ⟨h.2.1.2.1.2.1, h2, ?_⟩, ?_⟩, ?_⟩, ?_⟩
    · intro a ha c hc e
      subst e
      exact hd a hc (.inr (.inr (.inr ha)))
    · rintro a ha c (hc | hc) e <;> subst e
      · exact (h1 a ha).2.2.1 hc
      · exact (h1 a ha).2.2.2 hc
    · rintro a ha c (hc | hc | hc) e <;> subst e
      · exact (h1 a hc).2.1 ha
      · exact h.2.1.2.2 a ha a (.inr hc) rfl
      · exact hd a hc (.inr (.inl ha))
    · rintro a ha c (hc | hc | hc | hc) e <;> subst e
      · exact h.2.2 a ha a (.inl hc) rfl
      · exact (h1 a hc).1 ha
      · exact h.2.2 a ha a (.inr (.inr hc)) rfl
      · exact hd a hc (.inl ha)
  rcases hb with rfl | ⟨g, rfl, hgN⟩
  · refine key _ ?_ ?_
    · intro k hk
      simp only [List.nodup_append, List.mem_append] at h hd
      refine ⟨fun e => h.2.2 k e k (.inr (.inl hk)) rfl, fun e => h.2.1.2.2 k e k (.inl hk) rfl, fun e => h.2.1.2.1.2.2 k hk k e rfl, fun e => hd k e (.inr (.inr (.inl hk)))⟩
    · simp only [List.nodup_append] at h
      exact h.2.1.2.1.1
  · refine key _ ?_ (by simp)
    intro k hk
    have hk : k = g := by simpa using hk
    subst hk
    refine ⟨fun e => ?_, fun e => ?_, fun e => ?_, fun e => ?_⟩
    · have := hlt k (List.mem_append_left _ e); omega
    · have := hlt k (List.mem_append_right _ (List.mem_append_left _ e)); omega
    · have := hlt k (List.mem_append_right _ (List.mem_append_right _ (List.mem_append_right _ e))); omega
    · have := hlt2 k e; omega

/-- The builder, and a node beside it that is put nowhere yet. -/
def StX (w : World) (base B : Nat) (os : List Nd) (pa bv : Value) (o n : Nat) (x : Nd) (av2 kv2 : Value) : Prop :=
  base ≤ B ∧ base ≤ w.heap.size ∧ ∃ (ov : Value) (l : List (Nd × Value × Value)) (fp f2 : List Nat), l.map Prod.fst = os ∧ BB w B ov pa bv (.int .i64 (o : Int)) (.int .i64 (n : Int)) ∧ w.ownsRow base 42 4 ov l.length (ndCells l) ∧ KAll w base l fp ∧ (blk ov ++ fp).Nodup ∧
    w.ownsRow base 38 2 av2 x.attrs.length (attrCells x.attrs) ∧ KAt w base kv2 x.kids f2 ∧ f2.Nodup ∧ ∀ k ∈ f2, k ∉ blk ov ++ fp

theorem map_snoc {l : List (Nd × Value × Value)} {i : List Nd} {nd : Nd} (h : l.map Prod.fst = i ++ [nd]) : ∃ li av kv, l = li ++ [(nd, av, kv)] ∧ li.map Prod.fst = i := by
  obtain ⟨l1, l2, rfl, h1, h2⟩ := List.map_eq_append_iff.1 h
  match l2, h2 with
  | [(n, av, kv)], h2 =>
    have : n = nd := by simpa using h2
    subst this
    exact ⟨l1, av, kv, rfl, h1⟩
theorem own_two_ne {w : World} {base base' : Nat} {e e' : TypeId} {size size' : Nat} {v v' : Value} {n n' : Nat} {xs xs' : List Value} (h : w.ownsRow base e size v n xs) (h' : w.ownsRow base' e' size' v' n' xs') (hne : e ≠ e') {k : Nat} (hv : v.ownBlock = some k) (hv' : v'.ownBlock = some k) : False := by
  rcases own_two h h' hne with e1 | e1
  · rw [hv] at e1
    cases e1
  · exact e1 (hv.trans hv'.symm)
theorem nd_one (l : List (Nd × Value × Value)) (x : Nd) (av kv : Value) : ndCells (l ++ [(x, av, kv)]) = ndCells l ++ [.string ⟨x.name.toArray⟩, av, .string ⟨x.text.toArray⟩, kv] := by
  rw [ndCells_app]
  rfl
theorem nd_same (l : List (Nd × Value × Value)) (nd x : Nd) (av kv : Value) : ndCells (l ++ [(nd, av, kv)]) = ndCells (l ++ [(addKid nd x, av, kv)]) := by
  rw [nd_one, nd_one]
  cases nd
  rfl

theorem put_st (w : World) (base B : Nat) (i : List Nd) (nd : Nd) (pa bv : Value) (o n : Nat) (x : Nd) (ap : Option Addr) (am ac : Nat) (cp : Option Addr) (cm cc : Nat) (h : StX w base B (i ++ [nd]) pa bv o n x (.slice ap am ac) (.slice cp cm cc)) (hi : i.length ≤ 100000) (hk : nd.kids.length ≤ 100000) :
    Calls Tryz.prog 37 #[.pointer (some ⟨B, 0, none⟩), .agg #[.string ⟨x.name.toArray⟩, .slice ap am ac, .string ⟨x.text.toArray⟩, .slice cp cm cc]] w fun e w' => e = .returned (.tuple #[]) ∧ St0 w' base B (i ++ [addKid nd x]) pa bv o n ∧ Below base w w' ∧ ∀ (b : Nat) (v : Value) (m : Nat) (xs : List Value), w.ownsRow b 5 1 v m xs → w'.ownsRow b 5 1 v m xs := by
  obtain ⟨hbB, hbw, ov, l, fp, f2, hl, hBB, hro, hall, hnd, hxa, hxk, hf2, hdis⟩ := h
  obtain ⟨li, av, kv, rfl, hli⟩ := map_snoc hl
  obtain ⟨fi, fb, rfl, hki, hk1⟩ := kall_split hall
  obtain ⟨hav, hkv⟩ := kall_one hk1
  obtain ⟨k, fk, hkk, rfl, hrk, hkall⟩ := kat_inv hkv
  have hlen : (li ++ [(nd, av, kv)]).length = li.length + 1 := by simp
  rw [hlen] at hro
  obtain ⟨go, oc, rfl, -⟩ := own_at hro (by omega)
  obtain ⟨kp, km, kc, rfl⟩ := own_slice hrk
  have hlt : ∀ j ∈ blk (.slice (some ⟨go, 0, none⟩) (li.length + 1) oc) ++ (fi ++ (blk (.slice kp km kc) ++ fk)), j < w.heap.size := by
    intro j hj
    rcases List.mem_append.1 hj with hj | hj
    · exact (own_lt hro j hj).2
    · exact (hall.lt j hj).2
  have hlt2 : ∀ j ∈ f2, j < w.heap.size := fun j hj => (hxk.lt j hj).2
  have hgo : ∀ j ∈ fi ++ (blk (.slice kp km kc) ++ fk), j ≠ go := by
    intro j hj e
    subst e
    exact (List.nodup_append.1 hnd).2.2 j (by simp [blk, Value.ownBlock]) j hj rfl
  have hne : (Value.slice kp km kc).ownBlock ≠ some go := by
    intro e
    exact hgo go (List.mem_append_right _ (List.mem_append_left _ (by unfold blk; rw [e]; simp))) rfl
  have hil : li.length ≤ 100000 := by
    have := congrArg List.length hli
    rw [List.length_map] at this
    omega
  have hkl : k.length ≤ 100000 := by
    have := congrArg List.length hkk
    rw [List.length_map] at this
    omega
  refine (put_any w B base go oc pa bv _ _ li nd av kp km kc k ⟨x.name.toArray⟩ ⟨x.text.toArray⟩ ap am ac cp cm cc hBB hro hrk hne hkl hil hbB hbw).mono ?_
  rintro e w' ⟨rfl, kv', p1, p2, p3, p4, p5, p6⟩
  have hnd' := hnd
  simp only [List.nodup_append, List.mem_append] at hnd'
  have hS1 : ∀ j ∈ fi, j ∉ go :: blk (.slice kp km kc) := by
    intro j hj hm
    rcases List.mem_cons.1 hm with e | hm
    · exact hgo j (List.mem_append_left _ hj) e
    · exact hnd'.2.1.2.2 j hj j (.inl hm) rfl
  have hS2 : ∀ j ∈ fk, j ∉ go :: blk (.slice kp km kc) := by
    intro j hj hm
    rcases List.mem_cons.1 hm with e | hm
    · exact hgo j (List.mem_append_right _ (List.mem_append_right _ hj)) e
    · exact hnd'.2.1.2.1.2.2 j hm j hj rfl
  have hS3 : ∀ j ∈ f2, j ∉ go :: blk (.slice kp km kc) := by
    intro j hj hm
    refine hdis j hj ?_
    rcases List.mem_cons.1 hm with e | hm
    · subst e
      exact List.mem_append_left _ (by simp [blk, Value.ownBlock])
    · exact List.mem_append_right _ (List.mem_append_right _ (List.mem_append_left _ hm))
  refine ⟨rfl, ⟨hbB, Nat.le_trans hbw p6.size, _, li ++ [(addKid nd x, av, kv')], fi ++ (blk kv' ++ (fk ++ f2)), ?_, p1, ?_, ?_, ?_⟩, p6, ?_⟩
  · rw [List.map_append, hli]
    rfl
  · rw [← nd_same, List.length_append]
    exact p2
  · refine (hki.stays p5 hS1).app ?_
    have hat : w'.ownsRow base 38 2 av (addKid nd x).attrs.length (attrCells (addKid nd x).attrs) := by
      have := attr_stays hav p5
      cases nd
      exact this
    have hkids : KAt w' base kv' (addKid nd x).kids (blk kv' ++ (fk ++ f2)) := by
      have h1 := KAt.mk kv' (k ++ [(x, .slice ap am ac, .slice cp cm cc)]) (fk ++ f2) (by rw [nd_one, List.length_append]; exact p3) ((hkall.stays p5 hS2).app (by
        have := KAll.cons x _ _ [] f2 [] (attr_stays hxa p5) (hxk.stays p5 hS3) .nil
        rw [List.append_nil] at this
        exact this))
      have h2 : (addKid nd x).kids = (k ++ [(x, Value.slice ap am ac, Value.slice cp cm cc)]).map Prod.fst := by
        rw [List.map_append, ← hkk]
        cases nd
        rfl
      rw [h2]
      exact h1
    have := KAll.cons (addKid nd x) av kv' [] _ [] hat hkids .nil
    rw [List.append_nil] at this
    exact this
  · refine nodup_put hnd hf2 hdis hlt hlt2 ?_
    rcases p4 with e | ⟨g, e, hg⟩
    · exact .inl (by unfold blk; rw [e])
    · exact .inr ⟨g, by unfold blk; rw [e]; rfl, hg⟩
  · intro b v m xs ho
    refine own_stays ho p5.block ?_
    intro j hj hm
    rcases List.mem_cons.1 hm with rfl | hm
    · exact own_two_ne ho hro (by decide) hj rfl
    · exact own_two_ne ho hrk (by decide) hj (by unfold blk at hm; simpa using hm)

theorem row_typed {w : World} {base : Nat} {e : TypeId} {size : Nat} {v : Value} {n : Nat} {xs : List Value} (h : w.ownsRow base e size v n xs) : ∀ k ∈ blk v, ∃ cs fz, w.heap[k]? = some (.cells cs e fz) := by
  intro k hk
  unfold blk at hk
  obtain ⟨_, ⟨rfl, _⟩ | ⟨g, cap, cur, rfl, hb, hg, _⟩⟩ := h
  · simp [Value.ownBlock] at hk
  · have : k = g := by simpa [Value.ownBlock] using hk
    subst this
    exact ⟨_, _, hg⟩
mutual
theorem node_typed {w : World} {base : Nat} {v : Value} {ns : List Nd} {fp : List Nat} (h : KAt w base v ns fp) : ∀ k ∈ fp, ∃ cs fz, w.heap[k]? = some (.cells cs 42 fz) :=
  match h with
  | .mk v l fp row all => fun k hk => (List.mem_append.1 hk).elim (row_typed row k) (nodes_typed all k)
theorem nodes_typed {w : World} {base : Nat} {l : List (Nd × Value × Value)} {fp : List Nat} (h : KAll w base l fp) : ∀ k ∈ fp, ∃ cs fz, w.heap[k]? = some (.cells cs 42 fz) :=
  match h with
  | .nil => fun k hk => by cases hk
  | .cons n av kv l fp fps ha hk hl => fun k hk' => (List.mem_append.1 hk').elim (node_typed hk k) (nodes_typed hl k)
end
theorem stx_text {w : World} {base B : Nat} {os : List Nd} {pa bv : Value} {o n : Nat} (h : St0 w base B os pa bv o n) (t : List UInt8) : StX w base B os pa bv o n (.mk [] [] t []) (.slice none 0 0) (.slice none 0 0) := by
  obtain ⟨h1, h2, ov, l, fp, h3, h4, h5, h6, h7⟩ := h
  exact ⟨h1, h2, ov, l, fp, [], h3, h4, h5, h6, h7, World.ownsRow_nil _ _ _ _, KAt.empty _ _, List.nodup_nil, fun _ hk => by cases hk⟩
theorem St0.stays {w w' : World} {base B : Nat} {os : List Nd} {pa bv pa' bv' : Value} {o n o' n' : Nat} {S : List Nat} (h : St0 w base B os pa bv o n) (hS : Stays w w' S) (hN : ∀ k ∈ S, ∀ cs fz, w.heap[k]? ≠ some (.cells cs 42 fz))
    (hb : ∀ ov, BB w B ov pa bv (.int .i64 (o : Int)) (.int .i64 (n : Int)) → BB w' B ov pa' bv' (.int .i64 (o' : Int)) (.int .i64 (n' : Int))) : St0 w' base B os pa' bv' o' n' := by
  obtain ⟨h1, h2, ov, l, fp, h3, h4, h5, h6, h7⟩ := h
  have key : ∀ k ∈ blk ov ++ fp, k ∉ S := by
    intro k hk hkS
    obtain ⟨cs, fz, e⟩ := node_typed (KAt.mk ov l fp h5 h6) k hk
    exact hN k hkS cs fz e
  refine ⟨h1, Nat.le_trans h2 hS.size, ov, l, fp, h3, hb ov h4, own_stays h5 hS.block (fun k hk => key k (List.mem_append_left _ (by unfold blk; rw [hk]; simp))), h6.stays hS (fun k hk => key k (List.mem_append_right _ hk)), h7⟩
end Go.Proofs.YtholfdfjapgfbaaGreatDoor.Dm
