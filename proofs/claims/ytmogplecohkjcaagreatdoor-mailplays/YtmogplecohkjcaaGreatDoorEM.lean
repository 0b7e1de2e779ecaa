/-
  Regions that draw their order, taken in one till an operation that waits for all; append of one text to a row of one's own there.
-/
import Derived.Test.YtmogplecohkjcaaGreatDoorME8Z
import Derived.Test.YtmogplecohkjcaaGreatDoorDU
import Derived.ArgAppend
import Derived.Deep.RegionLawGrows
namespace Go.Proofs.YtmogplecohkjcaaGreatDoor
open Go.RowKit
/-- append of one string to a row of one's own: the same block, or a new one. -/
theorem erun_mine (w : World) (B : Nat) (t ty e : TypeId) (i : TypeInfo) (z : Value) (bytes : Nat) (ht : Tryz.prog.underlying t = some (.slice e)) (hi : Tryz.prog.info? e = some i) (hz : i.zero = some z)
    (hsize : i.size = 1) (hby : i.bytes = bytes) (hzs : z.cells.size = 1) (p : Option Addr) (n c : Nat) (xs : List Value) (hown : w.ownsRow B e 1 (.slice p n c) n xs)
    (ad : Addr) (c2 : Nat) (u : Value) (hu : w.cell? ad = some u) (h1 : u.oneCell' = true) (h63 : n + 1 ≤ maxLen) (hbytes : (n + 1) * bytes ≤ 140737488355328) (hbase : B ≤ w.heap.size) :
    ∃ p' c' w', (Builtin.append_ #[t, t] ty #[.slice p n c, .slice (some ad) 1 c2]).run Tryz.prog w = .ok (.slice p' (n + 1) c') w' ∧ w'.ownsRow B e 1 (.slice p' (n + 1) c') (n + 1) (xs ++ [u]) ∧ w.grownBy w' (Value.ownBlock (.slice p n c)) ∧
      (Value.ownBlock (.slice p' (n + 1) c') = Value.ownBlock (.slice p n c) ∨ ∀ k, Value.ownBlock (.slice p' (n + 1) c') = some k → w.heap.size ≤ k) := by
  have hnews : ∀ j x, [u][j]? = some x → w.cell? (ad.add j) = some x := by
    intro j x hj
    cases j with
    | zero =>
      have e : u = x := Option.some.inj hj
      rw [← e]
      cases ad; simpa [Addr.add] using hu
    | succ j => simp at hj
  have h1' : ∀ x ∈ [u], x.oneCell' = true := by simpa using h1
  obtain ⟨v', w', hrun, r1, r2, -⟩ := run_append_own (P := Tryz.prog) w B t ty e i z 1 bytes ht hi hz hsize hby hzs (by decide) (.slice p n c) n xs hown ad 1 c2 [u] rfl hnews h1' h63 hbytes hbase
  obtain ⟨p', c', rfl, -⟩ := own_shape r1
  refine ⟨p', c', w', hrun, r1, r2, ?_⟩
  rcases hown.2 with ⟨e0, hn0⟩ | ⟨g, cap, cur, e0, hg, hcur, hnc, hm, hsz, htk⟩
  · injection e0 with a1 a2 a3
    subst a1 a2 a3
    obtain ⟨v'', w'', hrun2, s1, -, -⟩ := run_append_own (P := Tryz.prog) w w.heap.size t ty e i z 1 bytes ht hi hz hsize hby hzs (by decide) (.slice none 0 0) 0 [] (World.ownsRow_nil _ _ _ _) ad 1 c2 [u] rfl hnews h1' h63 hbytes (Nat.le_refl _)
    rw [hrun] at hrun2
    injection hrun2 with b1 b2
    subst b1 b2
    exact .inr (fun k hk => (s1.lt k hk).1)
  · injection e0 with a1 a2 a3
    subst a1 a3
    by_cases hroom : n + 1 ≤ c
    · have hrun2 := run_append_room_cells (P := Tryz.prog) w t ty e i ht hi g 0 n c ad 1 c2 [u] (by rw [hsize]; rfl) hnews h1' hroom (fun j hj => by
        unfold World.cell?
        rw [hcur]
        have : j = 0 := by simpa using hj
        subst this
        rw [hsize]
        simp [hsz]
        omega) (fun j hj => by
        exact Go.Joins.unfrozen_of_block hcur _)
      rw [hrun] at hrun2
      injection hrun2 with b1 b2
      injection b1 with b1 b3 b4
      subst b1
      exact .inl rfl
    · obtain ⟨v'', w'', hrun2, s1, -⟩ := run_append_arg_grows (P := Tryz.prog) w t ty e i z 1 bytes ht hi hz hsize hby hzs (by decide) ⟨g, 0, none⟩ n c xs hown.1 (hown.cells rfl) ad 1 c2 [u] rfl hnews (by omega) h63 hbytes
      rw [hrun] at hrun2
      injection hrun2 with b1 b2
      subst b1 b2
      exact .inr (fun k hk => (s1.lt k hk).1)
theorem estep_mine {ops : Array Oper} {o : Oper} {a : Act} {w : World} {K : Act → World → Prop} {Q : Exit → Act → World → Prop} {E : Prop}
    (hg : o.guard = none) (s x : Operand) (t : TypeId) (hop : o.op = Op.call { callee := Callee.builtin Builtin.append, args := #[s, x], argTypes := #[t, t] })
    (B : Nat) (e : TypeId) (i : TypeInfo) (z : Value) (bytes : Nat) (ht : Tryz.prog.underlying t = some (.slice e)) (hi : Tryz.prog.info? e = some i) (hz : i.zero = some z)
    (hsize : i.size = 1) (hby : i.bytes = bytes) (hzs : z.cells.size = 1) (p : Option Addr) (n c : Nat) (xs : List Value) (hs : a.eval s = .slice p n c) (hown : w.ownsRow B e 1 (.slice p n c) n xs)
    (ad : Addr) (c2 : Nat) (u : Value) (hx : a.eval x = .slice (some ad) 1 c2) (hu : w.cell? ad = some u) (h1 : u.oneCell' = true) (h63 : n + 1 ≤ maxLen) (hbytes : (n + 1) * bytes ≤ 140737488355328) (hbase : B ≤ w.heap.size)
    (hK : ∀ p' c' w', w'.ownsRow B e 1 (.slice p' (n + 1) c') (n + 1) (xs ++ [u]) → w.grownBy w' (Value.ownBlock (.slice p n c)) → (Value.ownBlock (.slice p' (n + 1) c') = Value.ownBlock (.slice p n c) ∨ ∀ k, Value.ownBlock (.slice p' (n + 1) c') = some k → w.heap.size ≤ k) → K (a.put o.dst (.slice p' (n + 1) c')) w') :
    if Region.wanted o (yielded ops a.tmps) = true then Oper.wp Tryz.prog o a w K Q else E := by
  have hw : Region.wanted o (yielded ops a.tmps) = true := by simp [Region.wanted, hg]
  rw [if_pos hw]
  obtain ⟨p', c', w', hrun, r1, r2, r3⟩ := erun_mine w B t o.type e i z bytes ht hi hz hsize hby hzs p n c xs hown ad c2 u hu h1 h63 hbytes hbase
  unfold Oper.wp
  simp [execOp, hop, resolve, invoke, builtin, hs, hx, hrun, Result.andThen]
  exact hK p' c' w' r1 r2 r3
end Go.Proofs.YtmogplecohkjcaaGreatDoor
