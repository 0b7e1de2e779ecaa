/-
  The document's kids.
-/
import Derived.Test.YtkdppcpkigpmdaaR27
import Derived.Laws.Rows
namespace Go.Proofs.Ytkdppcpkigpmdaa
open Go.RowKit
open Utf1

mutual
/-- A slice holds nodes; their attributes are the argument's. -/
inductive RAt (w0 w : World) (base : Nat) : Value → List Nd → List Nat → Prop
  | mk (v : Value) (l : List (Nd × Value × Value)) (fp : List Nat) (row : w.ownsRow base 40 4 v l.length (ndCells l)) (all : RAll w0 w base l fp) : RAt w0 w base v (l.map Prod.fst) (blk v ++ fp)
inductive RAll (w0 w : World) (base : Nat) : List (Nd × Value × Value) → List Nat → Prop
  | nil : RAll w0 w base [] []
  | cons (n : Nd) (p : Option Addr) (m c : Nat) (kv : Value) (l : List (Nd × Value × Value)) (fp fps : List Nat) (ha : AttrRow w0 p m n.attrs) (hk : RAt w0 w base kv n.kids fp) (hl : RAll w0 w base l fps) : RAll w0 w base ((n, .slice p m c, kv) :: l) (fp ++ fps)
end
mutual
theorem RAt.stays {w0 w w' : World} {base : Nat} {S : List Nat} {v : Value} {ns : List Nd} {fp : List Nat} (h : RAt w0 w base v ns fp) (hS : ∀ k, k < w.heap.size → k ∉ S → w'.heap[k]? = w.heap[k]?) (hd : ∀ k ∈ fp, k ∉ S) : RAt w0 w' base v ns fp :=
  match h with
  | .mk v l fp row all => .mk v l fp (own_stays row hS fun k hk => hd k (List.mem_append_left _ (by unfold blk; rw [hk]; simp))) (all.stays hS fun k hk => hd k (List.mem_append_right _ hk))
theorem RAll.stays {w0 w w' : World} {base : Nat} {S : List Nat} {l : List (Nd × Value × Value)} {fp : List Nat} (h : RAll w0 w base l fp) (hS : ∀ k, k < w.heap.size → k ∉ S → w'.heap[k]? = w.heap[k]?) (hd : ∀ k ∈ fp, k ∉ S) : RAll w0 w' base l fp :=
  match h with
  | .nil => .nil
  | .cons n p m c kv l fp fps ha hk hl => .cons n p m c kv l fp fps ha (hk.stays hS fun k hk' => hd k (List.mem_append_left _ hk')) (hl.stays hS fun k hk' => hd k (List.mem_append_right _ hk'))
end
theorem RAt.under {w0 w w' : World} {base : Nat} {v : Value} {ns : List Nd} {fp : List Nat} (h : RAt w0 w base v ns fp) (hb : Below w.heap.size w w') : RAt w0 w' base v ns fp := h.stays (S := []) (fun k hk _ => hb.block k hk) (fun _ _ h => by cases h)
theorem RAll.under {w0 w w' : World} {base : Nat} {l : List (Nd × Value × Value)} {fp : List Nat} (h : RAll w0 w base l fp) (hb : Below w.heap.size w w') : RAll w0 w' base l fp := h.stays (S := []) (fun k hk _ => hb.block k hk) (fun _ _ h => by cases h)
mutual
theorem RAt.low {w0 w : World} {base b : Nat} {v : Value} {ns : List Nd} {fp : List Nat} (h : RAt w0 w base v ns fp) (hb : b ≤ base) : RAt w0 w b v ns fp :=
  match h with
  | .mk v l fp row all => .mk v l fp (own_low row hb) (all.low hb)
theorem RAll.low {w0 w : World} {base b : Nat} {l : List (Nd × Value × Value)} {fp : List Nat} (h : RAll w0 w base l fp) (hb : b ≤ base) : RAll w0 w b l fp :=
  match h with
  | .nil => .nil
  | .cons n p m c kv l fp fps ha hk hl => .cons n p m c kv l fp fps ha (hk.low hb) (hl.low hb)
theorem RAt.lt {w0 w : World} {base : Nat} {v : Value} {ns : List Nd} {fp : List Nat} (h : RAt w0 w base v ns fp) : ∀ k ∈ fp, base ≤ k ∧ k < w.heap.size :=
  match h with
  | .mk v l fp row all => fun k hk => (List.mem_append.1 hk).elim (own_lt row k) (all.lt k)
theorem RAll.lt {w0 w : World} {base : Nat} {l : List (Nd × Value × Value)} {fp : List Nat} (h : RAll w0 w base l fp) : ∀ k ∈ fp, base ≤ k ∧ k < w.heap.size :=
  match h with
  | .nil => fun k hk => by cases hk
  | .cons n p m c kv l fp fps ha hk hl => fun k hk' => (List.mem_append.1 hk').elim (hk.lt k) (hl.lt k)
end
theorem RAll.app {w0 w : World} {base : Nat} : ∀ {l l' : List (Nd × Value × Value)} {fp fp' : List Nat}, RAll w0 w base l fp → RAll w0 w base l' fp' → RAll w0 w base (l ++ l') (fp ++ fp')
  | _, _, _, _, .nil, h' => h'
  | _, _, _, _, .cons n p m c kv l fp fps ha hk hl, h' => by
    rw [List.append_assoc]
    exact .cons n p m c kv _ fp _ ha hk (hl.app h')
theorem RAt.empty (w0 w : World) (base : Nat) : RAt w0 w base (.slice Option.none 0 0) [] [] := RAt.mk (.slice Option.none 0 0) [] [] (World.ownsRow_nil _ _ _ _) .nil

theorem wpList_append_new {P : Program} {w : World} {ops : Array Oper} {rest : List Oper} {o : Oper} {a : Act} {Q : Exit → Act → World → Prop} (hgd : o.guard = none) (s x : Operand) (t : TypeId)
    (ho : o.op = .call { callee := .builtin .append, args := #[s, x], argTypes := #[t, t] })
    (base : Nat) (e : TypeId) (i : TypeInfo) (z : Value) (size bytes : Nat) (ht : P.underlying t = some (.slice e)) (hi : P.info? e = some i) (hz : i.zero = some z)
    (hsize : i.size = size) (hby : i.bytes = bytes) (hzs : z.cells.size = size) (hsz : 0 < size)
    (v : Value) (n : Nat) (xs : List Value) (hs : a.eval s = v) (hown : w.ownsRow base e size v n xs)
    (ad : Addr) (m c : Nat) (news : List Value) (hx : a.eval x = .slice (some ad) m c) (hl : news.length = m * size) (hnews : ∀ j u, news[j]? = some u → w.cell? (ad.add j) = some u) (h1 : ∀ u ∈ news, u.oneCell' = true)
    (h63 : n + m ≤ maxLen) (hbytes : (n + m) * bytes ≤ 140737488355328) (hbase : base ≤ w.heap.size) (hm : 0 < m)
    (h : ∀ v' w', w'.ownsRow base e size v' (n + m) (xs ++ news) → w.grownBy w' v.ownBlock → (v'.ownBlock = v.ownBlock ∨ v'.ownBlock = some w.heap.size) → wpList P ops Q rest (a.put o.dst v') w') : wpList P ops Q (o :: rest) a w :=
  wpList_plain hgd fun _ hK => wp_append_new s x t ho base e i z size bytes ht hi hz hsize hby hzs hsz v n xs hs hown ad m c news hx hl hnews h1 h63 hbytes hbase hm (fun v' w' a1 a2 a3 => hK _ _ (h v' w' a1 a2 a3))

/-- A node more in a row. -/
theorem rall_more {w0 w w5 : World} {base : Nat} {ov v' : Value} {l : List (Nd × Value × Value)} {fp f2 : List Nat} {nd : Nd} {p : Option Addr} {m c : Nat} {kv : Value} (hall : RAll w0 w base l fp) (hnd : (blk ov ++ fp).Nodup) (ha : AttrRow w0 p m nd.attrs) (hk : RAt w0 w base kv nd.kids f2) (hf2 : f2.Nodup) (hdis : ∀ k ∈ f2, k ∉ blk ov ++ fp)
    (hown : w5.ownsRow base 40 4 v' (l.length + 1) (ndCells l ++ [.string ⟨nd.name.toArray⟩, .slice p m c, .string ⟨nd.text.toArray⟩, kv])) (hgr : w.grownBy w5 ov.ownBlock) (hfr : v'.ownBlock = ov.ownBlock ∨ v'.ownBlock = some w.heap.size) :
    ∃ fp', RAll w0 w5 base (l ++ [(nd, .slice p m c, kv)]) fp' ∧ w5.ownsRow base 40 4 v' (l ++ [(nd, Value.slice p m c, kv)]).length (ndCells (l ++ [(nd, .slice p m c, kv)])) ∧ (blk v' ++ fp').Nodup := by
  have hS : ∀ k, k < w.heap.size → k ∉ blk ov → w5.heap[k]? = w.heap[k]? := fun k hk hm => hgr.block k hk (fun e => hm (by unfold blk; rw [← e]; simp))
  have hnd' := List.nodup_append.1 hnd
  have h1 : RAll w0 w5 base l fp := hall.stays hS (fun k hk hm => hnd'.2.2 k hm k hk rfl)
  have h2 : RAt w0 w5 base kv nd.kids f2 := hk.stays hS (fun k hk' hm => hdis k hk' (List.mem_append_left _ hm))
  refine ⟨fp ++ (f2 ++ []), h1.app (.cons nd p m c kv [] f2 [] ha h2 .nil), ?_, ?_⟩
  · rw [nd_one, List.length_append]
    exact hown
  · rw [List.append_nil]
    have hlt1 := hall.lt
    have hlt2 := hk.lt
    have hn2 : (fp ++ f2).Nodup := List.nodup_append.2 ⟨hnd'.2.1, hf2, fun a ha b hb e => hdis b hb (List.mem_append_right _ (by rw [← e]; exact ha))⟩
    rcases hfr with e | e
    · have eb : blk v' = blk ov := by unfold blk; rw [e]
      rw [eb]
      refine List.nodup_append.2 ⟨hnd'.1, hn2, ?_⟩
      intro a ha b hb e2
      subst e2
      rcases List.mem_append.1 hb with hb | hb
      · exact hnd'.2.2 a ha a hb rfl
      · exact hdis a hb (List.mem_append_left _ ha)
    · have eb : blk v' = [w.heap.size] := by unfold blk; rw [e]; rfl
      rw [eb]
      refine List.nodup_append.2 ⟨by simp, hn2, ?_⟩
      intro a ha b hb e2
      simp only [List.mem_singleton] at ha
      rcases List.mem_append.1 hb with hb | hb
      · have := (hlt1 b hb).2
        omega
      · have := (hlt2 b hb).2
        omega
end Go.Proofs.Ytkdppcpkigpmdaa
