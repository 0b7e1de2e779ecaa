/-
  Calls of both devices, side by side.
-/
import Derived.Test.YtjddhfiollhnfaaDP2
namespace Go.Proofs.Ytjddhfiollhnfaa
open Go.RowKit

section
variable {w : World} {base : Nat} {X : List Nat} {B R : Nat} {s : Dv} {r : Rv}
theorem tapp_d (h : Two w base X B R s r) (v : Value) (l : List UInt8) (hv : IsBytes w v l) (hvk : l ≠ [] → ∀ k, v.ownBlock = some k → k < base) (hl : l.length ≤ 40000) (x : Int) (hx : (s.app l).2 = x) :
    Calls Try.prog 12 #[.pointer (some ⟨B, 0, none⟩), v] w fun e w' => e = .returned (.int .i64 x) ∧ Two w' base X B R (s.app l).1 r ∧ Rest w w' base X := by
  subst hx
  exact two_calls_d (P := fun e => e = .returned (.int .i64 (s.app l).2)) h (fun F hd hF => append_any w B s F v l hd hv (fun hne k hk hF' => by have := hF k hF'; have := hvk hne k hk; omega) (by omega))
theorem tapp_r (h : Two w base X B R s r) (v : Value) (l : List UInt8) (hv : IsBytes w v l) (hvk : l ≠ [] → ∀ k, v.ownBlock = some k → k < base) (hl : l.length ≤ 40000) (x : Int) (hx : (r.app l).2 = x) :
    Calls Try.prog 13 #[.pointer (some ⟨R, 0, none⟩), v] w fun e w' => e = .returned (.int .i64 x) ∧ Two w' base X B R s (r.app l).1 ∧ Rest w w' base X := by
  subst hx
  exact two_calls_r (P := fun e => e = .returned (.int .i64 (r.app l).2)) h (fun F hd hF => rappend_any w R r F v l hd hv (fun hne k hk hF' => by have := hF k hF'; have := hvk hne k hk; omega) (by omega))
theorem tsync_d (h : Two w base X B R s r) (x : Int) (hx : s.sync.2 = x) :
    Calls Try.prog 14 #[.pointer (some ⟨B, 0, none⟩)] w fun e w' => e = .returned (.int .i64 x) ∧ Two w' base X B R s.sync.1 r ∧ Rest w w' base X := by
  subst hx
  exact two_calls_d (P := fun e => e = .returned (.int .i64 s.sync.2)) h (fun F hd _ => sync_any w B s F hd)
theorem tsync_r (h : Two w base X B R s r) (x : Int) (hx : r.sync.2 = x) :
    Calls Try.prog 15 #[.pointer (some ⟨R, 0, none⟩)] w fun e w' => e = .returned (.int .i64 x) ∧ Two w' base X B R s r.sync.1 ∧ Rest w w' base X := by
  subst hx
  exact two_calls_r (P := fun e => e = .returned (.int .i64 r.sync.2)) h (fun F hd _ => rsync_any w R r F hd)
theorem ttrim_d (h : Two w base X B R s r) (n : Int) (hn : -9223372036854775808 ≤ n ∧ n ≤ 9223372036854775807) (x : Int) (hx : (s.trim n).2 = x) :
    Calls Try.prog 16 #[.pointer (some ⟨B, 0, none⟩), .int .i64 n] w fun e w' => e = .returned (.int .i64 x) ∧ Two w' base X B R (s.trim n).1 r ∧ Rest w w' base X := by
  subst hx
  exact two_calls_d (P := fun e => e = .returned (.int .i64 (s.trim n).2)) h (fun F hd _ => trim_any w B s F n hd hn)
theorem ttrim_r (h : Two w base X B R s r) (n : Int) (hn : -9223372036854775808 ≤ n ∧ n ≤ 9223372036854775807) (x : Int) (hx : (r.trim n).2 = x) :
    Calls Try.prog 17 #[.pointer (some ⟨R, 0, none⟩), .int .i64 n] w fun e w' => e = .returned (.int .i64 x) ∧ Two w' base X B R s (r.trim n).1 ∧ Rest w w' base X := by
  subst hx
  exact two_calls_r (P := fun e => e = .returned (.int .i64 (r.trim n).2)) h (fun F hd _ => rtrim_any w R r F n hd hn)
theorem tarm_d (h : Two w base X B R s r) (n : Int) (hn : -9223372036854775808 ≤ n ∧ n ≤ 9223372036854775807) :
    Calls Try.prog 18 #[.pointer (some ⟨B, 0, none⟩), .int .i64 n] w fun e w' => e = .returned (.tuple #[]) ∧ Two w' base X B R (s.arm n) r ∧ Rest w w' base X :=
  two_calls_d (P := fun e => e = .returned (.tuple #[])) h (fun F hd _ => arm_any w B s F n hd hn)
theorem tarm_r (h : Two w base X B R s r) (n : Int) (hn : -9223372036854775808 ≤ n ∧ n ≤ 9223372036854775807) :
    Calls Try.prog 19 #[.pointer (some ⟨R, 0, none⟩), .int .i64 n] w fun e w' => e = .returned (.tuple #[]) ∧ Two w' base X B R s (r.arm n) ∧ Rest w w' base X :=
  two_calls_r (P := fun e => e = .returned (.tuple #[])) h (fun F hd _ => rarm_any w R r F n hd hn)
theorem trestart_d (h : Two w base X B R s r) (n : Int) (hn : -9223372036854775808 ≤ n ∧ n ≤ 9223372036854775807) :
    Calls Try.prog 20 #[.pointer (some ⟨B, 0, none⟩), .int .i64 n] w fun e w' => e = .returned (.tuple #[]) ∧ Two w' base X B R (s.restart n) r ∧ Rest w w' base X :=
  two_calls_d (P := fun e => e = .returned (.tuple #[])) h (fun F hd _ => restart_any w B s F n hd hn)
theorem trestart_r (h : Two w base X B R s r) (n : Int) (hn : -9223372036854775808 ≤ n ∧ n ≤ 9223372036854775807) :
    Calls Try.prog 21 #[.pointer (some ⟨R, 0, none⟩), .int .i64 n] w fun e w' => e = .returned (.tuple #[]) ∧ Two w' base X B R s (r.restart n) ∧ Rest w w' base X :=
  two_calls_r (P := fun e => e = .returned (.tuple #[])) h (fun F hd _ => rrestart_any w R r F n hd hn)
theorem toff_d (h : Two w base X B R s r) :
    Calls Try.prog 24 #[.pointer (some ⟨B, 0, none⟩)] w fun e w' => e = .returned (.bool s.off) ∧ w' = w := by
  obtain ⟨F, G, h1, _⟩ := h
  exact off_any w B s F h1
theorem toff_r (h : Two w base X B R s r) : w.cell? ⟨R, 3, none⟩ = some (.bool r.off) := by
  obtain ⟨F, G, _, ⟨lv, wv, hb, _⟩, _⟩ := h
  exact tag_cell hb 3 _ rfl
theorem tbytes_d (h : Two w base X B R s r) :
    Calls Try.prog 22 #[.pointer (some ⟨B, 0, none⟩)] w fun e w' => ∃ v, e = .returned v ∧ Below w.heap.size w w' ∧ ∀ wx, Below w'.heap.size w' wx → (convert 28 9 v).run Try.prog wx = .ok (.string ⟨s.all.toArray⟩) wx := by
  obtain ⟨F, G, h1, _⟩ := h
  exact (bytes_any w B s F h1).mono fun e w' ⟨e1, e2⟩ => ⟨_, e1, e2.2, fun wx hb => ((e2.bytes _).below hb).conv⟩
theorem tbytes_r (h : Two w base X B R s r) :
    Calls Try.prog 23 #[.pointer (some ⟨R, 0, none⟩)] w fun e w' => ∃ v, e = .returned v ∧ Below w.heap.size w w' ∧ ∀ wx, Below w'.heap.size w' wx → (convert 28 9 v).run Try.prog wx = .ok (.string ⟨(r.la ++ r.wa).toArray⟩) wx := by
  obtain ⟨F, G, _, h1, _⟩ := h
  exact (rbytes_any w R r G h1).mono fun e w' ⟨v, e1, e2, e3⟩ => ⟨v, e1, e3, fun wx hb => ((own_bytes e2).below hb).conv⟩
end
end Go.Proofs.Ytjddhfiollhnfaa
