/-
  The laws MailMost, MailOrder, MailTwice, MailOwn of the landed package.
-/
import Derived.Test.YtmogplecohkjcaaGreatDoorMPX
import Derived.Test.YtmogplecohkjcaaGreatDoorML1
import Derived.Test.YtmogplecohkjcaaGreatDoorML2
import Derived.Test.YtmogplecohkjcaaGreatDoorML3
import Derived.Test.YtmogplecohkjcaaGreatDoorML4
namespace Go.Proofs.YtmogplecohkjcaaGreatDoor
open Go.RowKit

theorem most_go (n tx other : Int) (w : World) (hg : Glob w) (hge : GlobE w) :
    Calls Tryz.prog 4 #[.int .i64 n, .int .i64 tx, .int .i64 other] w fun e w' => e = .returned (.bool true) ∧ Below w.heap.size w w' := most_walk mailC n tx other w ⟨hg, hge⟩
theorem order_go (n at_ : Int) (w : World) (hg : Glob w) (hge : GlobE w) :
    Calls Tryz.prog 5 #[.int .i64 n, .int .i64 at_] w fun e w' => e = .returned (.bool true) ∧ Below w.heap.size w w' := order_walk mailC n at_ w ⟨hg, hge⟩
theorem twice_go (n at_ : Int) (w : World) (hg : Glob w) (hge : GlobE w) :
    Calls Tryz.prog 7 #[.int .i64 n, .int .i64 at_] w fun e w' => e = .returned (.bool true) ∧ Below w.heap.size w w' := twice_walk mailC n at_ w ⟨hg, hge⟩
theorem own_go (s : ByteArray) {v : Value} {ls : List ByteArray} (w : World) (hg : Glob w) (hge : GlobE w) (hv : StrArg w v ls) (hl : ls.length * 16 ≤ 140737488355328) :
    Calls Tryz.prog 6 #[v, .string s] w fun e w' => e = .returned (.bool true) ∧ Below w.heap.size w w' := own_walk mailC w ⟨hg, hge⟩ hv hl
end Go.Proofs.YtmogplecohkjcaaGreatDoor
