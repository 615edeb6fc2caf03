
/- A tree in memory. -/
import Derived.Test.YtljcnnigpfclkaaDoorMem
import Derived.Test.YtljcnnigpfclkaaDoorRkMath
import Derived.BigQuiet
import Derived.Deep.QuietTactic
import Derived.Deep.RegionHeld3
import Derived.Deep.LoopGhost
namespace Go.Proofs.YtljcnnigpfclkaaDoor
open Go.RowKit
namespace Rk
/-- the blocks of a type stay -/
def Keeps (t : TypeId) (w w' : World) : Prop := ∀ b cs, Blk w b t cs → Blk w' b t cs
theorem Keeps.refl (t : TypeId) (w : World) : Keeps t w w := fun _ _ h => h
theorem Keeps.trans {t : TypeId} {a b c : World} (h : Keeps t a b) (k : Keeps t b c) : Keeps t a c := fun _ _ x => k _ _ (h _ _ x)
theorem Keeps.below {t : TypeId} {w w' : World} (h : Below w.heap.size w w') : Keeps t w w' := fun _ _ x => x.below h x.lt
theorem Keeps.grown {t t2 : TypeId} {w w' : World} {R : Nat} {cs2 : Array Value} (h : w.grownBy w' (some R)) (hR : Blk w R t2 cs2) (ht : t ≠ t2) : Keeps t w w' :=
  fun _ _ x => x.grown h (fun e => (x.apart hR ht) (by injection e))
theorem Keeps.set {t t2 : TypeId} {w : World} {R : Nat} {cs2 : Array Value} (hR : Blk w R t2 cs2) (ht : t ≠ t2) (i : Nat) (u : Value) : Keeps t w (w.setCell ⟨R, i, none⟩ u) :=
  Keeps.grown (grown_set w R i u) hR ht
variable {K V : Type}
/-- the pointer p leads to the tree T -/
def In (t : TypeId) (kv : K → Value) (vv : V → Value) (w : World) : Tr K V → Option Addr → Prop
  | .nil, p => p = none
  | .node k v l r, p => ∃ b pl pr, p = some ⟨b, 0, none⟩ ∧ Blk w b t #[kv k, vv v, .pointer pl, .pointer pr, .int .i64 ((l.cnt + 1 + r.cnt : Nat) : Int), .int .i64 ((1 + max l.ht r.ht : Nat) : Int)] ∧ In t kv vv w l pl ∧ In t kv vv w r pr
theorem In.keeps {t : TypeId} {kv : K → Value} {vv : V → Value} {w w' : World} (hk : Keeps t w w') : ∀ (T : Tr K V) (p : Option Addr), In t kv vv w T p → In t kv vv w' T p
  | .nil, _, h => h
  | .node _ _ l r, _, ⟨b, pl, pr, e, hb, hl, hr⟩ => ⟨b, pl, pr, e, hk _ _ hb, In.keeps hk l pl hl, In.keeps hk r pr hr⟩
theorem In.below {t : TypeId} {kv : K → Value} {vv : V → Value} {w w' : World} {T : Tr K V} {p : Option Addr} (h : In t kv vv w T p) (hb : Below w.heap.size w w') : In t kv vv w' T p := h.keeps (Keeps.below hb) _ _
theorem wr64 (x : Int) (h1 : -9223372036854775808 ≤ x) (h2 : x ≤ 9223372036854775807) : IntKind.i64.wrap x = x := by
  rw [IntKind.wrap_i64]; omega
end Rk
end Go.Proofs.YtljcnnigpfclkaaDoor
