
/- A play of acts upon a sack, and upon the document's list. -/
import Derived.Test.YtahkmdbbicpfcaaSkAwake
import Derived.Test.YtahkmdbbicpfcaaSkHas
import Derived.Test.YtahkmdbbicpfcaaSkOpen
namespace Go.Proofs.Ytahkmdbbicpfcaa
open Go.RowKit
namespace Sk
open Rk
/-- the sack has ls, the slice v has lv, the act at A is y -/
structure PlS (w : World) (s R : Nat) (room : Int) (A : Nat) (y : Act) (ls lv : List Int) (v : Value) (W : World) : Prop where
  m : Mine w s R room ls W
  es : EsN W v lv
  act : Blk W A 30 #[.int .i64 y.kind, .int .i64 y.x]
section
variable {w W W' : World} {s R : Nat} {room : Int} {A : Nat} {y : Act} {ls lv : List Int} {v : Value}
theorem PlS.next (h : PlS w s R room A y ls lv v W) (hb : Below W.heap.size W W') : PlS w s R room A y ls lv v W' := ⟨h.m.next hb, h.es.below hb, h.act.below hb h.act.lt⟩
theorem PlS.put (h : PlS w s R room A y ls lv v W) (hb : Below W.heap.size W W') {v' : Value} {l' : List Int} (he : EsN W' v' l') : PlS w s R room A y ls l' v' W' := ⟨h.m.next hb, he, h.act.below hb h.act.lt⟩
theorem PlS.turn (h : PlS w s R room A y ls lv v W) {m : List Int} (hs : Sak W' s R room m) (ho : Only [R, s] W W') : PlS w s R room A y m lv v W' := by
  obtain ⟨cs, hr⟩ := h.m.sak.rack
  refine ⟨h.m.turn hs ho, es_only h.m.sak ho h.es, ho.blk h.act (fun hk => ?_)⟩
  rcases List.mem_cons.1 hk with hk | hk
  · exact h.act.apart hr (by decide) hk
  · rw [List.mem_singleton] at hk; exact h.act.apart h.m.sak.blk (by decide) hk
theorem PlS.cx (h : PlS w s R room A y ls lv v W) : W.cell? ⟨A, 1, none⟩ = some (.int .i64 y.x) := (h.act.cl 1 _ rfl).1
theorem PlS.ck (h : PlS w s R room A y ls lv v W) : W.cell? ⟨A, 0, none⟩ = some (.int .i64 y.kind) := (h.act.cl 0 _ rfl).1
end
/-- between two acts -/
structure Pl (w : World) (s R : Nat) (room : Int) (l : List Int) (v : Value) (W : World) : Prop where
  m : Mine w s R room l W
  es : EsN W v l
end Sk
end Go.Proofs.Ytahkmdbbicpfcaa
