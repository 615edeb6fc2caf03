
/- Plain: labels turned by some places. -/
import Derived.Test.YtefnpfhhomkiaaaGreatDoorDpRefPrint
namespace Go.Proofs.YtefnpfhhomkiaaaGreatDoor.Dp
theorem turn_perm {α : Type} (l : List α) (k : Nat) : (l.drop k ++ l.take k).Perm l := by
  have := List.perm_append_comm (l₁ := l.drop k) (l₂ := l.take k)
  rw [List.take_append_drop] at this
  exact this
theorem Good.prt {e : Ev} (h : Good e) (hs : e.met.length ≤ 500 ∧ e.mem.length ≤ 500 ∧ e.src.length ≤ 500) {l : List Tg.Lab} (hp : l.Perm e.labs) : Prt { e with labs := l } := by
  have hv : Fx.lo ≤ e.val ∧ e.val ≤ Fx.hi := by
    unfold Fx.lo Fx.hi
    by_cases h4 : e.kind = 4
    · rw [(h.set h4).1]; decide
    · obtain ⟨⟨h1, h2⟩, _⟩ := h.num h4
      constructor <;> omega
  have hr := h.rate
  have ht := h.time
  have hq := h.seq
  unfold maxTime at ht hq
  refine ⟨h.kind, hs.1, hs.2.1, hs.2.2, hv, ⟨by show 0 ≤ e.rate; omega, by show e.rate ≤ _; omega⟩, ⟨ht.1, by show e.time ≤ _; omega⟩, ⟨by show 0 ≤ e.seq; omega, by show e.seq ≤ _; omega⟩, ?_, fun x hx => ?_⟩
  · show l.length ≤ 20
    rw [hp.length_eq]; have := h.few; omega
  · have hx' := h.labB x (hp.mem_iff.1 hx)
    have h1 := (Tg.nm_len hx').2
    have h2 := (Tg.val_len hx').2
    unfold Tg.nm at h1
    rw [← Lib.size_eq] at h1 h2
    exact ⟨h1, h2⟩
theorem Good.prt0 {e : Ev} (h : Good e) (hs : e.met.length ≤ 500 ∧ e.mem.length ≤ 500 ∧ e.src.length ≤ 500) : Prt e := h.prt hs (List.Perm.refl _)
theorem line_long (e : Ev) (hp : Prt e) : (lineL e e.labs).length ≤ 100000 := by
  have h1 := hp.preR
  have h2 := labsT_le e.labs hp.labs
  have h3 := hp.few
  have h4 := dec_le20 e.time hp.time
  have h5 := dec_le20 e.seq hp.seq
  have h6 := hp.src
  rw [line_eq]
  simp only [List.length_append, List.length_cons]
  omega
end Go.Proofs.YtefnpfhhomkiaaaGreatDoor.Dp
