
/- Payloads that came in, opened. -/
import Derived.Test.YtdiokcmhpndoeaaDoorLkBent
import Derived.Test.YtdiokcmhpndoeaaDoorClOpen
namespace Go.Proofs.YtdiokcmhpndoeaaDoor
open Go.RowKit Go.Deep
theorem open_pays {H : Type} {enc : TypeId × Value → H} {W : World} {base : Nat} {spare : Nat → Bool} {held : Bool} {fuel : Nat} {v : Value} {x : DataW H × List MemPlace}
    (h : DataW.trod enc Tryd.prog W base spare held fuel 32 [v] = some x) : ∃ (a : Option Addr) (len cap : Nat) (f : Nat → Lk.Pay), v = .slice a len cap ∧ len ≤ maxLen ∧ (∀ i, i < len → (f i).2.1.size ≤ maxLen ∧ (f i).2.1.size ≤ (f i).2.2) ∧ Pays W a len f := by
  obtain ⟨a, len, cap, f, rfl, h1, h2, h3, h4⟩ := open_one Lk.Pay.c (none, ⟨#[]⟩, 0) (fun q : Lk.Pay => (q.2.1.size ≤ maxLen ∧ q.2.1.size ≤ q.2.2) ∧ BytesS W q.1 q.2.1) Tryd.underlying32 (by kernel_rfl) (fun {_ u y} hr => by
    obtain ⟨a, s, cap, rfl, h1, h2, h3⟩ := open_u8s hr
    exact ⟨(a, s, cap), rfl, ⟨h1, h2⟩, h3⟩) h
  exact ⟨a, len, cap, f, rfl, h1, fun i hi => (h3 i hi).1, h4, fun i hi => (h3 i hi).2⟩
end Go.Proofs.YtdiokcmhpndoeaaDoor
