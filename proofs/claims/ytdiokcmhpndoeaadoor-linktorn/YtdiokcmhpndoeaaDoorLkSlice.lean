
/- A part of a slice of bytes: how the cut runs, and what it holds. -/
import Derived.Test.YtdiokcmhpndoeaaDoorLkFrame
import Derived.Test.YtdiokcmhpndoeaaDoorClEqU8
namespace Go.Proofs.YtdiokcmhpndoeaaDoor
open Go.RowKit
theorem bl_cut (s : ByteArray) (l h : Nat) : Cl.bl (s.extract l h) = ((Cl.bl s).drop l).take (h - l) := by
  unfold Cl.bl
  rw [Lib.extract_data]
theorem cut_size (s : ByteArray) (l h : Nat) (hh : h ≤ s.size) : (s.extract l h).size = h - l := by
  rw [← Cl.bl_len, bl_cut, List.length_take, List.length_drop, Cl.bl_len]; omega
theorem cut_at (s : ByteArray) (l h i : Nat) (hi : i < (s.extract l h).size) (hi' : l + i < s.size) : (s.extract l h)[i] = s[l + i] := by
  have e : (Cl.bl (s.extract l h))[i]'(by rw [Cl.bl_len]; exact hi) = (Cl.bl s)[l + i]'(by rw [Cl.bl_len]; exact hi') := by
    simp only [bl_cut, List.getElem_take, List.getElem_drop]
  exact e
/-- where a part lies -/
def cutAddr (a : Option Addr) (l cap : Nat) : Option Addr := if cap = l then a else a.map (·.add l)
theorem sliced_eq (a : Option Addr) (l h cap : Nat) : sliced a l h cap 1 = .slice (cutAddr a l cap) (h - l) (cap - l) := by
  unfold sliced cutAddr
  cases a <;> simp
theorem elem_u8 : Tryd.prog.elem 22 = 5 := by kernel_rfl
theorem size_then (u : World) (f : Nat → Value) : (((sizeOf (Tryd.prog.elem 22)).run Tryd.prog u).andThen fun s w => .ok (f s) w) = .ok (f 1) u := by
  have z1 := Tryd.sizeOf5
  rw [elem_u8, z1]
  rfl
theorem cut_lh (a : Option Addr) (n cap l h : Nat) (hl : l ≤ h) (hh : h ≤ cap) (u : World) : (Instr.slice 22 (.slice a n cap) (some (.int .i64 (l : Int))) (some (.int .i64 (h : Int))) none).run Tryd.prog u = .ok (.slice (cutAddr a l cap) (h - l) (cap - l)) u := by
  rw [run_slice_lh (P := Tryd.prog) u 22 a n cap Tryd.underlying22 .i64 .i64 (l : Int) (h : Int) (by omega) (by omega) (by omega), size_then u (fun s => sliced a (l : Int).toNat (h : Int).toNat cap s), Int.toNat_natCast, Int.toNat_natCast, sliced_eq]
theorem cut_l (a : Option Addr) (n cap l : Nat) (hl : l ≤ n) (u : World) : (Instr.slice 22 (.slice a n cap) (some (.int .i64 (l : Int))) none none).run Tryd.prog u = .ok (.slice (cutAddr a l cap) (n - l) (cap - l)) u := by
  rw [run_slice_l (P := Tryd.prog) u 22 a n cap Tryd.underlying22 .i64 (l : Int) (by omega) (by omega), size_then u (fun s => sliced a (l : Int).toNat n cap s), Int.toNat_natCast, sliced_eq]
theorem cut_h (a : Option Addr) (n cap h : Nat) (hh : h ≤ cap) (u : World) : (Instr.slice 22 (.slice a n cap) none (some (.int .i64 (h : Int))) none).run Tryd.prog u = .ok (.slice (cutAddr a 0 cap) (h - 0) (cap - 0)) u := by
  rw [run_slice_h (P := Tryd.prog) u 22 a n cap Tryd.underlying22 .i64 (h : Int) (by omega) (by omega), size_then u (fun s => sliced a 0 (h : Int).toNat cap s), Int.toNat_natCast, sliced_eq]
theorem BytesS.cut {W : World} {a : Option Addr} {s : ByteArray} (hB : BytesS W a s) (cap l h : Nat) (hc : s.size ≤ cap) (hl : l ≤ h) (hh : h ≤ s.size) : BytesS W (cutAddr a l cap) (s.extract l h) := by
  have hz := cut_size s l h hh
  by_cases h0 : h = l
  · exact .inl (by rw [hz]; omega)
  · rcases hB with hB | ⟨b, o, rfl, hlt, hB⟩
    · omega
    · refine .inr ⟨b, o + l, ?_, hlt, fun i hi => ?_⟩
      · unfold cutAddr
        rw [if_neg (by omega)]
        show some (Addr.add _ _) = _
        unfold Addr.add
        split <;> simp_all
      · have := hB (l + i) (by rw [hz] at hi; omega)
        rw [cut_at s l h i hi (by rw [hz] at hi; omega), Nat.add_assoc]
        exact this
theorem BytesS.holds {W : World} {a : Option Addr} {s : ByteArray} (hB : BytesS W a s) : Holds (fun n : Int => Value.int .u8 n) W a s.size (fun i => (((Cl.bl s).getD i 0).toNat : Int)) := by
  rcases hB with hB | ⟨b, o, rfl, hlt, hB⟩
  · exact .inl hB
  · refine .inr ⟨b, o, rfl, hlt, fun i hi => ?_⟩
    rw [hB i hi]
    have : (Cl.bl s).getD i 0 = s[i] := by
      rw [List.getD_eq_getElem?_getD, List.getElem?_eq_getElem (by rw [Cl.bl_len]; exact hi)]
      rfl
    show some (Value.int .u8 _) = some (Value.int .u8 (((Cl.bl s).getD i 0).toNat : Int))
    rw [this]
theorem eqBytes_any (a1 a2 : Option Addr) (n1 n2 c1 c2 : Nat) (s1 s2 : ByteArray) (h1 : n1 = s1.size) (h2 : n2 = s2.size) (hm1 : s1.size ≤ maxLen) (hm2 : s2.size ≤ maxLen) (w : World) (hB1 : BytesS w a1 s1) (hB2 : BytesS w a2 s2) :
    Calls Tryd.prog 34 #[.slice a1 n1 c1, .slice a2 n2 c2] w fun e w' => e = .returned (.bool (decide (Cl.bl s1 = Cl.bl s2))) ∧ u8Dw w w' := by
  subst h1 h2
  refine (u8Eq_any a1 a2 s1.size c1 s2.size c2 _ _ hm1 hm2 w hB1.holds hB2.holds).mono fun e w' ⟨he, hw⟩ => ⟨?_, hw⟩
  rw [he]
  congr 3
  apply propext
  constructor
  · rintro ⟨hl, hi⟩
    apply List.ext_getElem
    · rw [Cl.bl_len, Cl.bl_len, hl]
    · intro i h1 h2
      have h1' : i < s1.size := by rw [Cl.bl_len] at h1; exact h1
      have := hi i h1'
      rw [List.getD_eq_getElem?_getD, List.getD_eq_getElem?_getD, List.getElem?_eq_getElem h1, List.getElem?_eq_getElem h2] at this
      simp only [Option.getD_some] at this
      exact UInt8.toNat_inj.1 (Int.ofNat.inj this)
  · intro h
    exact ⟨by rw [← Cl.bl_len, ← Cl.bl_len, h], fun i _ => by rw [h]⟩
end Go.Proofs.YtdiokcmhpndoeaaDoor
