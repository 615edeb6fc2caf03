
/- Bytes that came in: as a text, and as a copy of one's own. -/
import Derived.Test.YtdiokcmhpndoeaaDoorClPut
import Derived.Test.YtdiokcmhpndoeaaDoorClReel2
namespace Go.Proofs.YtdiokcmhpndoeaaDoor
open Go.RowKit
attribute [local go_sem ↓] app_eq
theorem BytesS.stay {W W' : World} {a : Option Addr} {s : ByteArray} (h : BytesS W a s) (hs : W.heap.size ≤ W'.heap.size) (hk : ∀ b, b < W.heap.size → W'.heap[b]? = W.heap[b]?) : BytesS W' a s := by
  rcases h with h | ⟨b, o, e, hb, hB⟩
  · exact .inl h
  · exact .inr ⟨b, o, e, Nat.lt_of_lt_of_le hb hs, fun i hi => (World.cell?_of_block (w := W) (a := ⟨b, o + i, none⟩) (hk b hb)).trans (hB i hi)⟩
theorem BytesS.below {W W' : World} {a : Option Addr} {s : ByteArray} (h : BytesS W a s) (hb : Below W.heap.size W W') : BytesS W' a s := h.stay hb.size (fun b k => hb.block b k)
theorem conv_s {w : World} {a : Option Addr} {s : ByteArray} (h : BytesS w a s) (n cap : Nat) (hn : n = s.size) : (convert 22 9 (.slice a n cap)).run Tryd.prog w = .ok (.string s) w := by
  subst hn
  rcases h with h | ⟨b, o, rfl, _, hB⟩
  · have e : s = ⟨#[]⟩ := Cl.bl_inj (show Cl.bl s = Cl.bl ⟨#[]⟩ from List.length_eq_zero_iff.1 (by rw [Cl.bl_len]; exact h))
    subst e
    exact conv_zero w a cap
  · exact Lib.run_convert_whole (P := Tryd.prog) w 22 5 9 Tryd.underlying22 Tryd.underlying5 Tryd.underlying9 b o s hB cap
/-- the bytes of s, appended onto an own slice -/
theorem run_app_s (w : World) (base : Nat) (v : Value) (l : List UInt8) (hown : BRow w base v l) (hbase : base ≤ w.heap.size) (a : Option Addr) (n cap : Nat) (s : ByteArray) (hn : n = s.size) (hs : s.size ≤ 1000000000) (hl : l.length ≤ 1000000000) (hB : BytesS w a s) :
    ∃ v' w', Sem.run Tryd.prog (App #[22, 22] 22 #[v, .slice a n cap]) w = .ok v' w' ∧ BRow w' base v' (l ++ Cl.bl s) ∧ w.grownBy w' v.ownBlock ∧ (v'.ownBlock = v.ownBlock ∨ v'.ownBlock = some w.heap.size) := by
  subst hn
  rcases hB with h0 | ⟨b, o, rfl, hb, hB⟩
  · have he : Cl.bl s = [] := List.length_eq_zero_iff.1 (by rw [Cl.bl_len]; exact h0)
    rw [he, List.append_nil, h0]
    have hv : ∃ a1 n1 c1, v = .slice a1 n1 c1 ∧ n1 ≤ c1 := by
      rcases hown.2 with ⟨e, _⟩ | ⟨g, c, cur, e, _, _, hc, _⟩
      · exact ⟨_, _, _, e, Nat.le_refl _⟩
      · exact ⟨_, _, _, e, hc⟩
    obtain ⟨a1, n1, c1, rfl, hc⟩ := hv
    exact ⟨_, _, run_app_none w a1 n1 c1 a cap hc, hown, World.grownBy.refl _ _, .inl rfl⟩
  · obtain ⟨i0, hi, hz0, hz1, hz2⟩ := info_parts Cl.info_u8
    have hsl : s.size = (Cl.bl s).length := (Cl.bl_len s).symm
    obtain ⟨v', w', hr, h2, h3, _, h5⟩ := run_append_own_at (P := Tryd.prog) w base 22 22 5 i0 (.int .u8 0) 1 1 Tryd.underlying22 hi hz0 hz1 hz2 rfl (by decide) v l.length (Cl.enc l) hown ⟨b, o, none⟩ s.size cap (Cl.enc (Cl.bl s)) (by rw [Cl.enc_len, Cl.bl_len])
      (fun j u hu => by
        have hj : j < s.size := by
          have := (List.getElem?_eq_some_iff.1 hu).1
          rw [Cl.enc_len, Cl.bl_len] at this
          omega
        have hu' : u = .int .u8 ((s[j]).toNat : Int) := by
          have hj' : j < (Cl.bl s).length := by rw [Cl.bl_len]; exact hj
          simp only [Cl.enc, List.getElem?_map, List.getElem?_eq_getElem hj', Option.map_some, Option.some.injEq] at hu
          exact hu.symm
        have hc := hB j hj
        have he : (⟨b, o, none⟩ : Addr).add j = ⟨b, o + j, none⟩ := by unfold Addr.add; split <;> simp_all
        rw [he, hu']
        exact hc) (Cl.enc_one _) (by unfold maxLen; omega) (by omega) hbase
    refine ⟨v', w', hr, ?_, h3, h5⟩
    show World.ownsRow _ _ _ _ _ _ _
    rw [List.length_append, Cl.enc_app, Cl.bl_len]
    exact h2
/-- a copy: append onto an empty literal -/
theorem run_app_copy (w : World) (a : Option Addr) (n cap : Nat) (s : ByteArray) (hn : n = s.size) (hs : s.size ≤ 1000000000) (hB : BytesS w a s) :
    ∃ v' w', Sem.run Tryd.prog (App #[22, 22] 22 #[.slice (some ⟨w.heap.size, 0, none⟩) 0 0, .slice a n cap]) (w.alloc (.cells #[] 5)) = .ok v' w' ∧ BRow w' w.heap.size v' (Cl.bl s) ∧ Below w.heap.size w w' := by
  have hr0 : BRow (w.alloc (.cells #[] 5)) w.heap.size (.slice (some ⟨w.heap.size, 0, none⟩) 0 0) [] := ⟨rfl, .inr ⟨w.heap.size, 0, #[], rfl, Nat.le_refl _, heap_alloc_new w _, Nat.le_refl _, Nat.zero_le _, rfl, rfl⟩⟩
  have hB0 : Below w.heap.size w (w.alloc (.cells #[] 5)) := (Below.refl _ w).alloc (Nat.le_refl _) _
  obtain ⟨v', w', h1, h2, h3, _⟩ := run_app_s (w.alloc (.cells #[] 5)) w.heap.size _ [] hr0 (by simp) a n cap s hn hs (by simp) (hB.below hB0)
  exact ⟨v', w', h1, h2, hB0.grown h3 (by simp) (fun k e => by cases e; exact Nat.le_refl _)⟩
theorem BRow.bytesS {W : World} {B : Nat} {v : Value} {l : List UInt8} (h : BRow W B v l) : ∃ a cap, v = .slice a l.length cap ∧ BytesS W a ⟨l.toArray⟩ := by
  rcases h.bytes with ⟨rfl, rfl⟩ | ⟨g, cap, rfl, _, hg, _, _, hB⟩
  · exact ⟨_, _, rfl, .inl rfl⟩
  · exact ⟨_, _, rfl, .inr ⟨g, 0, rfl, hg, hB⟩⟩
theorem quiet_same {P : Program} {f : FuncId} {args : Array Value} {w : World} {n : Nat} {v : Value} (h : Calls P f args (w.drewN n) fun e w' => e = .returned v ∧ w.drewN n = w') :
    Calls P f args (w.drewN n) fun e w'' => e = .returned v ∧ ∃ m, w'' = w.drewN m := h.mono fun _ _ ⟨he, hm⟩ => ⟨he, n, hm.symm⟩
theorem Cl.back (s : ByteArray) : (⟨(Cl.bl s).toArray⟩ : ByteArray) = s := Cl.bl_inj rfl
end Go.Proofs.YtdiokcmhpndoeaaDoor
