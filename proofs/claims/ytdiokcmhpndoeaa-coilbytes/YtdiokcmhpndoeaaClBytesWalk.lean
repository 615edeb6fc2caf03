
/- CoilBytes: its walk. -/
import Derived.Test.YtdiokcmhpndoeaaClBytesS
import Derived.Test.YtdiokcmhpndoeaaClTakeStr
import Derived.Test.YtdiokcmhpndoeaaClPutStr
import Derived.Test.YtdiokcmhpndoeaaClBackMath
import Derived.Deep.RegionHeld
namespace Go.Proofs.Ytdiokcmhpndoeaa
open Go.RowKit
attribute [local go_sem ↓] app_eq
/-- a text that may be taken -/
abbrev Cl.Tx300 : Type := { s : ByteArray // s.size ≤ 300 }
def Cl.nth300 (l : List ByteArray) (h : ∀ x ∈ l, x.size ≤ 300) (i : Nat) : Cl.Tx300 := if hi : i < l.length then ⟨l[i], h _ (List.getElem_mem hi)⟩ else ⟨⟨#[]⟩, by decide⟩
theorem Cl.nth_all (l : List ByteArray) (h : ∀ x ∈ l, x.size ≤ 300) : (Cl.upto (Cl.nth300 l h) l.length).map (·.1) = l := by
  apply List.ext_getElem
  · simp [Cl.upto]
  · intro i h1 h2
    simp [Cl.upto, Cl.nth300, h2]
theorem Cl.TL_le (l : List ByteArray) (h : ∀ x ∈ l, x.size ≤ 300) : (Cl.TL l).length ≤ l.length * 509 := Cl.TL_len (fun s hs => Nat.le_trans (h s hs) (by omega))
theorem SRow.holds {W : World} {B : Nat} {v : Value} {l : List ByteArray} (hr : SRow W B v l) (h : ∀ x ∈ l, x.size ≤ 300) : ∃ a c, v = .slice a l.length c ∧ Holds (fun x : Cl.Tx300 => Value.string x.1) W a l.length (Cl.nth300 l h) ∧ (∀ b o, a = some ⟨b, o, none⟩ → B ≤ b ∧ b < W.heap.size) := by
  rcases hr.2 with ⟨rfl, h0⟩ | ⟨g, cap, cur, rfl, hg, hh, hn, hcap, hsz, ht⟩
  · exact ⟨_, _, by rw [h0], .inl h0, fun b o e => by cases e⟩
  · refine ⟨_, _, rfl, .inr ⟨g, 0, rfl, (Array.getElem?_eq_some_iff.1 hh).1, fun i hi => ?_⟩, fun b o e => by cases e; exact ⟨hg, (Array.getElem?_eq_some_iff.1 hh).1⟩⟩
    rw [Nat.zero_add, Lib.cell_of_heap hh i, ← Array.getElem?_toList]
    have h1 : (l.map fun x => Value.string x)[i]? = some (.string l[i]) := by simp [hi]
    rw [← ht, List.getElem?_take] at h1
    split at h1
    · rw [h1]; simp [Cl.nth300, hi]
    · cases h1
/-- a Reel over bytes of one's own -/
theorem reel_own {W : World} {B : Nat} {v : Value} {l : List UInt8} (h : BRow W B v l) (hl : l.length ≤ 1000000000) : ∃ a n cap, v = .slice a n cap ∧ Rn.ReelAt W.heap.size (W.alloc (.cells #[v, .int .i64 0] 63)) W.heap.size ⟨l.toArray⟩ 0 := by
  have hz : (⟨l.toArray⟩ : ByteArray).size = l.length := by simp [ByteArray.size]
  rcases h.bytes with ⟨rfl, rfl⟩ | ⟨g, cap, rfl, hg, hlt, hn, hcap, hB⟩
  · exact ⟨_, _, _, rfl, none, 0, Blk.new W _ _, Nat.le_refl _, by decide, .inl rfl⟩
  · refine ⟨_, _, _, rfl, some ⟨g, 0, none⟩, cap, by rw [hz]; exact Blk.new W _ _, by rw [hz]; exact hn, by rw [hz]; unfold maxLen; omega, .inr ⟨g, 0, rfl, by omega, ⟨by simp; omega, hlt⟩, ?_⟩⟩
    exact bytes_grown (World.grownBy_alloc W _ none) hlt (by simp) hB
theorem BRow.but {W W' : World} {B B' R : Nat} {v : Value} {l : List UInt8} {t : TypeId} {cs : Array Value} (h : BRow W B v l) (hb : But B' R W W') (hB : W.heap.size ≤ B') (hR : Blk W R t cs) (ht : t ≠ 5) : BRow W' B v l := by
  rcases h.2 with h0 | ⟨g, cap, cur, e, hg, hh, r⟩
  · exact ⟨h.1, .inl h0⟩
  · have hlt := (Array.getElem?_eq_some_iff.1 hh).1
    refine ⟨h.1, .inr ⟨g, cap, cur, e, hg, (hb.block g (by omega) (fun e' => ?_)).trans hh, r⟩⟩
    subst e'
    have := (show W.heap[g]? = _ from hR).symm.trans hh
    simp at this
    exact ht this.2
theorem BytesS.but {W W' : World} {B' R : Nat} {a : Option Addr} {s : ByteArray} (h : BytesS W a s) (hlow : ∀ b o, a = some ⟨b, o, none⟩ → b < B' ∧ b ≠ R) (hb : But B' R W W') : BytesS W' a s := by
  rcases h with h | ⟨b, o, e, hlt, hB⟩
  · exact .inl h
  · exact .inr ⟨b, o, e, Nat.lt_of_lt_of_le hlt hb.size, fun i hi => (World.cell?_of_block (w := W) (a := ⟨b, o + i, none⟩) (hb.block b (hlow b o e).1 (hlow b o e).2)).trans (hB i hi)⟩
set_option maxRecDepth 100000 in
set_option maxHeartbeats 4000000 in
theorem coilBytes_main (a : Option Addr) (s : ByteArray) (cap : Nat) (W : World) (hs : s.size ≤ 300) (hB : BytesS W a s) :
    Calls Try.prog 4 #[.slice a s.size cap] W fun e W' => e = .returned (.bool true) ∧ Below W.heap.size W W' := by
  have HA := Lib.hid (awake_any W)
  obtain ⟨n, hn⟩ : ∃ n, s.size = n := ⟨_, rfl⟩
  rw [hn] at hs ⊢
  have HN := Lib.hid hn
  have HBS := Lib.hid hB
  clear hn hB
  go_enter Try.func4, Try.ntmps4
  go_wp2_with fail
  refine HA.out.mono ?_
  rintro e w1 ⟨rfl, hb1⟩
  have hB1 := HBS.out.below hb1
  obtain ⟨v1, w2, hap, hrow, hb2⟩ := run_app_copy w1 a n cap s HN.out.symm (by rw [HN.out]; omega) hB1
  have hB2 := hB1.below hb2
  have hb12 := hb1.trans (hb2.mono hb1.size)
  obtain ⟨a2, n2, c2, rfl, hre⟩ := reel_own hrow (by rw [Cl.bl_len, HN.out]; omega)
  rw [Cl.back] at hre
  have HOP := Lib.hid (open_any a2 n2 c2 w2)
  have hb3 : Below W.heap.size W (w2.alloc (.cells #[.slice a2 n2 c2, .int .i64 0] 63)) := hb12.alloc hb12.size _
  have hrow3 : BRow (w2.alloc (.cells #[.slice a2 n2 c2, .int .i64 0] 63)) w1.heap.size (.slice a2 n2 c2) (Cl.bl s) := hrow.grown (World.grownBy_alloc w2 _ none) (fun _ _ => by simp)
  have hB3 := hB2.stay (W' := w2.alloc (.cells #[.slice a2 n2 c2, .int .i64 0] 63)) (by simp) (fun b hb => Below.heap_alloc w2 _ b hb)
  have hkr := Blk.new w2 63 #[.slice a2 n2 c2, .int .i64 0]
  have hz3 : (w2.alloc (.cells #[.slice a2 n2 c2, .int .i64 0] 63)).heap.size = w2.heap.size + 1 := by simp
  obtain ⟨w3, hw3⟩ : ∃ w3, w2.alloc (.cells #[.slice a2 n2 c2, .int .i64 0] 63) = w3 := ⟨_, rfl⟩
  rw [hw3] at hre HOP hb3 hrow3 hB3 hkr hz3
  have HTK := Lib.hid (strTake_any w2.heap.size w2.heap.size s 300 w3 (by rw [HN.out]; omega) (by omega) hre)
  have HB3 := Lib.hid hb3
  have HR3 := Lib.hid hrow3
  have HS3 := Lib.hid hB3
  have HK3 := Lib.hid hkr
  have HZ3 := Lib.hid hz3
  have HB12 := Lib.hid hb12
  have HS2 := Lib.hid hB2
  clear hre hrow hrow3 hB1 hB2 hB3 hb1 hb2 hb12 hb3 hkr hz3 hw3 HA HBS
  go_wp2_with fail
  refine HOP.out.mono ?_
  rintro e w9 ⟨rfl, rfl⟩
  clear HOP
  go_wp2_with fail
  refine HTK.out.mono ?_
  rintro e w4 ⟨v, l, s', c', rfl, hsr, hre4, hbut, hcase⟩
  have hr4 := HR3.out.but hbut (Nat.le_refl _) HK3.out (by decide)
  have hconv := conv_row hr4
  rw [Cl.back] at hconv
  have hlow : ∀ b o, a = some ⟨b, o, none⟩ → s.size ≠ 0 → b < w2.heap.size := fun b o e h0 => by
    rcases HS2.out with h | ⟨b', o', e', hlt, _⟩
    · exact absurd h h0
    · rw [e] at e'; cases e'; exact hlt
  have hS4 : BytesS w4 a s := by
    rcases HS3.out with h | ⟨b, o, e, hlt, hBb⟩
    · exact .inl h
    · by_cases h0 : s.size = 0
      · exact .inl h0
      · have hbl := hlow b o e h0
        have hz := HZ3.out
        exact .inr ⟨b, o, e, Nat.lt_of_lt_of_le hlt hbut.size, fun i hi => (World.cell?_of_block (w := w3) (a := ⟨b, o + i, none⟩) (hbut.block b (by omega) (by omega))).trans (hBb i hi)⟩
  have hcb := conv_s hS4 n cap HN.out.symm
  have hss : (s.toList == s.toList) = true := by simp
  have HEN := Lib.hid (Rn.end_any w2.heap.size s' c' w4 hre4)
  have HSR := Lib.hid hsr
  have HBU := Lib.hid hbut
  have HCA := Lib.hid hcase
  have HS4 := Lib.hid hS4
  obtain ⟨av, cv, rfl⟩ := hsr.slice
  clear hsr hbut hcase hre4 hr4 hlow hS4 HTK
  have hW2 : W.heap.size ≤ w2.heap.size := HB12.out.size
  have HB4 : Hid (Below W.heap.size W w4) := Lib.hid (HB3.out.trans (HBU.out.toBelow HB3.out.size hW2))
  by_cases he : Cl.endOf s' c' = 0
  · have hc0 : c' = 0 ∧ s'.size = 0 := by
      unfold Cl.endOf at he
      split at he
      · cases he
      · rename_i hq
        exact ⟨he, by omega⟩
    obtain ⟨rfl, hs0⟩ := hc0
    have htk : Cl.takeList Cl.strTk s 300 = (some (l, s'), 0) := by
      rcases HCA.out with ⟨h, _⟩ | ⟨_, h, _⟩
      · exact h
      · exact absurd rfl h
    obtain ⟨hbl, hll, hxl⟩ := Cl.takeList_back 300 300 s l s' htk
    have hs1 : Cl.bl s' = [] := List.length_eq_zero_iff.1 (by rw [Cl.bl_len]; exact hs0)
    rw [hs1, List.append_nil] at hbl
    have hx : ∀ x ∈ l, x.size ≤ 300 := fun x h => by have := hxl x h; omega
    have hln : l.length ≤ 300 := by omega
    clear htk hxl hll hs1 hs0
    rw [he] at HEN
    have HBL := Lib.hid hbl
    clear hbl he HCA
    go_wp2_with fail
    refine HEN.out.mono ?_
    rintro e w9 ⟨rfl, rfl⟩
    clear HEN
    obtain ⟨a5, c5, ev, hho, hal⟩ := HSR.out.holds hx
    injection ev with e1 _ e3
    subst e1 e3
    have hbC : Blk ((w4.alloc (.cells #[.slice none 0 0] 29)).alloc (.cells #[.slice av l.length cv] 47)) w4.heap.size 29 #[.slice none 0 0] := (Blk.new w4 _ _).alloc _
    have hbB : Blk ((w4.alloc (.cells #[.slice none 0 0] 29)).alloc (.cells #[.slice av l.length cv] 47)) (w4.heap.size + 1) 47 #[.slice av l.length cv] := by
      have := Blk.new (w4.alloc (.cells #[.slice none 0 0] 29)) 47 #[.slice av l.length cv]
      rwa [World.size_alloc] at this
    have hbl6 : Below w4.heap.size w4 ((w4.alloc (.cells #[.slice none 0 0] 29)).alloc (.cells #[.slice av l.length cv] 47)) := ((Below.refl _ w4).alloc (Nat.le_refl _) _).alloc (by simp) _
    have hz6 : ((w4.alloc (.cells #[.slice none 0 0] 29)).alloc (.cells #[.slice av l.length cv] 47)).heap.size = w4.heap.size + 2 := by simp
    have HVA := Lib.hid (strVal_any av l.length cv (w4.alloc (.cells #[.slice none 0 0] 29)))
    rw [World.size_alloc] at HVA
    obtain ⟨w6, hw6⟩ : ∃ w6, ((w4.alloc (.cells #[.slice none 0 0] 29)).alloc (.cells #[.slice av l.length cv] 47)) = w6 := ⟨_, rfl⟩
    rw [hw6] at hbC hbB hbl6 hz6 HVA
    have HPU := Lib.hid (strPut_any (fun x : Cl.Tx300 => Value.string x.1) (fun l => Cl.TL (l.map (·.1))) (fun x => Cl.upL x.1.size ++ Cl.bl x.1) rfl (fun l x => by simp [Cl.TL]) w4.heap.size (w4.heap.size + 1) av l.length cv (Cl.nth300 l hx) (by omega)
      (fun m hm => by
        have h1 := Cl.TL_le (m.map (·.1)) (fun x h => by simp only [List.mem_map] at h; obtain ⟨y, _, rfl⟩ := h; exact y.2)
        rw [List.length_map] at h1
        omega) w6
      (fun m x W' hW' hC' hm' => (strOnePut w4.heap.size (w6.heap.size + 3) x.1 m (Nat.le_trans x.2 (by omega)) W' hW' hC' (by omega)).mono fun e W'' ⟨h1, h2, h3⟩ => ⟨h1, by rw [List.append_assoc] at h2; exact h2, h3⟩)
      hbC hbB (hho.below hbl6 (Nat.le_refl _)) (fun b o e => by have := hal b o e; omega))
    rw [Cl.nth_all, ← HBL.out] at HPU
    have HZ6 := Lib.hid hz6
    have HL6 := Lib.hid hbl6
    clear hbC hbB hbl6 hz6 hho hal hw6
    go_wp2_with fail
    refine HVA.out.mono ?_
    rintro e w9 ⟨rfl, rfl⟩
    clear HVA
    go_wp2_with fail
    refine HPU.out.mono ?_
    rintro e w7 ⟨⟨v7, rfl⟩, hco, hbu⟩
    have hz := HZ6.out
    have h34 := HBU.out.size
    have h23 := HZ3.out
    have HB7 : Hid (Below W.heap.size W w7) := Lib.hid ((HB4.out.trans (HL6.out.mono HB4.out.size)).trans (hbu.toBelow (by omega) (by omega)))
    have hS7 : BytesS w7 a s := by
      rcases HS4.out with h | ⟨b', o', e', hlt, hbb⟩
      · exact .inl h
      · exact (BytesS.below (.inr ⟨b', o', e', hlt, hbb⟩) HL6.out).but (fun b o e => by rw [e] at e'; cases e'; omega) hbu
    have HBY : Hid (∀ w', Below w7.heap.size w7 w' → Calls Try.prog 13 #[.pointer (some ⟨w4.heap.size, 0, none⟩)] w' fun e wB => ∃ vB, e = .returned vB ∧ BRow wB w'.heap.size vB (Cl.bl s) ∧ Below w7.heap.size w7 wB) := fun w' hb => (bytes_any w4.heap.size _ (Cl.bl s) (by rw [Cl.bl_len, HN.out]; omega) w' (hco.below hb (Nat.le_refl _))).mono fun e wB ⟨vB, he, h1, h2⟩ => ⟨vB, he, h1, hb.trans (h2.mono hb.size)⟩
    have HS7 := Lib.hid hS7
    have hcb7 : (convert 27 9 (.slice a n cap)).run Try.prog w7.drew = .ok (.string s) w7.drew := conv_s (w := w7.drew) hS7 n cap HN.out.symm
    clear hco hbu hS7 HPU hz h34 h23
    go_wp2
    go_region_held (fun w' => w'.os = w'.os) (first | rfl | (exact rfl)) (first
      | (go_at_call 13; refine (HBY.out _ (below_dr0 _)).mono ?_; rintro e wB ⟨vB, rfl, hrB, BB⟩; have hcB : (convert 27 9 vB).run Try.prog wB = .ok (.string ⟨(Cl.bl s).toArray⟩) wB := conv_row hrB; rw [Cl.back] at hcB; have hcb8 := conv_s (HS7.out.below BB) n cap HN.out.symm))
    all_goals
      go_wp2
      go_ret
      exact ⟨rfl, HB7.out.trans (BB.mono HB7.out.size)⟩
  · have hne : ((Cl.endOf s' c' : Nat) : Int) ≠ 0 := by omega
    go_wp2_with fail
    refine HEN.out.mono ?_
    rintro e w9 ⟨rfl, rfl⟩
    go_wp2
    go_ret
    exact ⟨rfl, HB4.out⟩
set_option maxRecDepth 100000 in
theorem coilBytes_walk (a : Option Addr) (s : ByteArray) (cap : Nat) (W : World) (hs : s.size ≤ maxLen) (_hcap : s.size ≤ cap) (hB : BytesS W a s) :
    Calls Try.prog 4 #[.slice a s.size cap] W fun e W' => e = .returned (.bool true) ∧ Below W.heap.size W W' := by
  by_cases h1 : s.size ≤ 300
  · exact coilBytes_main a s cap W h1 hB
  · have HA := Lib.hid (awake_any W)
    unfold maxLen at hs
    obtain ⟨n, hn⟩ : ∃ n, s.size = n := ⟨_, rfl⟩
    rw [hn] at hs h1 ⊢
    clear hn hB
    go_enter Try.func4, Try.ntmps4
    go_wp2_with fail
    refine HA.out.mono ?_
    rintro e w1 ⟨rfl, hb1⟩
    have HA2 := Lib.hid (awake_any w1)
    have HB1 := Lib.hid hb1
    clear hb1
    go_wp2_with fail
    refine HA2.out.mono ?_
    rintro e w2 ⟨rfl, hb2⟩
    go_wp2
    go_ret
    exact ⟨rfl, HB1.out.trans (hb2.mono HB1.out.size)⟩
end Go.Proofs.Ytdiokcmhpndoeaa
