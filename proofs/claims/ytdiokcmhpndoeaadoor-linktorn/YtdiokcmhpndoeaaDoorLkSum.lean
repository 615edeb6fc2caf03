
/- The program's sum of bytes, and the document's: each call answers Lk.sum and changes nothing. -/
import Derived.Test.YtdiokcmhpndoeaaDoorLkMath
import Derived.Test.YtdiokcmhpndoeaaDoorClNumber
import Derived.Lib.LaidTab
import Derived.Lib.SlBytesConst
namespace Go.Proofs.YtdiokcmhpndoeaaDoor
open Go.RowKit
/-- the table of the program, as it is laid -/
def LkEnv (W : World) : Prop := 0 < W.heap.size ∧ ∀ i < 16, W.cell? ⟨0, i, none⟩ = some (.int .u32 ((Lk.tab.getD i 0 : Nat) : Int))
theorem LkEnv.cell {W : World} (h : LkEnv W) (i : Nat) (hi : i < 16) : W.cell? ⟨0, i, none⟩ = some (.int .u32 ((Lk.tab.getD i 0 : Nat) : Int)) := h.2 i hi
theorem LkEnv.of {W W' : World} (h : LkEnv W) (hs : W.heap.size ≤ W'.heap.size) (hb : W'.heap[0]? = W.heap[0]?) : LkEnv W' :=
  ⟨Nat.lt_of_lt_of_le h.1 hs, fun i hi => (World.cell?_of_block (w := W) (a := ⟨0, i, none⟩) hb).trans (h.2 i hi)⟩
theorem LkEnv.below {W W' : World} {n : Nat} (h : LkEnv W) (hb : Below n W W') (hn : 0 < n) : LkEnv W' := h.of hb.size (hb.block _ hn)
theorem LkEnv.grown {W W' : World} {row : Option Nat} (h : LkEnv W) (hg : W.grownBy W' row) (hr : some 0 ≠ row) : LkEnv W' := h.of hg.size (hg.block _ h.1 hr)
theorem LkEnv.alloc {W : World} (h : LkEnv W) (o : Obj) : LkEnv (W.alloc o) := h.grown (World.grownBy_alloc W o none) (by simp)
theorem gNib : Tryd.prog.globalNamed "tidemill/link.nibbleSums" = some 0 := by kernel_rfl
theorem LkEnv.of_tab {W : World} (h : Lib.TabIs Tryd.prog W "tidemill/link.nibbleSums" .u32 (Lk.tab.map fun n : Nat => (n : Int))) : LkEnv W := by
  have hc : ∀ i < 16, W.cell? ⟨0, i, none⟩ = some (.int .u32 ((Lk.tab.getD i 0 : Nat) : Int)) := fun i hi => by
    have := Lib.TabIs.cell h gNib i (by simpa [Lk.tab] using hi)
    rw [this]
    have e : ∀ l : List Nat, (l.map fun n : Nat => (n : Int)).getD i 0 = ((l.getD i 0 : Nat) : Int) := fun l => by
      simp only [List.getD_eq_getElem?_getD, List.getElem?_map]
      cases l[i]? <;> rfl
    rw [e]
  refine ⟨?_, hc⟩
  have h0 := hc 0 (by decide)
  unfold World.cell? at h0
  split at h0
  · rename_i hb; exact (Array.getElem?_eq_some_iff.1 hb).1
  · cases h0
theorem xor_nib (q : Nat) (h : q < 4294967296) (t q1 : Nat) (ht : Lk.tab.getD (q % 16) 0 = t) (h1 : Lk.nib q = q1) : bits .xor .u32 ((q : Int) / 16) (t : Int) = (q1 : Int) := by
  have hb : ∀ i, Lk.tab.getD i 0 < 4294967296 := fun i => by
    rw [List.getD_eq_getElem?_getD]
    rcases hx : Lk.tab[i]? with _ | x
    · decide
    · exact (by decide : ∀ x ∈ Lk.tab, x < 4294967296) x (List.mem_of_getElem? hx)
  have := u32_xor_nat (q / 16) t (by omega) (by rw [← ht]; exact hb _)
  rw [← h1, Lk.nib, ht, ← this]
  rfl
set_option maxRecDepth 100000 in
set_option maxHeartbeats 1000000 in
theorem sum_some (b o cap : Nat) (s : ByteArray) (hs : s.size ≤ maxLen) (w : World) (hE : LkEnv w) (hB : Lib.Bytes w b o s) :
    Calls Tryd.prog 8 #[.slice (some ⟨b, o, none⟩) s.size cap] w fun e w' => e = .returned (.int .u32 ((Lk.sum (Cl.bl s) : Nat) : Int)) ∧ w = w' := by
  have HB := Lib.hid hB
  have HE := Lib.hid hE
  clear hB hE
  unfold maxLen at hs
  go_enter Tryd.func8, Tryd.ntmps8
  go_wp2
  go_loopw [3, 8] (fun n i wr => ∃ k m : Nat, k ≤ s.size ∧ Hid (m < 4294967296) ∧ n = .int .u32 m ∧ i = .int .i64 k ∧ Hid (Lk.sumGo m ((Cl.bl s).drop k) = Lk.sumGo 4294967295 (Cl.bl s)) ∧ wr = w) (fun _ i _ => s.size - (intOf i).toNat)
  case atStart => exact ⟨0, 4294967295, Nat.zero_le _, Lib.hid (by decide), rfl, rfl, Lib.hid rfl, rfl⟩
  case round =>
    obtain ⟨k, m, hk, HM, rfl, rfl, HN, rfl⟩ := hrel
    by_cases hlt : k < s.size
    · have hc := HB.out k hlt
      have hd : (s[k]).toNat < 256 := (s[k]).toNat_lt
      have HS : Hid (Lk.sumGo (Lk.nib (Lk.nib (m ^^^ (s[k]).toNat))) ((Cl.bl s).drop (k + 1)) = Lk.sumGo 4294967295 (Cl.bl s)) := by
        refine Lib.hid ?_
        rw [← HN.out, List.drop_eq_getElem_cons (i := k) (by rw [Cl.bl_len]; exact hlt), Lk.sumGo, Lk.step_nib]
        rfl
      generalize (s[k]).toNat = d at hc hd HS
      have hx := u32_xor_nat m d HM.out (by omega)
      have HX : Hid (m ^^^ d < 4294967296) := Lib.hid (Lk.xor_lt HM.out (by omega))
      generalize m ^^^ d = q at hx HX HS
      have hc1 := HE.out.cell (q % 16) (Nat.mod_lt _ (by omega))
      obtain ⟨t1, ht1⟩ : ∃ t1, Lk.tab.getD (q % 16) 0 = t1 := ⟨_, rfl⟩
      obtain ⟨q1, hq1⟩ : ∃ q1, Lk.nib q = q1 := ⟨_, rfl⟩
      have hx1 := xor_nib q HX.out t1 q1 ht1 hq1
      rw [ht1] at hc1
      rw [hq1] at HS
      have HX1 : Hid (q1 < 4294967296) := Lib.hid (hq1 ▸ Lk.nib_lt HX.out)
      clear ht1 hq1
      have hc2 := HE.out.cell (q1 % 16) (Nat.mod_lt _ (by omega))
      obtain ⟨t2, ht2⟩ : ∃ t2, Lk.tab.getD (q1 % 16) 0 = t2 := ⟨_, rfl⟩
      obtain ⟨q2, hq2⟩ : ∃ q2, Lk.nib q1 = q2 := ⟨_, rfl⟩
      have hx2 := xor_nib q1 HX1.out t2 q2 ht2 hq2
      rw [ht2] at hc2
      rw [hq2] at HS
      have HX2 : Hid (q2 < 4294967296) := Lib.hid (hq2 ▸ Lk.nib_lt HX1.out)
      clear ht2 hq2
      go_wp2
      go_roundw
      case rel => exact ⟨k + 1, q2, by omega, HX2, rfl, by simp, HS, trivial⟩
      case measure => simp [intOf]; omega
    · obtain rfl : k = s.size := by omega
      have he := HN.out
      rw [List.drop_of_length_le (by rw [Cl.bl_len]; exact Nat.le_refl _), Lk.sumGo] at he
      have hx : bits .xor .u32 (m : Int) 4294967295 = ((Lk.sum (Cl.bl s) : Nat) : Int) := by
        have hx := u32_xor_nat m 4294967295 HM.out (by decide)
        rw [Lk.xor_all HM.out] at hx
        unfold Lk.sum
        rw [← he]
        exact hx
      clear he
      go_wp2
      go_ret
      exact ⟨rfl, rfl⟩
set_option maxRecDepth 100000 in
theorem sum_none (a : Option Addr) (cap : Nat) (w : World) :
    Calls Tryd.prog 8 #[.slice a 0 cap] w fun e w' => e = .returned (.int .u32 0) ∧ w = w' := by
  have hx : bits .xor .u32 4294967295 4294967295 = 0 := by decide +kernel
  go_enter Tryd.func8, Tryd.ntmps8
  go_wp2
  go_loopw [3, 8] (fun n i wr => n = .int .u32 4294967295 ∧ i = .int .i64 0 ∧ wr = w) (fun _ _ _ => 0)
  case atStart => exact ⟨rfl, rfl, rfl⟩
  case round =>
    obtain ⟨rfl, rfl, rfl⟩ := hrel
    go_wp2
    go_ret
    exact ⟨rfl, rfl⟩
theorem sum_any (a : Option Addr) (n cap : Nat) (s : ByteArray) (hn : n = s.size) (hs : s.size ≤ maxLen) (w : World) (hE : LkEnv w) (hB : BytesS w a s) :
    Calls Tryd.prog 8 #[.slice a n cap] w fun e w' => e = .returned (.int .u32 ((Lk.sum (Cl.bl s) : Nat) : Int)) ∧ w = w' := by
  subst hn
  rcases hB with h0 | ⟨b, o, rfl, _, hB⟩
  · have : Cl.bl s = [] := List.length_eq_zero_iff.1 (by rw [Cl.bl_len, h0])
    rw [h0, this]
    exact sum_none a cap w
  · exact sum_some b o cap s hs w hE hB
theorem xor_bit (p x p1 : Nat) (hp : p < 4294967296) (h : (p : Int) / 2 = (p1 : Int)) (hb : p % 2 = 1 ∧ x % 2 = 0 ∨ p % 2 = 0 ∧ x % 2 = 1) : ∃ q : Nat, q < 4294967296 ∧ bits .xor .u32 (p1 : Int) 3988292384 = (q : Int) ∧ q ^^^ (x / 2) = Lk.bit (p ^^^ x) := by
  obtain rfl : p1 = p / 2 := by omega
  refine ⟨(p / 2) ^^^ 3988292384, Lk.xor_lt (by omega) (by decide), ?_, ?_⟩
  · exact u32_xor_nat (p / 2) 3988292384 (by omega) (by decide)
  · rw [← Lk.bit_pair]
    rcases hb with ⟨h1, h2⟩ | ⟨h1, h2⟩ <;> simp [h1, h2]
theorem xor_even (p x : Nat) (hb : p % 2 = x % 2) : (p / 2) ^^^ (x / 2) = Lk.bit (p ^^^ x) := by
  rw [← Lk.bit_pair, hb]
  simp
set_option maxRecDepth 100000 in
set_option maxHeartbeats 1000000 in
theorem refSum_any (s : ByteArray) (hs : s.size ≤ maxLen) (w : World) :
    Calls Tryd.prog 9 #[.string s] w fun e w' => e = .returned (.int .u32 ((Lk.sum (Cl.bl s) : Nat) : Int)) ∧ w = w' := by
  unfold maxLen at hs
  go_enter Tryd.func9, Tryd.ntmps9
  go_wp2
  go_loopw [3, 4] (fun n i wr => ∃ k m : Nat, k ≤ s.size ∧ Hid (m < 4294967296) ∧ n = .int .u32 m ∧ i = .int .i64 k ∧ Hid (Lk.sumGo m ((Cl.bl s).drop k) = Lk.sumGo 4294967295 (Cl.bl s)) ∧ wr = w) (fun _ i _ => s.size - (intOf i).toNat)
  case atStart => exact ⟨0, 4294967295, Nat.zero_le _, Lib.hid (by decide), rfl, rfl, Lib.hid rfl, rfl⟩
  case round =>
    obtain ⟨k, m, hk, HM, rfl, rfl, HN, rfl⟩ := hrel
    by_cases hlt : k < s.size
    · have hd : (s[k]).toNat < 256 := (s[k]).toNat_lt
      have HS : Hid (Lk.sumGo (Lk.bitN 8 (m ^^^ (s[k]).toNat)) ((Cl.bl s).drop (k + 1)) = Lk.sumGo 4294967295 (Cl.bl s)) := by
        refine Lib.hid ?_
        rw [← HN.out, List.drop_eq_getElem_cons (i := k) (by rw [Cl.bl_len]; exact hlt), Lk.sumGo]
        rfl
      clear HN
      go_wp2
      go_loopw [3, 5, 6] (fun n c j wr' => ∃ p x t : Nat, t ≤ 8 ∧ Hid (p < 4294967296) ∧ x < 256 ∧ n = .int .u32 p ∧ c = .int .u8 x ∧ j = .int .i64 t ∧ Hid (p ^^^ x = Lk.bitN t (m ^^^ (s[k]).toNat) ∧ x = (s[k]).toNat / 2 ^ t) ∧ wr' = wr) (fun _ _ j _ => 8 - (intOf j).toNat)
      case atStart => exact ⟨m, (s[k]).toNat, 0, by omega, HM, hd, rfl, rfl, rfl, Lib.hid ⟨rfl, by simp⟩, rfl⟩
      case round =>
        obtain ⟨p, x, t, ht, HP, hx, rfl, rfl, rfl, HT, rfl⟩ := hrel
        by_cases h8 : t < 8
        · have HX : Hid (x / 2 = (s[k]).toNat / 2 ^ (t + 1)) := by
            refine Lib.hid ?_
            rw [HT.out.2, Nat.div_div_eq_div_mul, ← Nat.pow_succ]
          obtain ⟨p1, hp1⟩ : ∃ p1 : Nat, p / 2 = p1 := ⟨_, rfl⟩
          have hp2 : (p : Int) / 2 % 4294967296 = (p1 : Int) := by have := HP.out; omega
          have HP1 : Hid (p1 < 4294967296) := Lib.hid (by have := HP.out; omega)
          obtain ⟨x1, hx1⟩ : ∃ x1 : Nat, x / 2 = x1 := ⟨_, rfl⟩
          have hx2 : (x : Int) / 2 = (x1 : Int) := by omega
          have hx3 : x1 < 256 := by omega
          rw [hx1] at HX
          by_cases hb : p % 2 = x % 2
          · have HE := Lib.hid (xor_even p x hb)
            rw [HT.out.1, hp1, hx1] at HE
            clear hp1 hx1
            rcases (show (p : Int) % 2 = 0 ∧ (x : Int) % 2 = 0 ∨ (p : Int) % 2 = 1 ∧ (x : Int) % 2 = 1 by omega) with ⟨h1, h2⟩ | ⟨h1, h2⟩
            · clear hb
              go_wp2
              go_roundw
              case rel => exact ⟨p1, x1, t + 1, by omega, HP1, hx3, by rw [hp2], rfl, by simp, Lib.hid ⟨HE.out, HX.out⟩, trivial⟩
              case measure => simp [intOf]; omega
            · clear hb
              go_wp2
              go_roundw
              case rel => exact ⟨p1, x1, t + 1, by omega, HP1, hx3, by rw [hp2], rfl, by simp, Lib.hid ⟨HE.out, HX.out⟩, trivial⟩
              case measure => simp [intOf]; omega
          · obtain ⟨q, hq, hxq, hqe⟩ := xor_bit p x p1 HP.out (by omega) (by omega)
            have HQ := Lib.hid hq
            have HE := Lib.hid hqe
            rw [HT.out.1, hx1] at HE
            clear hp1 hx1 hq hqe
            rcases (show (p : Int) % 2 = 0 ∧ (x : Int) % 2 = 1 ∨ (p : Int) % 2 = 1 ∧ (x : Int) % 2 = 0 by omega) with ⟨h1, h2⟩ | ⟨h1, h2⟩
            · clear hb
              go_wp2
              go_roundw
              case rel => exact ⟨q, x1, t + 1, by omega, HQ, hx3, rfl, rfl, by simp, Lib.hid ⟨HE.out, HX.out⟩, trivial⟩
              case measure => simp [intOf]; omega
            · clear hb
              go_wp2
              go_roundw
              case rel => exact ⟨q, x1, t + 1, by omega, HQ, hx3, rfl, rfl, by simp, Lib.hid ⟨HE.out, HX.out⟩, trivial⟩
              case measure => simp [intOf]; omega
        · obtain rfl : t = 8 := by omega
          have HF : Hid (p = Lk.bitN 8 (m ^^^ (s[k]).toNat)) := by
            refine Lib.hid ?_
            have h0 := HT.out.2
            have h1 := HT.out.1
            obtain rfl : x = 0 := by omega
            rw [← h1, Nat.xor_zero]
          rw [← HF.out] at HS
          clear HT HF
          go_wp2
          go_roundw
          case rel => exact ⟨k + 1, p, by omega, HP, rfl, by simp, HS, trivial⟩
          case measure => simp [intOf]; omega
    · obtain rfl : k = s.size := by omega
      have he := HN.out
      rw [List.drop_of_length_le (by rw [Cl.bl_len]; exact Nat.le_refl _), Lk.sumGo] at he
      have hx : (4294967295 - (m : Int)) % 4294967296 = ((Lk.sum (Cl.bl s) : Nat) : Int) := by
        have hm := HM.out
        unfold Lk.sum
        rw [← he]
        omega
      clear he
      go_wp2
      go_ret
      refine ⟨?_, rfl⟩
      show Ending.returned (.int .u32 ((4294967295 - (m : Int)) % 4294967296)) = _
      rw [hx]
/-- the bytes of the example -/
def Lk.nine : Array Value := #[.int .u8 49, .int .u8 50, .int .u8 51, .int .u8 52, .int .u8 53, .int .u8 54, .int .u8 55, .int .u8 56, .int .u8 57]
theorem nine_bytes (w : World) (t : TypeId) (fr : Nat × Nat) : Lib.Bytes (w.alloc (.cells Lk.nine t fr)) w.heap.size 0 ⟨#[49, 50, 51, 52, 53, 54, 55, 56, 57]⟩ := fun i hi => by
  have hi' : i < 9 := hi
  rw [World.cell?_alloc_mark]
  have hk : i = 0 ∨ i = 1 ∨ i = 2 ∨ i = 3 ∨ i = 4 ∨ i = 5 ∨ i = 6 ∨ i = 7 ∨ i = 8 := by omega
  rcases hk with rfl | rfl | rfl | rfl | rfl | rfl | rfl | rfl | rfl <;> rfl
set_option maxRecDepth 100000 in
theorem lkAwake_any (w : World) (hE : LkEnv w) :
    Calls Tryd.prog 7 #[] w fun e w' => e = .returned (.bool true) ∧ Below w.heap.size w w' := by
  have HU := Lib.hid (sum_any (some ⟨w.heap.size, 0, none⟩) 9 9 ⟨#[49, 50, 51, 52, 53, 54, 55, 56, 57]⟩ rfl (by decide) (w.alloc (.cells Lk.nine 5 (9, 10))) (hE.alloc _) (.inr ⟨_, _, rfl, by simp, nine_bytes _ _ _⟩))
  rw [show Lk.sum (Cl.bl ⟨#[49, 50, 51, 52, 53, 54, 55, 56, 57]⟩) = 3421780262 by decide +kernel] at HU
  clear hE
  have hcv := Lib.run_convert_bytes_const (P := Tryd.prog) w 22 5 Lk.nine 9 9 Tryd.underlying22 Tryd.underlying5
  have HB : Hid (Below w.heap.size w (w.alloc (.cells Lk.nine 5 (9, 10)))) := Lib.hid ((Below.refl _ w).alloc (Nat.le_refl _) _)
  have hz : Lk.nine.size = 9 := rfl
  rw [hz] at hcv
  unfold Lk.nine at hcv HU HB
  clear hz
  go_enter Tryd.func7, Tryd.ntmps7
  go_wp2_with fail
  refine HU.out.mono ?_
  rintro e w1 ⟨rfl, rfl⟩
  go_wp2
  go_ret
  exact ⟨rfl, HB.out⟩
end Go.Proofs.YtdiokcmhpndoeaaDoor
