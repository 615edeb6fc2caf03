
/- A payload's frame: its bytes, the program's and the document's. -/
import Derived.Test.YtdiokcmhpndoeaaDoorLkApp
import Derived.Test.YtdiokcmhpndoeaaDoorClRefPut
import Derived.Test.YtdiokcmhpndoeaaDoorClIntsBase
namespace Go.Proofs.YtdiokcmhpndoeaaDoor
open Go.RowKit
attribute [local go_sem ↓] app_eq
namespace Lk
/-- a sum as bytes, the highest first -/
def hf (n : Nat) : List UInt8 := [UInt8.ofNat (n / 16777216 % 256), UInt8.ofNat (n / 65536 % 256), UInt8.ofNat (n / 256 % 256), UInt8.ofNat (n % 256)]
theorem hf_len (n : Nat) : (hf n).length = 4 := rfl
/-- what a payload's sum is of -/
def body (p : List UInt8) : List UInt8 := Cl.upL p.length ++ p
def frame (p : List UInt8) : List UInt8 := hf (sum (body p)) ++ body p
end Lk
theorem four_cells (w : World) (t : TypeId) (n : Nat) (cs : Array Value) (hc : cs = #[.int .u8 ((n / 16777216 % 256 : Nat) : Int), .int .u8 ((n / 65536 % 256 : Nat) : Int), .int .u8 ((n / 256 % 256 : Nat) : Int), .int .u8 ((n % 256 : Nat) : Int)]) (ht : t = 5) :
    BRow (w.alloc (.cells cs t)) w.heap.size (.slice (some ⟨w.heap.size, 0, none⟩) 4 4) (Lk.hf n) := by
  subst hc ht
  refine ⟨rfl, .inr ⟨w.heap.size, 4, _, rfl, Nat.le_refl _, heap_alloc_new w _, Nat.le_refl _, by decide, rfl, ?_⟩⟩
  simp [Cl.enc, Lk.hf]
set_option maxRecDepth 100000 in
theorem highest_any (n : Nat) (hn : n < 4294967296) (w : World) :
    Calls Tryd.prog 21 #[.int .u32 n] w fun e w' => ∃ v, e = .returned v ∧ BRow w' w.heap.size v (Lk.hf n) ∧ Below w.heap.size w w' := by
  have HN := Lib.hid hn
  clear hn
  go_enter Tryd.func21, Tryd.ntmps21
  go_wp2
  go_ret
  exact ⟨_, rfl, four_cells w _ n _ rfl rfl, (Below.refl _ w).alloc (Nat.le_refl _) _⟩
set_option maxRecDepth 100000 in
set_option maxHeartbeats 1000000 in
theorem refFrame_any (s : ByteArray) (hs : s.size ≤ 300000) (w : World) :
    Calls Tryd.prog 12 #[.string s] w fun e w' => e = .returned (.string ⟨(Lk.frame (Cl.bl s)).toArray⟩) ∧ Below w.heap.size w w' := by
  have HT := Lib.hid (refText_any s (by omega) w)
  have hup := Cl.up_len s.size (by omega)
  have hb : Cl.bl (Cl.up s.size ++ s) = Lk.body (Cl.bl s) := by rw [Cl.bl_app, Cl.bl_up, Lk.body, Cl.bl_len]
  have htz : (Cl.up s.size ++ s).size ≤ 400000 := by rw [← Cl.bl_len, hb, Lk.body, List.length_append, Cl.bl_len]; omega
  have hz : (Cl.up s.size ++ s).size ≤ maxLen := by unfold maxLen; omega
  have HS := Lib.hid (fun w' => refSum_any (Cl.up s.size ++ s) hz w')
  rw [hb] at HS
  obtain ⟨n, hn⟩ : ∃ n, Lk.sum (Lk.body (Cl.bl s)) = n := ⟨_, rfl⟩
  rw [hn] at HS
  have HN : Hid (n < 4294967296) := Lib.hid (hn ▸ Lk.sum_lt _)
  have hcv : ∀ w' : World, (convert 22 9 (.slice (some ⟨w'.heap.size, 0, none⟩) 4 4)).run Tryd.prog (w'.alloc (.cells #[.int .u8 ((n : Int) / 16777216 % 256), .int .u8 ((n : Int) / 65536 % 256), .int .u8 ((n : Int) / 256 % 256), .int .u8 ((n : Int) % 256)] 5)) = .ok (.string ⟨(Lk.hf n).toArray⟩) (w'.alloc (.cells #[.int .u8 ((n : Int) / 16777216 % 256), .int .u8 ((n : Int) / 65536 % 256), .int .u8 ((n : Int) / 256 % 256), .int .u8 ((n : Int) % 256)] 5)) := fun w' => conv_row (four_cells w' _ n _ rfl rfl)
  have HF : Hid ((⟨(Lk.frame (Cl.bl s)).toArray⟩ : ByteArray) = ⟨(Lk.hf n).toArray⟩ ++ (Cl.up s.size ++ s)) := by
    refine Lib.hid (Cl.bl_inj ?_)
    rw [Cl.bl_app, hb, ← hn]
    rfl
  rw [HF.out]
  have hq1 : (n : Int) / 16777216 % 4294967296 = (n : Int) / 16777216 := by have := HN.out; omega
  have hq2 : (n : Int) / 65536 % 4294967296 = (n : Int) / 65536 := by have := HN.out; omega
  have hq3 : (n : Int) / 256 % 4294967296 = (n : Int) / 256 := by have := HN.out; omega
  have huz : (⟨(Lk.hf n).toArray⟩ : ByteArray).size = 4 := rfl
  clear hb hz hn hup hs
  generalize Cl.up s.size ++ s = t at HT HS htz HF ⊢
  generalize (⟨(Lk.hf n).toArray⟩ : ByteArray) = u at huz hcv HF ⊢
  have huz' : u.size ≤ 4 := Nat.le_of_eq huz
  clear huz HF
  go_enter Tryd.func12, Tryd.ntmps12
  go_wp2_with fail
  refine HT.out.mono ?_
  rintro e w1 ⟨rfl, hb1⟩
  have HB1 := Lib.hid hb1
  clear hb1 HT
  go_wp2_with fail
  refine (HS.out w1).mono ?_
  rintro e w2 ⟨rfl, rfl⟩
  go_wp2
  go_ret
  exact ⟨rfl, HB1.out.alloc HB1.out.size _⟩
set_option maxRecDepth 100000 in
set_option maxHeartbeats 1000000 in
theorem frame_any (a : Option Addr) (n cap : Nat) (s : ByteArray) (hn : n = s.size) (hs : s.size ≤ 200000) (w : World) (hE : LkEnv w) (hB : BytesS w a s) :
    Calls Tryd.prog 10 #[.slice a n cap] w fun e w' => ∃ v, e = .returned (.tuple #[v, .int .i64 0]) ∧ BRow w' w.heap.size v (Lk.frame (Cl.bl s)) ∧ Below w.heap.size w w' := by
  have hcs : ∀ u : World, BytesS u a s → (convert 22 9 (.slice a n cap)).run Tryd.prog u = .ok (.string s) u := fun u h => conv_s h n cap hn
  have hcw := hcs (w.alloc (.cells #[.slice none 0 0] 54)) (hB.below ((Below.refl _ w).alloc (Nat.le_refl _) _))
  clear hcs
  have hn2 : n ≤ 200000 := by omega
  have hb0 : Below w.heap.size w (w.alloc (.cells #[.slice none 0 0] 54)) := (Below.refl _ w).alloc (Nat.le_refl _) _
  have hC0 : CoilAt (w.alloc (.cells #[.slice none 0 0] 54)) w.heap.size (w.heap.size + 1) [] := ⟨_, Blk.new w _ _, World.ownsRow_nil _ _ _ _⟩
  have HT := Lib.hid (coilText_any w.heap.size (w.heap.size + 1) s [] (by omega) _ (by simp) hC0 (by simp))
  rw [List.nil_append] at HT
  have HB0 := Lib.hid hb0
  have HE := Lib.hid hE
  have HS := Lib.hid hs
  clear hC0 hb0 hB hn hE hs
  go_enter Tryd.func10, Tryd.ntmps10
  go_wp2_with fail
  refine HT.out.mono ?_
  rintro e w1 ⟨⟨v1, rfl⟩, hC1, hbu1⟩
  have hb1 : Below w.heap.size w w1 := HB0.out.trans (hbu1.toBelow (by omega) (Nat.le_refl _))
  have hup := Cl.up_len s.size (by have := HS.out; omega)
  have hbo : Cl.upL s.size ++ Cl.bl s = Lk.body (Cl.bl s) := by rw [Lk.body, Cl.bl_len]
  rw [hbo] at hC1
  have hbl : (Lk.body (Cl.bl s)).length ≤ 300000 := by have := HS.out; rw [Lk.body, List.length_append, Cl.bl_len]; omega
  have HG := Lib.hid (bytes_any w.heap.size _ _ (by omega) w1 hC1)
  have HB1 := Lib.hid hb1
  have HBL := Lib.hid hbl
  clear hC1 hbu1 hb1 hup hbo HT hbl hcw
  go_wp2_with fail
  refine HG.out.mono ?_
  rintro e w2 ⟨v2, rfl, hr2, hb2⟩
  have hE2 := (HE.out.below HB1.out HE.out.1).below hb2 (HE.out.below HB1.out HE.out.1).1
  obtain ⟨a2, c2, rfl, hs2⟩ := hr2.bytesS
  have hz2 : (⟨(Lk.body (Cl.bl s)).toArray⟩ : ByteArray).size = (Lk.body (Cl.bl s)).length := by simp [ByteArray.size]
  have HSU := Lib.hid (sum_any a2 _ c2 ⟨(Lk.body (Cl.bl s)).toArray⟩ hz2.symm (by rw [hz2]; have := HBL.out; unfold maxLen; omega) w2 hE2 hs2)
  rw [show Cl.bl ⟨(Lk.body (Cl.bl s)).toArray⟩ = Lk.body (Cl.bl s) from rfl] at HSU
  have HB2 := Lib.hid (HB1.out.trans (hb2.mono HB1.out.size))
  have HS2 := Lib.hid hs2
  have HZ2 := Lib.hid hz2
  obtain ⟨m, hm⟩ : ∃ m, (Lk.body (Cl.bl s)).length = m := ⟨_, rfl⟩
  have HM := Lib.hid hm
  rw [hm] at HSU ⊢
  obtain ⟨q, hq⟩ : ∃ q, Lk.sum (Lk.body (Cl.bl s)) = q := ⟨_, rfl⟩
  have HQ := Lib.hid hq
  rw [hq] at HSU
  have HQ2 : Hid (q < 4294967296) := Lib.hid (hq ▸ Lk.sum_lt _)
  clear hr2 hb2 hE2 hs2 hz2 HG hm hq
  go_wp2_with fail
  refine HSU.out.mono ?_
  rintro e w3 ⟨rfl, rfl⟩
  have HHI := Lib.hid (highest_any q HQ2.out w2)
  clear HSU
  go_wp2_with fail
  refine HHI.out.mono ?_
  rintro e w3 ⟨v3, rfl, hr3, hb3⟩
  obtain ⟨v', w4, hap, hr4, hg4, _⟩ := run_app_s w3 w2.heap.size v3 (Lk.hf q) hr3 hb3.size a2 m c2 ⟨(Lk.body (Cl.bl s)).toArray⟩ (by rw [HZ2.out]; exact HM.out.symm) (by rw [HZ2.out]; have := HBL.out; omega) (by rw [Lk.hf_len]; omega) (HS2.out.below hb3)
  have HF : Hid (BRow w4 w.heap.size v' (Lk.frame (Cl.bl s))) := by
    refine Lib.hid ?_
    rw [Lk.frame, HQ.out]
    exact ⟨hr4.1, hr4.2.elim .inl (fun ⟨g, c, cur, e, hg, r⟩ => .inr ⟨g, c, cur, e, Nat.le_trans HB2.out.size hg, r⟩)⟩
  have HB4 : Hid (Below w.heap.size w w4) := Lib.hid ((HB2.out.trans (hb3.mono HB2.out.size)).grown hg4 (Nat.le_trans HB2.out.size hb3.size) (fun k e => Nat.le_trans HB2.out.size (hr3.ge e).1))
  obtain ⟨a3, n3, c3, rfl⟩ := hr3.slice
  clear hr3 hb3 hr4 hg4 HHI
  go_wp2
  go_ret2
  exact ⟨_, rfl, HF.out, HB4.out⟩
set_option maxRecDepth 100000 in
theorem frame_long (a : Option Addr) (n cap : Nat) (hn : 200000 < n) (hm : n ≤ 1000000000) (w : World) :
    Calls Tryd.prog 10 #[.slice a n cap] w fun e w' => e = .returned (.tuple #[.slice none 0 0, .int .i64 3]) ∧ w = w' := by
  go_enter Tryd.func10, Tryd.ntmps10
  go_wp2
  go_ret2
  exact ⟨rfl, rfl⟩
end Go.Proofs.YtdiokcmhpndoeaaDoor
