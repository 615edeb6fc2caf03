
/- link.whole, its payloads handed to the closure tidemill/tidemilllaw04.bent$1: what the closure keeps, behind all of them or behind the first that it stops at. -/
import Derived.Test.YtdiokcmhpndoeaaDoorLkWhole
import Derived.Test.YtdiokcmhpndoeaaDoorLkScan
namespace Go.Proofs.YtdiokcmhpndoeaaDoor
open Go.RowKit
set_option maxRecDepth 100000 in
set_option maxHeartbeats 2000000 in
theorem bent_calls (q0 q1 q2 q3 q4 q5 Bs : Nat) (a : Option Addr) (n cap : Nat) (s : ByteArray) (hn : n = s.size) (hc : n ≤ cap) (hs : s.size ≤ 1000000) (J Jx : List Lk.Giv → World → Prop) (W : World) (hJa : ∀ xs A C, J xs A → Below A.heap.size A C → J xs C)
    (hY : ∀ (pre : List Lk.Giv) (x : Lk.Giv) (kk : Nat) (W1 : World), J pre W1 → x.M W1 → Lk.scanN s pre.length = (pre.map Lk.Giv.it, Lk.lastAt pre) → Lk.one (Cl.behind s (Lk.lastAt pre)) = (x.p, kk, 0) → x.at' = Lk.lastAt pre + kk →
      Calls Tryd.prog 27 #[.int .i64 (x.at' : Int), x.v, .pointer (some ⟨q0, 0, none⟩), .pointer (some ⟨q1, 0, none⟩), .pointer (some ⟨q2, 0, none⟩), .pointer (some ⟨q3, 0, none⟩), .pointer (some ⟨q4, 0, none⟩), .pointer (some ⟨q5, 0, none⟩)] W1 fun e W' => (e = .returned (.bool true) ∧ J (pre ++ [x]) W' ∧ lkKeeps Bs a s.size W1 W') ∨ (e = .returned (.bool false) ∧ Jx (pre ++ [x]) W'))
    (hBs : Blk W Bs 22 #[.slice a n cap]) (hB : BytesS W a s) (hE : LkEnv W) (h0 : J [] W) :
    Calls Tryd.prog 29 #[.func (.func 27) #[] #[.pointer (some ⟨q0, 0, none⟩), .pointer (some ⟨q1, 0, none⟩), .pointer (some ⟨q2, 0, none⟩), .pointer (some ⟨q3, 0, none⟩), .pointer (some ⟨q4, 0, none⟩), .pointer (some ⟨q5, 0, none⟩)], .pointer (some ⟨Bs, 0, none⟩)] W fun e W' => (∃ v, e = .returned v) ∧ ((∃ xs, xs.map Lk.Giv.it = Lk.items s ∧ J xs W') ∨ (∃ xs, Lk.scanN s xs.length = (xs.map Lk.Giv.it, Lk.lastAt xs) ∧ Jx xs W')) := by
  have HB := Lib.hid hB
  have HE := Lib.hid hE
  have HBS := Lib.hid hBs
  have HN := Lib.hid hn
  have HS := Lib.hid hs
  have HJA := Lib.hid hJa
  have HY := Lib.hid hY
  have hnb : n ≤ 1000000 := by omega
  clear hB hE hBs hn hs hJa hY
  go_enter Tryd.func29, Tryd.ntmps29
  go_wp2
  go_loopw [3] (fun i wr => ∃ k at' : Nat, ∃ xs : List Lk.Giv, at' ≤ n ∧ i = .int .i64 at' ∧ Hid (Lk.scanN s k = (xs.map Lk.Giv.it, at') ∧ xs.length = k ∧ J xs wr ∧ lkKeeps Bs a s.size W wr)) (fun i _ => n - (intOf i).toNat)
  case atStart => exact ⟨0, 0, [], Nat.zero_le _, rfl, Lib.hid ⟨rfl, rfl, h0, lkKeeps.refl _ _ _ _⟩⟩
  case round =>
    obtain ⟨k, at', xs, hat, rfl, HI⟩ := hrel
    have hsn := HN.out
    have hKw := HI.out.2.2.2
    have hcell : wr.cell? ⟨Bs, 0, none⟩ = some (.slice a n cap) := (World.cell?_of_block (w := W) (a := ⟨Bs, 0, none⟩) hKw.1).trans (HBS.out.cl 0 _ rfl).1
    have hcut := cut_l a n cap at' hat
    have hBw := hKw.bytes HB.out
    have hEw := HE.out.of hKw.2.2.2 hKw.2.2.1
    have hB1 : BytesS wr (cutAddr a at' cap) (Cl.behind s at') := hBw.cut cap at' s.size (by omega) (by omega) (Nat.le_refl _)
    have hz1 : n - at' = (Cl.behind s at').size := by rw [Cl.behind_size, hsn]
    have HFI := Lib.hid (first_any (cutAddr a at' cap) (n - at') (cap - at') (Cl.behind s at') hz1 (by omega) (by rw [← hz1]; omega) wr hEw hB1)
    have hob := Lk.one_bd (Cl.behind s at')
    rw [← hz1] at hob
    obtain ⟨p, kk, code, ho⟩ : ∃ p kk code, Lk.one (Cl.behind s at') = (p, kk, code) := ⟨_, _, _, rfl⟩
    rw [ho] at HFI hob
    dsimp only at HFI hob
    have HO := Lib.hid ho
    have HEW := Lib.hid hEw
    have HBW := Lib.hid hBw
    have hla : Lk.lastAt xs = at' := by
      have h9 := Lk.scanN_last s k xs (by rw [HI.out.1])
      rw [HI.out.1] at h9
      exact h9.symm
    have HLA := Lib.hid hla
    have hBsl : Bs < wr.heap.size := Nat.lt_of_lt_of_le HBS.out.lt hKw.2.2.2
    generalize cutAddr a at' cap = a1 at hcut HFI
    obtain ⟨n1, hn1⟩ : ∃ n1, n - at' = n1 := ⟨_, rfl⟩
    rw [hn1] at hcut HFI hob
    have hn1b : at' + n1 ≤ n := by omega
    generalize cap - at' = c1 at hcut HFI
    have HOB := Lib.hid hob
    clear hKw hBw hEw hB1 hz1 ho hsn hob hn1 hla
    by_cases hc0 : code = 0
    · subst hc0
      have hkk := HOB.out.1
      have hk5 := (HOB.out.2.2.1 rfl).1
      have hps := (HOB.out.2.2.1 rfl).2.1
      go_wp2_with fail
      refine HFI.out.mono ?_
      rintro e w3 ⟨a3, n3, c3, rfl, hn3, hc3, hB3, hb3⟩
      have HCL := Lib.hid (cloneS_any a3 n3 c3 p hn3 (by omega) w3 (hB3.below hb3))
      have HB3 := Lib.hid hb3
      clear hB3 hb3 hn3 hc3
      go_wp2_with fail
      refine HCL.out.mono ?_
      rintro e w4 ⟨v4, rfl, hr4, hb4⟩
      have hb34 := HB3.out.trans (hb4.mono HB3.out.size)
      have hJ4 := HJA.out _ _ _ HI.out.2.2.1 hb34
      have HYC := Lib.hid (HY.out xs ⟨at' + kk, v4, p⟩ kk w4 hJ4 (hr4.base (Nat.zero_le _)) (by rw [HI.out.2.1, HLA.out]; exact HI.out.1) (by rw [HLA.out]; exact HO.out) (by rw [HLA.out]))
      dsimp only at HYC
      rw [show ((at' + kk : Nat) : Int) = (at' : Int) + (kk : Int) by omega] at HYC
      have HB4 := Lib.hid hb34
      obtain ⟨av4, nv4, cv4, rfl⟩ := hr4.slice
      clear hr4 hb4 hb34 hJ4 HCL
      go_wp2_with fail
      refine HYC.out.mono ?_
      rintro e w5 (⟨rfl, hJ5, hK5⟩ | ⟨rfl, hJx⟩)
      · have HN2 : Hid (Lk.scanN s (k + 1) = ((xs ++ [(⟨at' + kk, .slice av4 nv4 cv4, p⟩ : Lk.Giv)]).map Lk.Giv.it, at' + kk) ∧ (xs ++ [(⟨at' + kk, .slice av4 nv4 cv4, p⟩ : Lk.Giv)]).length = k + 1 ∧ J (xs ++ [⟨at' + kk, .slice av4 nv4 cv4, p⟩]) w5 ∧ lkKeeps Bs a s.size W w5) := by
          refine Lib.hid ⟨?_, by rw [List.length_append, HI.out.2.1]; rfl, hJ5, (HI.out.2.2.2.trans (lkKeeps.below HB4.out hBsl HBW.out HEW.out)).trans hK5⟩
          rw [Lk.scanN_step HI.out.1 HO.out, List.map_append]
          rfl
        go_wp2
        go_roundw
        case rel => exact ⟨k + 1, at' + kk, _, by omega, by simp, HN2⟩
        case measure => simp [intOf]; omega
      · have HX : Hid (Lk.scanN s (xs ++ [(⟨at' + kk, .slice av4 nv4 cv4, p⟩ : Lk.Giv)]).length = ((xs ++ [(⟨at' + kk, .slice av4 nv4 cv4, p⟩ : Lk.Giv)]).map Lk.Giv.it, Lk.lastAt (xs ++ [(⟨at' + kk, .slice av4 nv4 cv4, p⟩ : Lk.Giv)]))) := by
          refine Lib.hid ?_
          rw [List.length_append, HI.out.2.1, Lk.lastAt_snoc, List.map_append]
          exact Lk.scanN_step HI.out.1 HO.out
        go_wp2
        refine bodyPost_ret (results_none rfl _ _ _) rfl ?_
        exact ⟨⟨_, rfl⟩, .inr ⟨_, HX.out, hJx⟩⟩
    · have hc1 : (code : Int) ≠ 0 := by omega
      have hc2 : ((code : Int) != 0) = true := by simpa using hc1
      obtain ⟨rfl, rfl⟩ := HOB.out.2.2.2 hc0
      go_wp2_with fail
      refine HFI.out.mono ?_
      rintro e w3 ⟨a3, n3, c3, rfl, hn3, hc3, hB3, hb3⟩
      have HB3 := Lib.hid hb3
      clear hn3 hc3 hB3 hb3
      go_wp2
      refine bodyPost_ret (results_none rfl _ _ _) rfl ?_
      refine ⟨⟨_, rfl⟩, .inl ⟨xs, ?_, HJA.out _ _ _ HI.out.2.2.1 HB3.out⟩⟩
      exact (Lk.done HI.out.1 (by rw [List.length_map]; exact HI.out.2.1) (by rw [HO.out]; exact hc0)).1.symm
end Go.Proofs.YtdiokcmhpndoeaaDoor
