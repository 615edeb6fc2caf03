
/- Where the document's own Policy finds a name. -/
import Derived.Test.YtiahelekgjdjlaaGreatDoorGsI
import Derived.Test.YtiahelekgjdjlaaGreatDoorGsG
namespace Go.Proofs.YtiahelekgjdjlaaGreatDoor
open Go.RowKit Go.Shelf
open Dp Gb
attribute [local go_sem] Oper.semAt_some
namespace Ru
theorem idxT_step {l : List (List UInt8)} {x z : List UInt8} {k : Nat} (h : l[k]? = some z) : idxT (l.drop k) x k = if z = x then (k : Int) else idxT (l.drop (k + 1)) x (k + 1) := by
  obtain ⟨hk, rfl⟩ := List.getElem?_eq_some_iff.1 h
  rw [List.drop_eq_getElem_cons hk]
  rfl
set_option maxRecDepth 100000 in
set_option maxHeartbeats 4000000 in
theorem refPolicy_any (v : Value) (l : List Pol) (x : List UInt8) (w : World) (hv : RdP w v l) (hl : l.length ≤ 100000) :
    Calls Tryz.prog 23 #[v, .string (B x)] w fun e w' => e = .returned (.int .i64 (idxT (names l) x 0)) ∧ w = w' := by
  obtain ⟨a, c, rfl, hc, hat⟩ := RdP.at hv
  obtain ⟨n, hn⟩ : ∃ n, l.length = n := ⟨_, rfl⟩
  have HAT := Lib.hid hat
  have HN := Lib.hid hn
  rw [hn]
  rw [hn] at hl
  clear hv hc hat hn
  have HX : Hid (idxT (names l) x 0 = idxT ((names l).drop 0) x 0) := rfl
  go_enter Tryz.func23, Tryz.ntmps23
  go_wp2
  go_loopw [8] (fun i wr => ∃ k : Nat, k ≤ n ∧ i = .int .i64 (k : Int) ∧ Hid (idxT (names l) x 0 = idxT ((names l).drop k) x k ∧ w = wr)) (fun i _ => n - (intOf i).toNat)
  case atStart => exact ⟨0, Nat.zero_le _, rfl, HX.out, rfl⟩
  case round =>
    obtain ⟨k, hk, rfl, HK⟩ := hrel
    obtain rfl := HK.out.2
    by_cases hlt : k < n
    · obtain ⟨b, o, rfl, hcs⟩ := HAT.out (by rw [HN.out]; omega)
      obtain ⟨p, hp⟩ : ∃ p, l[k]? = some p := ⟨_, List.getElem?_eq_getElem (by rw [HN.out]; exact hlt)⟩
      have q0 : w.cell? ⟨b, o + k * 5, none⟩ = some (.string (B p.name)) := hcs k p hp 0 _ rfl
      have HS := Lib.hid (idxT_step (x := x) (names_at hp))
      have ikn : (k : Int) < (n : Int) := by omega
      by_cases he : p.name = x
      · have HR : Hid (idxT (names l) x 0 = (k : Int)) := by
          show _ = _
          rw [HK.out.1, HS.out, if_pos he]
        rw [he] at q0
        generalize B x = xs at q0 ⊢
        clear HX HK HS hcs hp he HAT
        go_wp2
        go_ret
        exact ⟨by rw [HR.out]; rfl, rfl⟩
      · have HR : Hid (idxT (names l) x 0 = idxT ((names l).drop (k + 1)) x (k + 1)) := by
          show _ = _
          rw [HK.out.1, HS.out, if_neg he]
        have hne : ((B p.name).toList == (B x).toList) = false := by
          rw [Lib.toList_data, Lib.toList_data]
          simpa using he
        generalize B x = xs at hne ⊢
        generalize B p.name = ys at hne q0
        clear HX HK HS hcs hp he HAT
        go_wp2
        go_roundw
        case rel => exact ⟨k + 1, by omega, by go_num, HR.out, trivial⟩
        case measure => simp [intOf]; omega
    · obtain rfl : k = n := by omega
      have HR : Hid (idxT (names l) x 0 = -1) := by
        show _ = _
        rw [HK.out.1, List.drop_eq_nil_of_le (by rw [names_len, HN.out]; exact Nat.le_refl _)]
        rfl
      clear HX HK HAT
      go_wp2
      go_ret
      exact ⟨by rw [HR.out]; rfl, rfl⟩
end Ru
end Go.Proofs.YtiahelekgjdjlaaGreatDoor
