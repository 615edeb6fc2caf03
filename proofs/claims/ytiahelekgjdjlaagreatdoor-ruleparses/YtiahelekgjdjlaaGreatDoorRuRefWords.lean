
/- What the document's own words answers: names, no two alike, so many. -/
import Derived.Test.YtiahelekgjdjlaaGreatDoorGsI
import Derived.Test.YtiahelekgjdjlaaGreatDoorGsF
import Derived.Test.YtiahelekgjdjlaaGreatDoorGsG
namespace Go.Proofs.YtiahelekgjdjlaaGreatDoor
open Go.RowKit Go.Shelf
open Dp Gb
attribute [local go_sem] Oper.semAt_some
namespace Ru
theorem cont_snoc {l : List (List UInt8)} {x z : List UInt8} {k : Nat} (h : l[k]? = some z) : (l.take (k + 1)).contains x = ((l.take k).contains x || x == z) := by
  obtain ⟨hk, rfl⟩ := List.getElem?_eq_some_iff.1 h
  rw [List.take_succ_eq_append_getElem hk, Bool.eq_iff_iff]
  simp only [List.contains_iff_mem, List.mem_append, List.mem_singleton, Bool.or_eq_true, beq_iff_eq]
set_option maxHeartbeats 1000000 in
theorem refHasT_any (v : Value) (l : List (List UInt8)) (x : List UInt8) (w : World) (hv : RdT w v l) (hl : l.length ≤ 100000) :
    Calls Tryz.prog 80 #[v, .string (B x)] w fun e w' => e = .returned (.bool (l.contains x)) ∧ w' = w := by
  obtain ⟨a, c, rfl, hc, hat⟩ := hv.at
  obtain ⟨n, hn⟩ : ∃ n, l.length = n := ⟨_, rfl⟩
  have HAT := Lib.hid hat
  have HN := Lib.hid hn
  rw [hn]
  rw [hn] at hl
  clear hv hc hat hn
  go_enter Tryz.func80, Tryz.ntmps80
  go_wp2
  go_loopw [5, 8] (fun _ i wr => ∃ k : Nat, k ≤ n ∧ i = .int .i64 (k : Int) ∧ Hid ((l.take k).contains x = false ∧ wr = w)) (fun _ i _ => n - (intOf i).toNat)
  case atStart => exact ⟨0, Nat.zero_le _, rfl, by simp, rfl⟩
  case round =>
    obtain ⟨k, hk, rfl, HK⟩ := hrel
    obtain rfl := HK.out.2
    by_cases hlt : k < n
    · obtain ⟨b, o, rfl, hcs⟩ := HAT.out (by rw [HN.out]; omega)
      obtain ⟨y, hy⟩ : ∃ p, l[k]? = some p := ⟨_, List.getElem?_eq_getElem (by rw [HN.out]; exact hlt)⟩
      have p1 : wr.cell? ⟨b, o + k, none⟩ = some (.string (B y)) := hcs k y hy
      have HS : Hid ((l.take (k + 1)).contains x = (x == y)) := by
        show _ = _
        rw [cont_snoc hy, HK.out.1, Bool.false_or]
      have hq0 : ((B y).toList == (B x).toList) = (x == y) := by
        rw [Lib.toList_data, Lib.toList_data]
        show (y == x) = (x == y)
        rw [Bool.eq_iff_iff, beq_iff_eq, beq_iff_eq]
        exact ⟨Eq.symm, Eq.symm⟩
      have HY : Hid ((x == y) = true → l.contains x = true) := fun h => by
        rw [List.contains_iff_mem]
        obtain rfl := eq_of_beq h
        exact List.mem_of_getElem? hy
      have hkn : (k : Int) < (n : Int) := by omega
      generalize (x == y) = g at HS hq0 HY
      generalize B y = ys at p1 hq0
      generalize B x = xs at hq0 ⊢
      clear hcs HAT HK hy
      cases g with
      | true =>
        have HR : Hid (l.contains x = true) := HY.out rfl
        clear HY HS
        go_wp2
        go_ret
        exact ⟨by rw [HR.out]; rfl, rfl⟩
      | false =>
        clear HY
        go_wp2
        go_roundw
        case rel => exact ⟨k + 1, by omega, by go_num, HS.out, trivial⟩
        case measure => simp [intOf]; omega
    · obtain rfl : k = n := by omega
      have HR : Hid (l.contains x = false) := by
        have := HK.out.1
        rw [List.take_of_length_le (by rw [HN.out]; exact Nat.le_refl _)] at this
        exact this
      clear HK HAT
      go_wp2
      go_ret
      exact ⟨by rw [HR.out]; rfl, rfl⟩
set_option maxRecDepth 100000 in
set_option maxHeartbeats 4000000 in
theorem refWords_any (v : Value) (l : List (List UInt8)) (lo hi : Int) (w : World) (hF : FitT l) (hv : RdT w v l) (hl : l.length ≤ 100000) :
    Calls Tryz.prog 53 #[v, .int .i64 lo, .int .i64 hi] w fun e w' => e = .returned (.bool (apart l && (decide (lo ≤ (l.length : Int)) && decide ((l.length : Int) ≤ hi)))) ∧ ∃ q, w' = w.drewN q := by
  obtain ⟨a, c, rfl, hc, hat⟩ := hv.at
  obtain ⟨n, hn⟩ : ∃ n, l.length = n := ⟨_, rfl⟩
  have HAT := Lib.hid hat
  have HL := Lib.hid hn
  have HV := Lib.hid hv
  have HF := Lib.hid hF
  have HAP : Hid (apart l = (List.range n).all (tgAt l)) := by show _ = _; unfold apart; rw [hn]
  rw [hn] at hl hc ⊢
  rw [hn] at HV
  clear hv hat hn hF
  obtain ⟨res, hres⟩ : ∃ r, (apart l && (decide (lo ≤ (n : Int)) && decide ((n : Int) ≤ hi))) = r := ⟨_, rfl⟩
  have HRES := Lib.hid hres
  rw [hres]
  clear hres
  go_enter Tryz.func53, Tryz.ntmps53
  go_wp2
  go_loopw [10] (fun i wr => ∃ k : Nat, k ≤ n ∧ i = .int .i64 (k : Int) ∧ Hid ((List.range k).all (tgAt l) = true ∧ Dw w wr)) (fun i _ => n - (intOf i).toNat)
  case atStart => exact ⟨0, Nat.zero_le _, rfl, rfl, Dw.refl _⟩
  case round =>
    obtain ⟨k, hk, rfl, HR⟩ := hrel
    have HR1 := Lib.hid HR.out.1
    have HD := Lib.hid HR.out.2
    clear HR
    by_cases hlt : k < n
    · obtain ⟨b, o, rfl, hcs⟩ := HAT.out (by rw [HL.out]; omega)
      obtain ⟨x, hx⟩ : ∃ x, l[k]? = some x := ⟨_, List.getElem?_eq_getElem (by rw [HL.out]; exact hlt)⟩
      have q0 : wr.cell? ⟨b, o + k, none⟩ = some (.string (B x)) := (HD.out.cell _).trans (hcs k x hx)
      have H1 := fun w1 => Lib.hid (Y2.refWord_any (B x) w1 (by rw [B_size]; exact HF.out.at hx))
      obtain ⟨x', hsl, hes⟩ := HV.out.take layT k (by omega)
      have HC := fun q => Lib.hid (refHasT_any x' (l.take k) x (wr.drewN q) (hes.below (HD.out.more q).below) (by rw [List.length_take]; omega))
      have HTG : Hid (tgAt l k = (Tg.wordB x && !(l.take k).contains x)) := by show _ = _; unfold tgAt; rw [hx]
      have HT := fun h1 => Lib.hid (allR_next (p := tgAt l) HR1.out h1)
      have HX := fun h1 => Lib.hid (allR_not (p := tgAt l) hlt h1)
      generalize tgAt l k = mo at HT HX HTG
      simp only at H1
      generalize Tg.wordB x = d1 at HTG H1
      generalize (l.take k).contains x = d2 at HTG HC
      obtain ⟨ax, nx, cx, rfl⟩ : ∃ a n c, x' = .slice a n c := by
        obtain ⟨a', c', e, _⟩ := hes
        exact ⟨_, _, _, e⟩
      have hin : k ≤ n := by omega
      have ikn : (k : Int) < (n : Int) := by omega
      obtain ⟨xs, hxs⟩ : ∃ xs, B x = xs := ⟨_, rfl⟩
      simp only [hxs] at q0 H1 HC
      obtain rfl := HTG.out
      clear hx hxs HTG hcs HAT HR1 hes HV
      cases d1 with
      | false =>
        have HZ : Hid (res = false) := by show _ = _; rw [← HRES.out, HAP.out, (HX rfl).out, Bool.false_and]
        clear HX HT HF HC HAP HRES
        go_wp2
        go_quiet (((go_at_call 19; exact Calls.quiet_of (H1 _).out)))
        go_wp2
        go_ret
        exact ⟨by rw [HZ.out]; rfl, HD.out.more _⟩
      | true =>
        cases d2 with
        | true =>
          have HZ : Hid (res = false) := by show _ = _; rw [← HRES.out, HAP.out, (HX rfl).out, Bool.false_and]
          clear HX HT HF HAP HRES
          go_wp2
          go_quiet ((first | (go_at_call 19; exact Calls.quiet_of (H1 _).out) | (go_at_call 80; exact Calls.quiet_of_same (HC _).out)))
          go_wp2
          go_ret
          exact ⟨by rw [HZ.out]; rfl, HD.out.more _⟩
        | false =>
          have HT' := HT rfl
          clear HX HT HF HAP HRES
          go_wp2
          go_quiet ((first | (go_at_call 19; exact Calls.quiet_of (H1 _).out) | (go_at_call 80; exact Calls.quiet_of_same (HC _).out)))
          go_wp2
          go_roundw
          case rel => exact ⟨k + 1, by omega, by go_num, HT'.out, HD.out.more _⟩
          case measure => simp [intOf]; omega
    · obtain rfl : k = n := by omega
      have HAL : Hid (apart l = true) := by show _ = _; rw [HAP.out, HR1.out]
      by_cases h1 : lo ≤ (k : Int)
      · by_cases h2 : (k : Int) ≤ hi
        · have HZ : Hid (res = true) := by show _ = _; rw [← HRES.out, HAL.out, decide_eq_true h1, decide_eq_true h2]; rfl
          clear HF HAT HV HAP HR1 HRES HAL
          go_wp2
          go_ret
          exact ⟨by rw [HZ.out]; rfl, HD.out⟩
        · have HZ : Hid (res = false) := by show _ = _; rw [← HRES.out, HAL.out, decide_eq_true h1, decide_eq_false h2]; rfl
          clear HF HAT HV HAP HR1 HRES HAL
          go_wp2
          go_ret
          exact ⟨by rw [HZ.out]; rfl, HD.out⟩
      · have HZ : Hid (res = false) := by show _ = _; rw [← HRES.out, HAL.out, decide_eq_false h1]; rfl
        clear HF HAT HV HAP HR1 HRES HAL
        go_wp2
        go_ret
        exact ⟨by rw [HZ.out]; rfl, HD.out⟩
end Ru
end Go.Proofs.YtiahelekgjdjlaaGreatDoor
