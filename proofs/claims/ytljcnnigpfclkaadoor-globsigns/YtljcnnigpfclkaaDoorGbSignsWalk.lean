
/- GlobSigns: the walk of the law, for any three texts. Condition: internal/bytealg.MaxLen holds some int. -/
import Derived.Test.YtljcnnigpfclkaaDoorGbGoodWalk
import Derived.Test.YtljcnnigpfclkaaDoorGbSignsMath
namespace Go.Proofs.YtljcnnigpfclkaaDoor
open Go.RowKit Go.Shelf
open Dp
namespace Gb
set_option maxRecDepth 2000000 in
set_option maxHeartbeats 16000000 in
theorem globSigns_walk (x0 x1 x2 : ByteArray) (w : World) (hE : EnvC w) (h0 : x0.size ≤ maxLen) (h1 : x1.size ≤ maxLen) (h2 : x2.size ≤ maxLen) :
    Calls Tryd.prog 6 #[.string x0, .string x1, .string x2] w fun e w' => e = .returned (.bool true) ∧ Below w.heap.size w w' := by
  obtain ⟨p, rfl⟩ : ∃ p, x0 = B p := ⟨_, (B_data x0).symm⟩
  obtain ⟨s, rfl⟩ : ∃ s, x1 = B s := ⟨_, (B_data x1).symm⟩
  obtain ⟨m, rfl⟩ : ∃ m, x2 = B m := ⟨_, (B_data x2).symm⟩
  have HA := Lib.hid (fun w hE => awake_any w hE)
  have HG2 := Lib.hid (fun w => refGood_any p w h0)
  have HZ : Hid ((B p).size = p.length ∧ (B s).size = s.length ∧ (B m).size = m.length) := ⟨B_size p, B_size s, B_size m⟩
  have hS : Hid (St w w) := ⟨hE, Below.refl _ _⟩
  obtain ⟨g, hg⟩ : ∃ g, goodR p = g := ⟨_, rfl⟩
  rw [hg] at HG2
  by_cases hin : g = true ∧ p.length ≤ 38 ∧ s.length ≤ 200 ∧ m.length ≤ 200
  · obtain ⟨rfl, hp38, hs200, hm200⟩ := hin
    have hgp : goodP p = true := (good_same p).trans hg
    obtain ⟨r, hr⟩ : ∃ r, MM (pcs p) s = r := ⟨_, rfl⟩
    have HPp := Lib.hid (fun w hE => plainP_any p w hE h0)
    have HPs := Lib.hid (fun w hE => plainP_any s w hE h1)
    have HMps := Lib.hid (fun w hE => match_any p s w hE hgp (by omega))
    rw [hr] at HMps
    have HMs : Hid (∀ w, EnvC w → Calls Tryd.prog 16 #[.string ⟨#[42]⟩, .string (B s)] w fun e w' => e = .returned (.bool true) ∧ Below w.heap.size w w') := fun w hE => by
      have := match_any [42] s w hE (by kernel_rfl) (by omega)
      rw [show pcs [42] = [[42]] from rfl, MM_end_star] at this
      exact this
    have HM1 : Hid (r = true → ∀ w, EnvC w → Calls Tryd.prog 16 #[.string (B (p ++ [42])), .string (B (s ++ m))] w fun e w' => e = .returned (.bool true) ∧ Below w.heap.size w w') := fun h w hE => by
      have hgs := good_snoc hgp (by omega)
      have := match_any (p ++ [42]) (s ++ m) w hE hgs.1 (by rw [List.length_append]; omega)
      rw [hgs.2, MM_snoc _ _ _ (hr.trans h)] at this
      exact this
    have HM2 : Hid (r = true → ∀ w, EnvC w → Calls Tryd.prog 16 #[.string (B ([42] ++ p)), .string (B (m ++ s))] w fun e w' => e = .returned (.bool true) ∧ Below w.heap.size w w') := fun h w hE => by
      have := match_any ([42] ++ p) (m ++ s) w hE (good_cons hgp (by omega)).1 (by rw [List.length_append]; omega)
      rw [show pcs ([42] ++ p) = [42] :: pcs p from pcs_star p, MM_ahead m (hr.trans h)] at this
      exact this
    have HMq : Hid (∀ w, EnvC w → Calls Tryd.prog 16 #[.string (B ([63] ++ p)), .string (B ([120] ++ s))] w fun e w' => e = .returned (.bool r) ∧ Below w.heap.size w w') := fun w hE => by
      have := match_any ([63] ++ p) ([120] ++ s) w hE (good_cons hgp (by omega)).2 (by rw [List.length_append]; simp; omega)
      rw [show pcs ([63] ++ p) = [63] :: pcs p from pcs_any p, show ([120] ++ s : List UInt8) = 120 :: s from rfl, MM_any, hr] at this
      exact this
    have HMq0 : Hid (∀ w, EnvC w → Calls Tryd.prog 16 #[.string (B ([63] ++ p)), .string ⟨#[]⟩] w fun e w' => e = .returned (.bool false) ∧ Below w.heap.size w w') := fun w hE => by
      have := match_any ([63] ++ p) [] w hE (good_cons hgp (by omega)).2 (by simp)
      rw [show pcs ([63] ++ p) = [63] :: pcs p from pcs_any p, MM_any_nil] at this
      exact this
    have HMz : Hid (plainL s = true → s.length ≤ 30 → ∀ w, EnvC w → Calls Tryd.prog 16 #[.string (B ([123, 122, 122, 44] ++ s ++ [125])), .string (B s)] w fun e w' => e = .returned (.bool true) ∧ Below w.heap.size w w') := fun h h30 w hE => by
      have hc := choice_two h h30
      have := match_any _ s w hE hc.1 (by omega)
      rw [hc.2] at this
      exact this
    have HPQ : Hid (plainL p = true → (p == s) = r ∧ ∀ w, EnvC w → Calls Tryd.prog 16 #[.string (B p), .string (B p)] w fun e w' => e = .returned (.bool true) ∧ Below w.heap.size w w') := fun h => by
      refine ⟨(plain_pcs h hgp s).symm.trans hr, fun w hE => ?_⟩
      have := match_any p p w hE hgp (by omega)
      rw [plain_pcs h hgp p, beq_self_eq_true] at this
      exact this
    have hqe : ((B p).toList == (B s).toList) = (p == s) := eq_toL p s
    -- what is put together
    have y1 : B p ++ (⟨#[42]⟩ : ByteArray) = B (p ++ [42]) := B_add p [42]
    have y2 : B s ++ B m = B (s ++ m) := B_add s m
    have y3 : (⟨#[42]⟩ : ByteArray) ++ B p = B ([42] ++ p) := B_add [42] p
    have y4 : B m ++ B s = B (m ++ s) := B_add m s
    have y5 : (⟨#[123, 122, 122, 44]⟩ : ByteArray) ++ B s = B ([123, 122, 122, 44] ++ s) := B_add [123, 122, 122, 44] s
    have y6 : B ([123, 122, 122, 44] ++ s) ++ (⟨#[125]⟩ : ByteArray) = B ([123, 122, 122, 44] ++ s ++ [125]) := B_add _ [125]
    have y7 : (⟨#[63]⟩ : ByteArray) ++ B p = B ([63] ++ p) := B_add [63] p
    have y8 : (⟨#[120]⟩ : ByteArray) ++ B s = B ([120] ++ s) := B_add [120] s
    have zp : (B p).size ≤ 38 := by rw [B_size]; exact hp38
    have zs : (B s).size ≤ 200 := by rw [B_size]; exact hs200
    have zm : (B m).size ≤ 200 := by rw [B_size]; exact hm200
    have zz : (B ([123, 122, 122, 44] ++ s)).size ≤ 204 := by rw [B_size, List.length_append]; simp; omega
    have ip : ¬ (38 : Int) < ((B p).size : Int) := by omega
    have is' : ¬ (200 : Int) < ((B s).size : Int) := by omega
    have im : ¬ (200 : Int) < ((B m).size : Int) := by omega
    obtain ⟨pP, hpP⟩ : ∃ pP, plainL p = pP := ⟨_, rfl⟩
    obtain ⟨pS, hpS⟩ : ∃ pS, plainL s = pS := ⟨_, rfl⟩
    rw [hpP] at HPp HPQ
    rw [hpS] at HPs HMz
    rw [decide_eq_true (show p.length ≤ 40 by omega), Bool.and_true] at HPp
    obtain ⟨c40, hc40⟩ : ∃ c, decide (s.length ≤ 40) = c := ⟨_, rfl⟩
    rw [hc40] at HPs
    have HC40 : Hid (s.length ≤ 30 → c40 = true) := fun h => by rw [← hc40]; exact decide_eq_true (by omega)
    obtain ⟨eqv, heqv⟩ : ∃ eqv, (p == s) = eqv := ⟨_, rfl⟩
    rw [heqv] at hqe HPQ
    obtain ⟨l30, hl30⟩ : ∃ c, decide (s.length ≤ 30) = c := ⟨_, rfl⟩
    have i30 : decide (((B s).size : Int) ≤ 30) = l30 := by rw [← hl30, B_size, Bool.eq_iff_iff]; simp only [decide_eq_true_eq]; omega
    have HMz' : Hid (pS = true → l30 = true → ∀ w, EnvC w → Calls Tryd.prog 16 #[.string (B ([123, 122, 122, 44] ++ s ++ [125])), .string (B s)] w fun e w' => e = .returned (.bool true) ∧ Below w.heap.size w w') := fun h h30 => HMz.out h (of_decide_eq_true (hl30.trans h30))
    have HC40' : Hid (l30 = true → c40 = true) := fun h => HC40.out (of_decide_eq_true (hl30.trans h))
    generalize B (p ++ [42]) = pst at y1 HM1
    generalize B (s ++ m) = smo at y2 HM1
    generalize B ([42] ++ p) = stp at y3 HM2
    generalize B (m ++ s) = mos at y4 HM2
    generalize B ([123, 122, 122, 44] ++ s ++ [125]) = z2 at y6 HMz'
    generalize B ([123, 122, 122, 44] ++ s) = z1 at y5 y6 zz
    generalize B ([63] ++ p) = qp at y7 HMq HMq0
    generalize B ([120] ++ s) = xs at y8 HMq
    generalize B p = pb at HPp HMps HPQ hqe y1 y3 y7 zp ip HG2 ⊢
    generalize B s = sb at HPs HMps HMs HMz' hqe y2 y4 y5 y8 zs is' i30 ⊢
    generalize B m = mb at y2 y4 zm im ⊢
    clear h0 h1 h2 HZ hg hp38 hs200 hm200 hgp hr hpP hpS hc40 heqv hl30 HMz HC40 hE
    have HPs' : Hid (∀ w, EnvC w → Calls Tryd.prog 10 #[.string sb] w fun e w' => e = .returned (.bool (pS && c40)) ∧ Below w.heap.size w w') := HPs
    have HMz2 : Hid ((pS && c40) = true → l30 = true → ∀ w, EnvC w → Calls Tryd.prog 16 #[.string z2, .string sb] w fun e w' => e = .returned (.bool true) ∧ Below w.heap.size w w') := fun h h30 => by
      rw [Bool.and_eq_true] at h
      exact HMz'.out h.1 h30
    clear HPs HMz' HC40'
    generalize (pS && c40) = vS at HPs' HMz2
    have HPs := HPs'
    clear HPs'
    cases pP with
    | false =>
      clear HPQ hqe
      cases r with
      | false =>
        clear HM1 HM2
        cases vS with
        | false =>
          clear HMz2
          as_aux_lemma =>
          go_enter Tryd.func6, Tryd.ntmps6
          go_wp2_with (first
            | (go_at_call 7; with_reducible refine (HA.out _ hS.out.env).mono ?_; rintro e w9 ⟨rfl, hb⟩; have hS := Lib.hid (hS.out.next hb); clear hb)
            | (go_at_call 9; with_reducible refine (HG2.out _).mono ?_; rintro e w9 ⟨rfl, hb⟩; have hS := Lib.hid (hS.out.next hb); clear hb)
            | (go_at_call 10; with_reducible refine (HPp.out _ hS.out.env).mono ?_; rintro e w9 ⟨rfl, hb⟩; have hS := Lib.hid (hS.out.next hb); clear hb)
            | (go_at_call 10; with_reducible refine (HPs.out _ hS.out.env).mono ?_; rintro e w9 ⟨rfl, hb⟩; have hS := Lib.hid (hS.out.next hb); clear hb)
            | (go_at_call 16; with_reducible refine (HMps.out _ hS.out.env).mono ?_; rintro e w9 ⟨rfl, hb⟩; have hS := Lib.hid (hS.out.next hb); clear hb)
            | (go_at_call 16; with_reducible refine (HMs.out _ hS.out.env).mono ?_; rintro e w9 ⟨rfl, hb⟩; have hS := Lib.hid (hS.out.next hb); clear hb)
            | (go_at_call 16; with_reducible refine (HMpp.out _ hS.out.env).mono ?_; rintro e w9 ⟨rfl, hb⟩; have hS := Lib.hid (hS.out.next hb); clear hb)
            | (go_at_call 16; with_reducible refine (HM1c.out _ hS.out.env).mono ?_; rintro e w9 ⟨rfl, hb⟩; have hS := Lib.hid (hS.out.next hb); clear hb)
            | (go_at_call 16; with_reducible refine (HM2c.out _ hS.out.env).mono ?_; rintro e w9 ⟨rfl, hb⟩; have hS := Lib.hid (hS.out.next hb); clear hb)
            | (go_at_call 16; with_reducible refine (HMzc.out _ hS.out.env).mono ?_; rintro e w9 ⟨rfl, hb⟩; have hS := Lib.hid (hS.out.next hb); clear hb)
            | (go_at_call 16; with_reducible refine (HMq.out _ hS.out.env).mono ?_; rintro e w9 ⟨rfl, hb⟩; have hS := Lib.hid (hS.out.next hb); clear hb)
            | (go_at_call 16; with_reducible refine (HMq0.out _ hS.out.env).mono ?_; rintro e w9 ⟨rfl, hb⟩; have hS := Lib.hid (hS.out.next hb); clear hb))
          go_ret
          exact ⟨by first | rfl | simp, hS.out.below⟩
        | true =>
          cases l30 with
          | false =>
            clear HMz2
            as_aux_lemma =>
            go_enter Tryd.func6, Tryd.ntmps6
            go_wp2_with (first
              | (go_at_call 7; with_reducible refine (HA.out _ hS.out.env).mono ?_; rintro e w9 ⟨rfl, hb⟩; have hS := Lib.hid (hS.out.next hb); clear hb)
              | (go_at_call 9; with_reducible refine (HG2.out _).mono ?_; rintro e w9 ⟨rfl, hb⟩; have hS := Lib.hid (hS.out.next hb); clear hb)
              | (go_at_call 10; with_reducible refine (HPp.out _ hS.out.env).mono ?_; rintro e w9 ⟨rfl, hb⟩; have hS := Lib.hid (hS.out.next hb); clear hb)
              | (go_at_call 10; with_reducible refine (HPs.out _ hS.out.env).mono ?_; rintro e w9 ⟨rfl, hb⟩; have hS := Lib.hid (hS.out.next hb); clear hb)
              | (go_at_call 16; with_reducible refine (HMps.out _ hS.out.env).mono ?_; rintro e w9 ⟨rfl, hb⟩; have hS := Lib.hid (hS.out.next hb); clear hb)
              | (go_at_call 16; with_reducible refine (HMs.out _ hS.out.env).mono ?_; rintro e w9 ⟨rfl, hb⟩; have hS := Lib.hid (hS.out.next hb); clear hb)
              | (go_at_call 16; with_reducible refine (HMpp.out _ hS.out.env).mono ?_; rintro e w9 ⟨rfl, hb⟩; have hS := Lib.hid (hS.out.next hb); clear hb)
              | (go_at_call 16; with_reducible refine (HM1c.out _ hS.out.env).mono ?_; rintro e w9 ⟨rfl, hb⟩; have hS := Lib.hid (hS.out.next hb); clear hb)
              | (go_at_call 16; with_reducible refine (HM2c.out _ hS.out.env).mono ?_; rintro e w9 ⟨rfl, hb⟩; have hS := Lib.hid (hS.out.next hb); clear hb)
              | (go_at_call 16; with_reducible refine (HMzc.out _ hS.out.env).mono ?_; rintro e w9 ⟨rfl, hb⟩; have hS := Lib.hid (hS.out.next hb); clear hb)
              | (go_at_call 16; with_reducible refine (HMq.out _ hS.out.env).mono ?_; rintro e w9 ⟨rfl, hb⟩; have hS := Lib.hid (hS.out.next hb); clear hb)
              | (go_at_call 16; with_reducible refine (HMq0.out _ hS.out.env).mono ?_; rintro e w9 ⟨rfl, hb⟩; have hS := Lib.hid (hS.out.next hb); clear hb))
            go_ret
            exact ⟨by first | rfl | simp, hS.out.below⟩
          | true =>
            have HMzc := Lib.hid (HMz2.out rfl rfl)
            clear HMz2
            as_aux_lemma =>
            go_enter Tryd.func6, Tryd.ntmps6
            go_wp2_with (first
              | (go_at_call 7; with_reducible refine (HA.out _ hS.out.env).mono ?_; rintro e w9 ⟨rfl, hb⟩; have hS := Lib.hid (hS.out.next hb); clear hb)
              | (go_at_call 9; with_reducible refine (HG2.out _).mono ?_; rintro e w9 ⟨rfl, hb⟩; have hS := Lib.hid (hS.out.next hb); clear hb)
              | (go_at_call 10; with_reducible refine (HPp.out _ hS.out.env).mono ?_; rintro e w9 ⟨rfl, hb⟩; have hS := Lib.hid (hS.out.next hb); clear hb)
              | (go_at_call 10; with_reducible refine (HPs.out _ hS.out.env).mono ?_; rintro e w9 ⟨rfl, hb⟩; have hS := Lib.hid (hS.out.next hb); clear hb)
              | (go_at_call 16; with_reducible refine (HMps.out _ hS.out.env).mono ?_; rintro e w9 ⟨rfl, hb⟩; have hS := Lib.hid (hS.out.next hb); clear hb)
              | (go_at_call 16; with_reducible refine (HMs.out _ hS.out.env).mono ?_; rintro e w9 ⟨rfl, hb⟩; have hS := Lib.hid (hS.out.next hb); clear hb)
              | (go_at_call 16; with_reducible refine (HMpp.out _ hS.out.env).mono ?_; rintro e w9 ⟨rfl, hb⟩; have hS := Lib.hid (hS.out.next hb); clear hb)
              | (go_at_call 16; with_reducible refine (HM1c.out _ hS.out.env).mono ?_; rintro e w9 ⟨rfl, hb⟩; have hS := Lib.hid (hS.out.next hb); clear hb)
              | (go_at_call 16; with_reducible refine (HM2c.out _ hS.out.env).mono ?_; rintro e w9 ⟨rfl, hb⟩; have hS := Lib.hid (hS.out.next hb); clear hb)
              | (go_at_call 16; with_reducible refine (HMzc.out _ hS.out.env).mono ?_; rintro e w9 ⟨rfl, hb⟩; have hS := Lib.hid (hS.out.next hb); clear hb)
              | (go_at_call 16; with_reducible refine (HMq.out _ hS.out.env).mono ?_; rintro e w9 ⟨rfl, hb⟩; have hS := Lib.hid (hS.out.next hb); clear hb)
              | (go_at_call 16; with_reducible refine (HMq0.out _ hS.out.env).mono ?_; rintro e w9 ⟨rfl, hb⟩; have hS := Lib.hid (hS.out.next hb); clear hb))
            go_ret
            exact ⟨by first | rfl | simp, hS.out.below⟩
      | true =>
        have HM1c := Lib.hid (HM1.out rfl)
        have HM2c := Lib.hid (HM2.out rfl)
        clear HM1 HM2
        cases vS with
        | false =>
          clear HMz2
          as_aux_lemma =>
          go_enter Tryd.func6, Tryd.ntmps6
          go_wp2_with (first
            | (go_at_call 7; with_reducible refine (HA.out _ hS.out.env).mono ?_; rintro e w9 ⟨rfl, hb⟩; have hS := Lib.hid (hS.out.next hb); clear hb)
            | (go_at_call 9; with_reducible refine (HG2.out _).mono ?_; rintro e w9 ⟨rfl, hb⟩; have hS := Lib.hid (hS.out.next hb); clear hb)
            | (go_at_call 10; with_reducible refine (HPp.out _ hS.out.env).mono ?_; rintro e w9 ⟨rfl, hb⟩; have hS := Lib.hid (hS.out.next hb); clear hb)
            | (go_at_call 10; with_reducible refine (HPs.out _ hS.out.env).mono ?_; rintro e w9 ⟨rfl, hb⟩; have hS := Lib.hid (hS.out.next hb); clear hb)
            | (go_at_call 16; with_reducible refine (HMps.out _ hS.out.env).mono ?_; rintro e w9 ⟨rfl, hb⟩; have hS := Lib.hid (hS.out.next hb); clear hb)
            | (go_at_call 16; with_reducible refine (HMs.out _ hS.out.env).mono ?_; rintro e w9 ⟨rfl, hb⟩; have hS := Lib.hid (hS.out.next hb); clear hb)
            | (go_at_call 16; with_reducible refine (HMpp.out _ hS.out.env).mono ?_; rintro e w9 ⟨rfl, hb⟩; have hS := Lib.hid (hS.out.next hb); clear hb)
            | (go_at_call 16; with_reducible refine (HM1c.out _ hS.out.env).mono ?_; rintro e w9 ⟨rfl, hb⟩; have hS := Lib.hid (hS.out.next hb); clear hb)
            | (go_at_call 16; with_reducible refine (HM2c.out _ hS.out.env).mono ?_; rintro e w9 ⟨rfl, hb⟩; have hS := Lib.hid (hS.out.next hb); clear hb)
            | (go_at_call 16; with_reducible refine (HMzc.out _ hS.out.env).mono ?_; rintro e w9 ⟨rfl, hb⟩; have hS := Lib.hid (hS.out.next hb); clear hb)
            | (go_at_call 16; with_reducible refine (HMq.out _ hS.out.env).mono ?_; rintro e w9 ⟨rfl, hb⟩; have hS := Lib.hid (hS.out.next hb); clear hb)
            | (go_at_call 16; with_reducible refine (HMq0.out _ hS.out.env).mono ?_; rintro e w9 ⟨rfl, hb⟩; have hS := Lib.hid (hS.out.next hb); clear hb))
          go_ret
          exact ⟨by first | rfl | simp, hS.out.below⟩
        | true =>
          cases l30 with
          | false =>
            clear HMz2
            as_aux_lemma =>
            go_enter Tryd.func6, Tryd.ntmps6
            go_wp2_with (first
              | (go_at_call 7; with_reducible refine (HA.out _ hS.out.env).mono ?_; rintro e w9 ⟨rfl, hb⟩; have hS := Lib.hid (hS.out.next hb); clear hb)
              | (go_at_call 9; with_reducible refine (HG2.out _).mono ?_; rintro e w9 ⟨rfl, hb⟩; have hS := Lib.hid (hS.out.next hb); clear hb)
              | (go_at_call 10; with_reducible refine (HPp.out _ hS.out.env).mono ?_; rintro e w9 ⟨rfl, hb⟩; have hS := Lib.hid (hS.out.next hb); clear hb)
              | (go_at_call 10; with_reducible refine (HPs.out _ hS.out.env).mono ?_; rintro e w9 ⟨rfl, hb⟩; have hS := Lib.hid (hS.out.next hb); clear hb)
              | (go_at_call 16; with_reducible refine (HMps.out _ hS.out.env).mono ?_; rintro e w9 ⟨rfl, hb⟩; have hS := Lib.hid (hS.out.next hb); clear hb)
              | (go_at_call 16; with_reducible refine (HMs.out _ hS.out.env).mono ?_; rintro e w9 ⟨rfl, hb⟩; have hS := Lib.hid (hS.out.next hb); clear hb)
              | (go_at_call 16; with_reducible refine (HMpp.out _ hS.out.env).mono ?_; rintro e w9 ⟨rfl, hb⟩; have hS := Lib.hid (hS.out.next hb); clear hb)
              | (go_at_call 16; with_reducible refine (HM1c.out _ hS.out.env).mono ?_; rintro e w9 ⟨rfl, hb⟩; have hS := Lib.hid (hS.out.next hb); clear hb)
              | (go_at_call 16; with_reducible refine (HM2c.out _ hS.out.env).mono ?_; rintro e w9 ⟨rfl, hb⟩; have hS := Lib.hid (hS.out.next hb); clear hb)
              | (go_at_call 16; with_reducible refine (HMzc.out _ hS.out.env).mono ?_; rintro e w9 ⟨rfl, hb⟩; have hS := Lib.hid (hS.out.next hb); clear hb)
              | (go_at_call 16; with_reducible refine (HMq.out _ hS.out.env).mono ?_; rintro e w9 ⟨rfl, hb⟩; have hS := Lib.hid (hS.out.next hb); clear hb)
              | (go_at_call 16; with_reducible refine (HMq0.out _ hS.out.env).mono ?_; rintro e w9 ⟨rfl, hb⟩; have hS := Lib.hid (hS.out.next hb); clear hb))
            go_ret
            exact ⟨by first | rfl | simp, hS.out.below⟩
          | true =>
            have HMzc := Lib.hid (HMz2.out rfl rfl)
            clear HMz2
            as_aux_lemma =>
            go_enter Tryd.func6, Tryd.ntmps6
            go_wp2_with (first
              | (go_at_call 7; with_reducible refine (HA.out _ hS.out.env).mono ?_; rintro e w9 ⟨rfl, hb⟩; have hS := Lib.hid (hS.out.next hb); clear hb)
              | (go_at_call 9; with_reducible refine (HG2.out _).mono ?_; rintro e w9 ⟨rfl, hb⟩; have hS := Lib.hid (hS.out.next hb); clear hb)
              | (go_at_call 10; with_reducible refine (HPp.out _ hS.out.env).mono ?_; rintro e w9 ⟨rfl, hb⟩; have hS := Lib.hid (hS.out.next hb); clear hb)
              | (go_at_call 10; with_reducible refine (HPs.out _ hS.out.env).mono ?_; rintro e w9 ⟨rfl, hb⟩; have hS := Lib.hid (hS.out.next hb); clear hb)
              | (go_at_call 16; with_reducible refine (HMps.out _ hS.out.env).mono ?_; rintro e w9 ⟨rfl, hb⟩; have hS := Lib.hid (hS.out.next hb); clear hb)
              | (go_at_call 16; with_reducible refine (HMs.out _ hS.out.env).mono ?_; rintro e w9 ⟨rfl, hb⟩; have hS := Lib.hid (hS.out.next hb); clear hb)
              | (go_at_call 16; with_reducible refine (HMpp.out _ hS.out.env).mono ?_; rintro e w9 ⟨rfl, hb⟩; have hS := Lib.hid (hS.out.next hb); clear hb)
              | (go_at_call 16; with_reducible refine (HM1c.out _ hS.out.env).mono ?_; rintro e w9 ⟨rfl, hb⟩; have hS := Lib.hid (hS.out.next hb); clear hb)
              | (go_at_call 16; with_reducible refine (HM2c.out _ hS.out.env).mono ?_; rintro e w9 ⟨rfl, hb⟩; have hS := Lib.hid (hS.out.next hb); clear hb)
              | (go_at_call 16; with_reducible refine (HMzc.out _ hS.out.env).mono ?_; rintro e w9 ⟨rfl, hb⟩; have hS := Lib.hid (hS.out.next hb); clear hb)
              | (go_at_call 16; with_reducible refine (HMq.out _ hS.out.env).mono ?_; rintro e w9 ⟨rfl, hb⟩; have hS := Lib.hid (hS.out.next hb); clear hb)
              | (go_at_call 16; with_reducible refine (HMq0.out _ hS.out.env).mono ?_; rintro e w9 ⟨rfl, hb⟩; have hS := Lib.hid (hS.out.next hb); clear hb))
            go_ret
            exact ⟨by first | rfl | simp, hS.out.below⟩
    | true =>
      obtain ⟨he, hpp⟩ := HPQ.out rfl
      have HMpp := Lib.hid hpp
      obtain rfl := he
      clear hpp HPQ
      cases eqv with
      | false =>
        clear HM1 HM2
        cases vS with
        | false =>
          clear HMz2
          as_aux_lemma =>
          go_enter Tryd.func6, Tryd.ntmps6
          go_wp2_with (first
            | (go_at_call 7; with_reducible refine (HA.out _ hS.out.env).mono ?_; rintro e w9 ⟨rfl, hb⟩; have hS := Lib.hid (hS.out.next hb); clear hb)
            | (go_at_call 9; with_reducible refine (HG2.out _).mono ?_; rintro e w9 ⟨rfl, hb⟩; have hS := Lib.hid (hS.out.next hb); clear hb)
            | (go_at_call 10; with_reducible refine (HPp.out _ hS.out.env).mono ?_; rintro e w9 ⟨rfl, hb⟩; have hS := Lib.hid (hS.out.next hb); clear hb)
            | (go_at_call 10; with_reducible refine (HPs.out _ hS.out.env).mono ?_; rintro e w9 ⟨rfl, hb⟩; have hS := Lib.hid (hS.out.next hb); clear hb)
            | (go_at_call 16; with_reducible refine (HMps.out _ hS.out.env).mono ?_; rintro e w9 ⟨rfl, hb⟩; have hS := Lib.hid (hS.out.next hb); clear hb)
            | (go_at_call 16; with_reducible refine (HMs.out _ hS.out.env).mono ?_; rintro e w9 ⟨rfl, hb⟩; have hS := Lib.hid (hS.out.next hb); clear hb)
            | (go_at_call 16; with_reducible refine (HMpp.out _ hS.out.env).mono ?_; rintro e w9 ⟨rfl, hb⟩; have hS := Lib.hid (hS.out.next hb); clear hb)
            | (go_at_call 16; with_reducible refine (HM1c.out _ hS.out.env).mono ?_; rintro e w9 ⟨rfl, hb⟩; have hS := Lib.hid (hS.out.next hb); clear hb)
            | (go_at_call 16; with_reducible refine (HM2c.out _ hS.out.env).mono ?_; rintro e w9 ⟨rfl, hb⟩; have hS := Lib.hid (hS.out.next hb); clear hb)
            | (go_at_call 16; with_reducible refine (HMzc.out _ hS.out.env).mono ?_; rintro e w9 ⟨rfl, hb⟩; have hS := Lib.hid (hS.out.next hb); clear hb)
            | (go_at_call 16; with_reducible refine (HMq.out _ hS.out.env).mono ?_; rintro e w9 ⟨rfl, hb⟩; have hS := Lib.hid (hS.out.next hb); clear hb)
            | (go_at_call 16; with_reducible refine (HMq0.out _ hS.out.env).mono ?_; rintro e w9 ⟨rfl, hb⟩; have hS := Lib.hid (hS.out.next hb); clear hb))
          go_ret
          exact ⟨by first | rfl | simp, hS.out.below⟩
        | true =>
          cases l30 with
          | false =>
            clear HMz2
            as_aux_lemma =>
            go_enter Tryd.func6, Tryd.ntmps6
            go_wp2_with (first
              | (go_at_call 7; with_reducible refine (HA.out _ hS.out.env).mono ?_; rintro e w9 ⟨rfl, hb⟩; have hS := Lib.hid (hS.out.next hb); clear hb)
              | (go_at_call 9; with_reducible refine (HG2.out _).mono ?_; rintro e w9 ⟨rfl, hb⟩; have hS := Lib.hid (hS.out.next hb); clear hb)
              | (go_at_call 10; with_reducible refine (HPp.out _ hS.out.env).mono ?_; rintro e w9 ⟨rfl, hb⟩; have hS := Lib.hid (hS.out.next hb); clear hb)
              | (go_at_call 10; with_reducible refine (HPs.out _ hS.out.env).mono ?_; rintro e w9 ⟨rfl, hb⟩; have hS := Lib.hid (hS.out.next hb); clear hb)
              | (go_at_call 16; with_reducible refine (HMps.out _ hS.out.env).mono ?_; rintro e w9 ⟨rfl, hb⟩; have hS := Lib.hid (hS.out.next hb); clear hb)
              | (go_at_call 16; with_reducible refine (HMs.out _ hS.out.env).mono ?_; rintro e w9 ⟨rfl, hb⟩; have hS := Lib.hid (hS.out.next hb); clear hb)
              | (go_at_call 16; with_reducible refine (HMpp.out _ hS.out.env).mono ?_; rintro e w9 ⟨rfl, hb⟩; have hS := Lib.hid (hS.out.next hb); clear hb)
              | (go_at_call 16; with_reducible refine (HM1c.out _ hS.out.env).mono ?_; rintro e w9 ⟨rfl, hb⟩; have hS := Lib.hid (hS.out.next hb); clear hb)
              | (go_at_call 16; with_reducible refine (HM2c.out _ hS.out.env).mono ?_; rintro e w9 ⟨rfl, hb⟩; have hS := Lib.hid (hS.out.next hb); clear hb)
              | (go_at_call 16; with_reducible refine (HMzc.out _ hS.out.env).mono ?_; rintro e w9 ⟨rfl, hb⟩; have hS := Lib.hid (hS.out.next hb); clear hb)
              | (go_at_call 16; with_reducible refine (HMq.out _ hS.out.env).mono ?_; rintro e w9 ⟨rfl, hb⟩; have hS := Lib.hid (hS.out.next hb); clear hb)
              | (go_at_call 16; with_reducible refine (HMq0.out _ hS.out.env).mono ?_; rintro e w9 ⟨rfl, hb⟩; have hS := Lib.hid (hS.out.next hb); clear hb))
            go_ret
            exact ⟨by first | rfl | simp, hS.out.below⟩
          | true =>
            have HMzc := Lib.hid (HMz2.out rfl rfl)
            clear HMz2
            as_aux_lemma =>
            go_enter Tryd.func6, Tryd.ntmps6
            go_wp2_with (first
              | (go_at_call 7; with_reducible refine (HA.out _ hS.out.env).mono ?_; rintro e w9 ⟨rfl, hb⟩; have hS := Lib.hid (hS.out.next hb); clear hb)
              | (go_at_call 9; with_reducible refine (HG2.out _).mono ?_; rintro e w9 ⟨rfl, hb⟩; have hS := Lib.hid (hS.out.next hb); clear hb)
              | (go_at_call 10; with_reducible refine (HPp.out _ hS.out.env).mono ?_; rintro e w9 ⟨rfl, hb⟩; have hS := Lib.hid (hS.out.next hb); clear hb)
              | (go_at_call 10; with_reducible refine (HPs.out _ hS.out.env).mono ?_; rintro e w9 ⟨rfl, hb⟩; have hS := Lib.hid (hS.out.next hb); clear hb)
              | (go_at_call 16; with_reducible refine (HMps.out _ hS.out.env).mono ?_; rintro e w9 ⟨rfl, hb⟩; have hS := Lib.hid (hS.out.next hb); clear hb)
              | (go_at_call 16; with_reducible refine (HMs.out _ hS.out.env).mono ?_; rintro e w9 ⟨rfl, hb⟩; have hS := Lib.hid (hS.out.next hb); clear hb)
              | (go_at_call 16; with_reducible refine (HMpp.out _ hS.out.env).mono ?_; rintro e w9 ⟨rfl, hb⟩; have hS := Lib.hid (hS.out.next hb); clear hb)
              | (go_at_call 16; with_reducible refine (HM1c.out _ hS.out.env).mono ?_; rintro e w9 ⟨rfl, hb⟩; have hS := Lib.hid (hS.out.next hb); clear hb)
              | (go_at_call 16; with_reducible refine (HM2c.out _ hS.out.env).mono ?_; rintro e w9 ⟨rfl, hb⟩; have hS := Lib.hid (hS.out.next hb); clear hb)
              | (go_at_call 16; with_reducible refine (HMzc.out _ hS.out.env).mono ?_; rintro e w9 ⟨rfl, hb⟩; have hS := Lib.hid (hS.out.next hb); clear hb)
              | (go_at_call 16; with_reducible refine (HMq.out _ hS.out.env).mono ?_; rintro e w9 ⟨rfl, hb⟩; have hS := Lib.hid (hS.out.next hb); clear hb)
              | (go_at_call 16; with_reducible refine (HMq0.out _ hS.out.env).mono ?_; rintro e w9 ⟨rfl, hb⟩; have hS := Lib.hid (hS.out.next hb); clear hb))
            go_ret
            exact ⟨by first | rfl | simp, hS.out.below⟩
      | true =>
        have HM1c := Lib.hid (HM1.out rfl)
        have HM2c := Lib.hid (HM2.out rfl)
        clear HM1 HM2
        cases vS with
        | false =>
          clear HMz2
          as_aux_lemma =>
          go_enter Tryd.func6, Tryd.ntmps6
          go_wp2_with (first
            | (go_at_call 7; with_reducible refine (HA.out _ hS.out.env).mono ?_; rintro e w9 ⟨rfl, hb⟩; have hS := Lib.hid (hS.out.next hb); clear hb)
            | (go_at_call 9; with_reducible refine (HG2.out _).mono ?_; rintro e w9 ⟨rfl, hb⟩; have hS := Lib.hid (hS.out.next hb); clear hb)
            | (go_at_call 10; with_reducible refine (HPp.out _ hS.out.env).mono ?_; rintro e w9 ⟨rfl, hb⟩; have hS := Lib.hid (hS.out.next hb); clear hb)
            | (go_at_call 10; with_reducible refine (HPs.out _ hS.out.env).mono ?_; rintro e w9 ⟨rfl, hb⟩; have hS := Lib.hid (hS.out.next hb); clear hb)
            | (go_at_call 16; with_reducible refine (HMps.out _ hS.out.env).mono ?_; rintro e w9 ⟨rfl, hb⟩; have hS := Lib.hid (hS.out.next hb); clear hb)
            | (go_at_call 16; with_reducible refine (HMs.out _ hS.out.env).mono ?_; rintro e w9 ⟨rfl, hb⟩; have hS := Lib.hid (hS.out.next hb); clear hb)
            | (go_at_call 16; with_reducible refine (HMpp.out _ hS.out.env).mono ?_; rintro e w9 ⟨rfl, hb⟩; have hS := Lib.hid (hS.out.next hb); clear hb)
            | (go_at_call 16; with_reducible refine (HM1c.out _ hS.out.env).mono ?_; rintro e w9 ⟨rfl, hb⟩; have hS := Lib.hid (hS.out.next hb); clear hb)
            | (go_at_call 16; with_reducible refine (HM2c.out _ hS.out.env).mono ?_; rintro e w9 ⟨rfl, hb⟩; have hS := Lib.hid (hS.out.next hb); clear hb)
            | (go_at_call 16; with_reducible refine (HMzc.out _ hS.out.env).mono ?_; rintro e w9 ⟨rfl, hb⟩; have hS := Lib.hid (hS.out.next hb); clear hb)
            | (go_at_call 16; with_reducible refine (HMq.out _ hS.out.env).mono ?_; rintro e w9 ⟨rfl, hb⟩; have hS := Lib.hid (hS.out.next hb); clear hb)
            | (go_at_call 16; with_reducible refine (HMq0.out _ hS.out.env).mono ?_; rintro e w9 ⟨rfl, hb⟩; have hS := Lib.hid (hS.out.next hb); clear hb))
          go_ret
          exact ⟨by first | rfl | simp, hS.out.below⟩
        | true =>
          cases l30 with
          | false =>
            clear HMz2
            as_aux_lemma =>
            go_enter Tryd.func6, Tryd.ntmps6
            go_wp2_with (first
              | (go_at_call 7; with_reducible refine (HA.out _ hS.out.env).mono ?_; rintro e w9 ⟨rfl, hb⟩; have hS := Lib.hid (hS.out.next hb); clear hb)
              | (go_at_call 9; with_reducible refine (HG2.out _).mono ?_; rintro e w9 ⟨rfl, hb⟩; have hS := Lib.hid (hS.out.next hb); clear hb)
              | (go_at_call 10; with_reducible refine (HPp.out _ hS.out.env).mono ?_; rintro e w9 ⟨rfl, hb⟩; have hS := Lib.hid (hS.out.next hb); clear hb)
              | (go_at_call 10; with_reducible refine (HPs.out _ hS.out.env).mono ?_; rintro e w9 ⟨rfl, hb⟩; have hS := Lib.hid (hS.out.next hb); clear hb)
              | (go_at_call 16; with_reducible refine (HMps.out _ hS.out.env).mono ?_; rintro e w9 ⟨rfl, hb⟩; have hS := Lib.hid (hS.out.next hb); clear hb)
              | (go_at_call 16; with_reducible refine (HMs.out _ hS.out.env).mono ?_; rintro e w9 ⟨rfl, hb⟩; have hS := Lib.hid (hS.out.next hb); clear hb)
              | (go_at_call 16; with_reducible refine (HMpp.out _ hS.out.env).mono ?_; rintro e w9 ⟨rfl, hb⟩; have hS := Lib.hid (hS.out.next hb); clear hb)
              | (go_at_call 16; with_reducible refine (HM1c.out _ hS.out.env).mono ?_; rintro e w9 ⟨rfl, hb⟩; have hS := Lib.hid (hS.out.next hb); clear hb)
              | (go_at_call 16; with_reducible refine (HM2c.out _ hS.out.env).mono ?_; rintro e w9 ⟨rfl, hb⟩; have hS := Lib.hid (hS.out.next hb); clear hb)
              | (go_at_call 16; with_reducible refine (HMzc.out _ hS.out.env).mono ?_; rintro e w9 ⟨rfl, hb⟩; have hS := Lib.hid (hS.out.next hb); clear hb)
              | (go_at_call 16; with_reducible refine (HMq.out _ hS.out.env).mono ?_; rintro e w9 ⟨rfl, hb⟩; have hS := Lib.hid (hS.out.next hb); clear hb)
              | (go_at_call 16; with_reducible refine (HMq0.out _ hS.out.env).mono ?_; rintro e w9 ⟨rfl, hb⟩; have hS := Lib.hid (hS.out.next hb); clear hb))
            go_ret
            exact ⟨by first | rfl | simp, hS.out.below⟩
          | true =>
            have HMzc := Lib.hid (HMz2.out rfl rfl)
            clear HMz2
            as_aux_lemma =>
            go_enter Tryd.func6, Tryd.ntmps6
            go_wp2_with (first
              | (go_at_call 7; with_reducible refine (HA.out _ hS.out.env).mono ?_; rintro e w9 ⟨rfl, hb⟩; have hS := Lib.hid (hS.out.next hb); clear hb)
              | (go_at_call 9; with_reducible refine (HG2.out _).mono ?_; rintro e w9 ⟨rfl, hb⟩; have hS := Lib.hid (hS.out.next hb); clear hb)
              | (go_at_call 10; with_reducible refine (HPp.out _ hS.out.env).mono ?_; rintro e w9 ⟨rfl, hb⟩; have hS := Lib.hid (hS.out.next hb); clear hb)
              | (go_at_call 10; with_reducible refine (HPs.out _ hS.out.env).mono ?_; rintro e w9 ⟨rfl, hb⟩; have hS := Lib.hid (hS.out.next hb); clear hb)
              | (go_at_call 16; with_reducible refine (HMps.out _ hS.out.env).mono ?_; rintro e w9 ⟨rfl, hb⟩; have hS := Lib.hid (hS.out.next hb); clear hb)
              | (go_at_call 16; with_reducible refine (HMs.out _ hS.out.env).mono ?_; rintro e w9 ⟨rfl, hb⟩; have hS := Lib.hid (hS.out.next hb); clear hb)
              | (go_at_call 16; with_reducible refine (HMpp.out _ hS.out.env).mono ?_; rintro e w9 ⟨rfl, hb⟩; have hS := Lib.hid (hS.out.next hb); clear hb)
              | (go_at_call 16; with_reducible refine (HM1c.out _ hS.out.env).mono ?_; rintro e w9 ⟨rfl, hb⟩; have hS := Lib.hid (hS.out.next hb); clear hb)
              | (go_at_call 16; with_reducible refine (HM2c.out _ hS.out.env).mono ?_; rintro e w9 ⟨rfl, hb⟩; have hS := Lib.hid (hS.out.next hb); clear hb)
              | (go_at_call 16; with_reducible refine (HMzc.out _ hS.out.env).mono ?_; rintro e w9 ⟨rfl, hb⟩; have hS := Lib.hid (hS.out.next hb); clear hb)
              | (go_at_call 16; with_reducible refine (HMq.out _ hS.out.env).mono ?_; rintro e w9 ⟨rfl, hb⟩; have hS := Lib.hid (hS.out.next hb); clear hb)
              | (go_at_call 16; with_reducible refine (HMq0.out _ hS.out.env).mono ?_; rintro e w9 ⟨rfl, hb⟩; have hS := Lib.hid (hS.out.next hb); clear hb))
            go_ret
            exact ⟨by first | rfl | simp, hS.out.below⟩
  · -- an input that is let go
    have HB : Hid (g = true → p.length ≤ 38 → s.length ≤ 200 → ¬ m.length ≤ 200) := fun h1 h2 h3 h4 => hin ⟨h1, h2, h3, h4⟩
    obtain ⟨b1, hb1⟩ : ∃ b, decide ((38 : Int) < ((B p).size : Int)) = b := ⟨_, rfl⟩
    obtain ⟨b2, hb2⟩ : ∃ b, decide ((200 : Int) < ((B s).size : Int)) = b := ⟨_, rfl⟩
    obtain ⟨b3, hb3⟩ : ∃ b, decide ((200 : Int) < ((B m).size : Int)) = b := ⟨_, rfl⟩
    have HOR : Hid (g = false ∨ b1 = true ∨ b2 = true ∨ b3 = true) := by
      show _ ∨ _
      rw [← hb1, ← hb2, ← hb3, B_size, B_size, B_size]
      simp only [decide_eq_true_eq]
      cases g with
      | false => exact .inl rfl
      | true =>
        have := HB.out rfl
        by_cases q1 : p.length ≤ 38
        · by_cases q2 : s.length ≤ 200
          · have := this q1 q2
            exact .inr (.inr (.inr (by omega)))
          · exact .inr (.inr (.inl (by omega)))
        · exact .inr (.inl (by omega))
    generalize B p = pb at hb1 HG2 ⊢
    generalize B s = sb at hb2 ⊢
    generalize B m = mb at hb3 ⊢
    clear h0 h1 h2 HZ hg hin HB hE
    cases g with
    | false =>
      clear HOR
      as_aux_lemma =>
      go_enter Tryd.func6, Tryd.ntmps6
      go_wp2_with (first
        | (go_at_call 7; with_reducible refine (HA.out _ hS.out.env).mono ?_; rintro e w9 ⟨rfl, hb⟩; have hS := Lib.hid (hS.out.next hb); clear hb)
        | (go_at_call 9; with_reducible refine (HG2.out _).mono ?_; rintro e w9 ⟨rfl, hb⟩; have hS := Lib.hid (hS.out.next hb); clear hb)
        | (go_at_call 10; with_reducible refine (HPp.out _ hS.out.env).mono ?_; rintro e w9 ⟨rfl, hb⟩; have hS := Lib.hid (hS.out.next hb); clear hb)
        | (go_at_call 10; with_reducible refine (HPs.out _ hS.out.env).mono ?_; rintro e w9 ⟨rfl, hb⟩; have hS := Lib.hid (hS.out.next hb); clear hb)
        | (go_at_call 16; with_reducible refine (HMps.out _ hS.out.env).mono ?_; rintro e w9 ⟨rfl, hb⟩; have hS := Lib.hid (hS.out.next hb); clear hb)
        | (go_at_call 16; with_reducible refine (HMs.out _ hS.out.env).mono ?_; rintro e w9 ⟨rfl, hb⟩; have hS := Lib.hid (hS.out.next hb); clear hb)
        | (go_at_call 16; with_reducible refine (HMpp.out _ hS.out.env).mono ?_; rintro e w9 ⟨rfl, hb⟩; have hS := Lib.hid (hS.out.next hb); clear hb)
        | (go_at_call 16; with_reducible refine (HM1c.out _ hS.out.env).mono ?_; rintro e w9 ⟨rfl, hb⟩; have hS := Lib.hid (hS.out.next hb); clear hb)
        | (go_at_call 16; with_reducible refine (HM2c.out _ hS.out.env).mono ?_; rintro e w9 ⟨rfl, hb⟩; have hS := Lib.hid (hS.out.next hb); clear hb)
        | (go_at_call 16; with_reducible refine (HMzc.out _ hS.out.env).mono ?_; rintro e w9 ⟨rfl, hb⟩; have hS := Lib.hid (hS.out.next hb); clear hb)
        | (go_at_call 16; with_reducible refine (HMq.out _ hS.out.env).mono ?_; rintro e w9 ⟨rfl, hb⟩; have hS := Lib.hid (hS.out.next hb); clear hb)
        | (go_at_call 16; with_reducible refine (HMq0.out _ hS.out.env).mono ?_; rintro e w9 ⟨rfl, hb⟩; have hS := Lib.hid (hS.out.next hb); clear hb))
      go_ret
      exact ⟨by first | rfl | simp, hS.out.below⟩
    | true =>
      cases b1 with
      | true =>
        clear HOR
        as_aux_lemma =>
        go_enter Tryd.func6, Tryd.ntmps6
        go_wp2_with (first
          | (go_at_call 7; with_reducible refine (HA.out _ hS.out.env).mono ?_; rintro e w9 ⟨rfl, hb⟩; have hS := Lib.hid (hS.out.next hb); clear hb)
          | (go_at_call 9; with_reducible refine (HG2.out _).mono ?_; rintro e w9 ⟨rfl, hb⟩; have hS := Lib.hid (hS.out.next hb); clear hb)
          | (go_at_call 10; with_reducible refine (HPp.out _ hS.out.env).mono ?_; rintro e w9 ⟨rfl, hb⟩; have hS := Lib.hid (hS.out.next hb); clear hb)
          | (go_at_call 10; with_reducible refine (HPs.out _ hS.out.env).mono ?_; rintro e w9 ⟨rfl, hb⟩; have hS := Lib.hid (hS.out.next hb); clear hb)
          | (go_at_call 16; with_reducible refine (HMps.out _ hS.out.env).mono ?_; rintro e w9 ⟨rfl, hb⟩; have hS := Lib.hid (hS.out.next hb); clear hb)
          | (go_at_call 16; with_reducible refine (HMs.out _ hS.out.env).mono ?_; rintro e w9 ⟨rfl, hb⟩; have hS := Lib.hid (hS.out.next hb); clear hb)
          | (go_at_call 16; with_reducible refine (HMpp.out _ hS.out.env).mono ?_; rintro e w9 ⟨rfl, hb⟩; have hS := Lib.hid (hS.out.next hb); clear hb)
          | (go_at_call 16; with_reducible refine (HM1c.out _ hS.out.env).mono ?_; rintro e w9 ⟨rfl, hb⟩; have hS := Lib.hid (hS.out.next hb); clear hb)
          | (go_at_call 16; with_reducible refine (HM2c.out _ hS.out.env).mono ?_; rintro e w9 ⟨rfl, hb⟩; have hS := Lib.hid (hS.out.next hb); clear hb)
          | (go_at_call 16; with_reducible refine (HMzc.out _ hS.out.env).mono ?_; rintro e w9 ⟨rfl, hb⟩; have hS := Lib.hid (hS.out.next hb); clear hb)
          | (go_at_call 16; with_reducible refine (HMq.out _ hS.out.env).mono ?_; rintro e w9 ⟨rfl, hb⟩; have hS := Lib.hid (hS.out.next hb); clear hb)
          | (go_at_call 16; with_reducible refine (HMq0.out _ hS.out.env).mono ?_; rintro e w9 ⟨rfl, hb⟩; have hS := Lib.hid (hS.out.next hb); clear hb))
        go_ret
        exact ⟨by first | rfl | simp, hS.out.below⟩
      | false =>
        cases b2 with
        | true =>
          clear HOR
          as_aux_lemma =>
          go_enter Tryd.func6, Tryd.ntmps6
          go_wp2_with (first
            | (go_at_call 7; with_reducible refine (HA.out _ hS.out.env).mono ?_; rintro e w9 ⟨rfl, hb⟩; have hS := Lib.hid (hS.out.next hb); clear hb)
            | (go_at_call 9; with_reducible refine (HG2.out _).mono ?_; rintro e w9 ⟨rfl, hb⟩; have hS := Lib.hid (hS.out.next hb); clear hb)
            | (go_at_call 10; with_reducible refine (HPp.out _ hS.out.env).mono ?_; rintro e w9 ⟨rfl, hb⟩; have hS := Lib.hid (hS.out.next hb); clear hb)
            | (go_at_call 10; with_reducible refine (HPs.out _ hS.out.env).mono ?_; rintro e w9 ⟨rfl, hb⟩; have hS := Lib.hid (hS.out.next hb); clear hb)
            | (go_at_call 16; with_reducible refine (HMps.out _ hS.out.env).mono ?_; rintro e w9 ⟨rfl, hb⟩; have hS := Lib.hid (hS.out.next hb); clear hb)
            | (go_at_call 16; with_reducible refine (HMs.out _ hS.out.env).mono ?_; rintro e w9 ⟨rfl, hb⟩; have hS := Lib.hid (hS.out.next hb); clear hb)
            | (go_at_call 16; with_reducible refine (HMpp.out _ hS.out.env).mono ?_; rintro e w9 ⟨rfl, hb⟩; have hS := Lib.hid (hS.out.next hb); clear hb)
            | (go_at_call 16; with_reducible refine (HM1c.out _ hS.out.env).mono ?_; rintro e w9 ⟨rfl, hb⟩; have hS := Lib.hid (hS.out.next hb); clear hb)
            | (go_at_call 16; with_reducible refine (HM2c.out _ hS.out.env).mono ?_; rintro e w9 ⟨rfl, hb⟩; have hS := Lib.hid (hS.out.next hb); clear hb)
            | (go_at_call 16; with_reducible refine (HMzc.out _ hS.out.env).mono ?_; rintro e w9 ⟨rfl, hb⟩; have hS := Lib.hid (hS.out.next hb); clear hb)
            | (go_at_call 16; with_reducible refine (HMq.out _ hS.out.env).mono ?_; rintro e w9 ⟨rfl, hb⟩; have hS := Lib.hid (hS.out.next hb); clear hb)
            | (go_at_call 16; with_reducible refine (HMq0.out _ hS.out.env).mono ?_; rintro e w9 ⟨rfl, hb⟩; have hS := Lib.hid (hS.out.next hb); clear hb))
          go_ret
          exact ⟨by first | rfl | simp, hS.out.below⟩
        | false =>
          have h3 : b3 = true := by
            rcases HOR.out with h | h | h | h
            · cases h
            · cases h
            · cases h
            · exact h
          subst h3
          clear HOR
          as_aux_lemma =>
          go_enter Tryd.func6, Tryd.ntmps6
          go_wp2_with (first
            | (go_at_call 7; with_reducible refine (HA.out _ hS.out.env).mono ?_; rintro e w9 ⟨rfl, hb⟩; have hS := Lib.hid (hS.out.next hb); clear hb)
            | (go_at_call 9; with_reducible refine (HG2.out _).mono ?_; rintro e w9 ⟨rfl, hb⟩; have hS := Lib.hid (hS.out.next hb); clear hb)
            | (go_at_call 10; with_reducible refine (HPp.out _ hS.out.env).mono ?_; rintro e w9 ⟨rfl, hb⟩; have hS := Lib.hid (hS.out.next hb); clear hb)
            | (go_at_call 10; with_reducible refine (HPs.out _ hS.out.env).mono ?_; rintro e w9 ⟨rfl, hb⟩; have hS := Lib.hid (hS.out.next hb); clear hb)
            | (go_at_call 16; with_reducible refine (HMps.out _ hS.out.env).mono ?_; rintro e w9 ⟨rfl, hb⟩; have hS := Lib.hid (hS.out.next hb); clear hb)
            | (go_at_call 16; with_reducible refine (HMs.out _ hS.out.env).mono ?_; rintro e w9 ⟨rfl, hb⟩; have hS := Lib.hid (hS.out.next hb); clear hb)
            | (go_at_call 16; with_reducible refine (HMpp.out _ hS.out.env).mono ?_; rintro e w9 ⟨rfl, hb⟩; have hS := Lib.hid (hS.out.next hb); clear hb)
            | (go_at_call 16; with_reducible refine (HM1c.out _ hS.out.env).mono ?_; rintro e w9 ⟨rfl, hb⟩; have hS := Lib.hid (hS.out.next hb); clear hb)
            | (go_at_call 16; with_reducible refine (HM2c.out _ hS.out.env).mono ?_; rintro e w9 ⟨rfl, hb⟩; have hS := Lib.hid (hS.out.next hb); clear hb)
            | (go_at_call 16; with_reducible refine (HMzc.out _ hS.out.env).mono ?_; rintro e w9 ⟨rfl, hb⟩; have hS := Lib.hid (hS.out.next hb); clear hb)
            | (go_at_call 16; with_reducible refine (HMq.out _ hS.out.env).mono ?_; rintro e w9 ⟨rfl, hb⟩; have hS := Lib.hid (hS.out.next hb); clear hb)
            | (go_at_call 16; with_reducible refine (HMq0.out _ hS.out.env).mono ?_; rintro e w9 ⟨rfl, hb⟩; have hS := Lib.hid (hS.out.next hb); clear hb))
          go_ret
          exact ⟨by first | rfl | simp, hS.out.below⟩
end Gb
end Go.Proofs.YtljcnnigpfclkaaDoor
