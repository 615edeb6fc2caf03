/- What fix.Read answers, for any text shorter than 4294967281 bytes: the number, or ErrValue; below the call's own blocks nothing turns. Condition: one variable of the library's holds some int. -/
import Derived.Test.YtcjiphfdgdjbnaaDoorFmt
import Derived.Test.YtcjiphfdgdjbnaaDoorPlain
import Derived.Test.YtcjiphfdgdjbnaaDoorDigits
import Derived.ShutString
namespace Go.Proofs.YtcjiphfdgdjbnaaDoor
open Go.RowKit
theorem cutPrefix_l (l : List UInt8) (w : World) :
    Calls Tryd.prog 23 #[.string ⟨l.toArray⟩, .string ⟨#[45]⟩] w fun e w' => e = .returned (.tuple #[.string ⟨(Fx.size l).toArray⟩, .bool (Fx.neg l)]) ∧ w = w' :=
  (Tryd.strings_CutPrefix ⟨l.toArray⟩ ⟨#[45]⟩ w).mono fun _ _ ⟨h1, h2⟩ => ⟨h1, h2.symm⟩
theorem cut_l (l : List UInt8) (w : World) (hE : Env w) (hl : l.length < 4294967281) :
    Calls Tryd.prog 24 #[.string ⟨l.toArray⟩, .string ⟨#[46]⟩] w fun e w' => e = .returned (.tuple #[.string ⟨(Lib.cut l [46]).1.toArray⟩, .string ⟨(Lib.cut l [46]).2.1.toArray⟩, .bool (Lib.cut l [46]).2.2]) ∧ Below w.heap.size w w' := by
  obtain ⟨-, m, hm⟩ := hE
  exact (Tryd.strings_Cut ⟨l.toArray⟩ ⟨#[46]⟩ m w (by rw [size_of_list]; exact hl) hm).mono fun _ _ ⟨h1, n, h2⟩ => ⟨h1, by rw [h2]; exact below_drewN (Below.refl _ _) n⟩
theorem cut_s (l : List UInt8) (w : World) (hE : Env w) (hl : l.length < 4294967281) :
    Calls Tryd.prog 24 #[.string ⟨(Fx.size l).toArray⟩, .string ⟨#[46]⟩] w fun e w' => e = .returned (.tuple #[.string ⟨(Fx.whole l).toArray⟩, .string ⟨(Fx.part l).toArray⟩, .bool (Fx.dot l)]) ∧ Below w.heap.size w w' :=
  cut_l (Fx.size l) w hE (by have := Fx.size_le l; omega)
theorem digits_l (l : List UInt8) (m : Nat) (w : World) (hm : m ≤ 12) (hl : l.length < 4294967281) :
    Calls Tryd.prog 25 #[.string ⟨l.toArray⟩, .int .i64 m] w fun e w' => e = .returned (.tuple #[.int .i64 (Fx.dgV l m), .bool (Fx.dgOk l m)]) ∧ Below w.heap.size w w' :=
  digits_any ⟨l.toArray⟩ m w hm (by rw [size_of_list]; unfold maxLen; omega)
set_option maxHeartbeats 400000 in
theorem read_l (l : List UInt8) (w : World) (hE : Env w) (hl : l.length < 4294967281) :
    Calls Tryd.prog 10 #[.string ⟨l.toArray⟩] w fun e w' => e = .returned (.tuple #[.int .i64 (Fx.readV l), .int .i64 (Fx.readE l)]) ∧ Below w.heap.size w w' := by
  have HA := Lib.hid (cutPrefix_l l w)
  have HB := Lib.hid (cut_s l w hE hl)
  have hwl := Fx.whole_le l
  have hpl := Fx.part_le l
  by_cases hw : Fx.dgOk (Fx.whole l) 12 = true
  · obtain ⟨-, hw12, hwd⟩ := Fx.dgOk_len hw
    have hW := Fx.num_lt12 (Fx.whole l) hwd hw12
    have HD := fun w1 => Lib.hid (digits_l (Fx.whole l) 12 w1 (by omega) (by omega))
    rw [hw, show Fx.dgV (Fx.whole l) 12 = (Fx.num (Fx.whole l) : Int) from by unfold Fx.dgV; rw [hw]; rfl] at HD
    by_cases hd : Fx.dot l = true
    · rw [hd] at HB
      by_cases hp : Fx.dgOk (Fx.part l) 6 = true
      · obtain ⟨hok, hN⟩ := Fx.readOk_d hw hd hp
        have hpl2 := Fx.part_lt hp
        obtain ⟨hp1, hp6, hpd⟩ := Fx.dgOk_len hp
        have HP := fun w1 => Lib.hid (digits_l (Fx.part l) 6 w1 (by omega) (by omega))
        rw [hp, show Fx.dgV (Fx.part l) 6 = (Fx.num (Fx.part l) : Int) from by unfold Fx.dgV; rw [hp]; rfl] at HP
        have HW : Hid (∀ k, k ≤ 6 - (Fx.part l).length → Fx.num (Fx.part l) * 10 ^ k < 1000000) := fun k hk =>
          Nat.lt_of_le_of_lt (Nat.mul_le_mul_left _ (Nat.pow_le_pow_right (by decide) hk)) hpl2
        have HF : ∀ x : Int, x = (if Fx.neg l then -((Fx.num (Fx.whole l) * 1000000 + Fx.num (Fx.part l) * 10 ^ (6 - (Fx.part l).length) : Nat) : Int) else ((Fx.num (Fx.whole l) * 1000000 + Fx.num (Fx.part l) * 10 ^ (6 - (Fx.part l).length) : Nat) : Int)) → Hid (Ending.returned (.tuple #[.int .i64 x, .int .i64 0]) = .returned (.tuple #[.int .i64 (Fx.readV l), .int .i64 (Fx.readE l)])) := fun x hx =>
          Lib.hid (Fx.rtup_yes hok (by rw [hN]; exact hx))
        generalize Fx.num (Fx.whole l) = W at HD hW HF
        generalize Fx.num (Fx.part l) = P at HP HW HF
        clear hN hw hE hd hp hwd hok hpl2 hpd
        by_cases hn : Fx.neg l = true
        · rw [hn] at HA
          have HN := Lib.hid hn
          clear hn
          go_enter Tryd.func10, Tryd.ntmps10
          go_wp2_with fail
          refine HA.out.mono ?_
          rintro e w1 ⟨rfl, rfl⟩
          go_wp2_with fail
          refine HB.out.mono ?_
          rintro e w1 ⟨rfl, hb1⟩
          go_wp2_with fail
          refine (HD _).out.mono ?_
          rintro e w2 ⟨rfl, hb2⟩
          go_wp2_with fail
          refine (HP _).out.mono ?_
          rintro e w3 ⟨rfl, hb3⟩
          go_wp2
          go_loop [11, 42] (fun p i => ∃ k : Nat, k + (Fx.part l).length ≤ 6 ∧ i = .int .i64 k ∧ p = .int .i64 ((P * 10 ^ k : Nat) : Int)) (fun _ i => 6 - (intOf i).toNat)
          case atStart => exact ⟨0, by omega, rfl, by simp⟩
          case round =>
            obtain ⟨k, hk, rfl, rfl⟩ := hrel
            have hlt := HW.out k (by omega)
            have HS := Lib.hid (show P * 10 ^ (k + 1) = P * 10 ^ k * 10 from by rw [Nat.pow_succ, Nat.mul_assoc])
            generalize hg : P * 10 ^ k = x at hlt HS ⊢
            have HG := Lib.hid hg
            clear hg
            by_cases hlk : k + (Fx.part l).length < 6
            · have hlk' : (k : Int) < 6 - ((Fx.part l).length : Int) := by omega
              have e1 : wrap64 ((x : Int) * 10) = (x : Int) * 10 := IntWalk.wrap64_in _ ⟨by omega, by omega⟩
              clear hlt hW
              go_wp2
              go_round
              case rel => exact ⟨k + 1, by omega, by go_num, by rw [HS.out]; go_num⟩
              case measure => simp [intOf]; omega
            · have hlk' : ¬ (k : Int) < 6 - ((Fx.part l).length : Int) := by omega
              have hke : k = 6 - (Fx.part l).length := by omega
              have HK := Lib.hid hke
              have e1 : wrap64 ((W : Int) * 1000000) = (W : Int) * 1000000 := IntWalk.wrap64_in _ ⟨by omega, by omega⟩
              have e2 : wrap64 ((W : Int) * 1000000 + (x : Int)) = (W : Int) * 1000000 + (x : Int) := IntWalk.wrap64_in _ ⟨by omega, by omega⟩
              have e3 : wrap64 (-((W : Int) * 1000000 + (x : Int))) = -((W : Int) * 1000000 + (x : Int)) := IntWalk.wrap64_in _ ⟨by omega, by omega⟩
              clear hke hlt hW
              go_wp2
              go_ret2
              refine ⟨(HF _ ?_).out, (hb1.trans (hb2.mono hb1.size)).trans (hb3.mono (Nat.le_trans hb1.size hb2.size))⟩
              rw [HN.out, ← HK.out, HG.out]
              first | (rw [if_pos rfl]; first | (rw [e3]; omega) | omega) | (rw [if_neg (by decide)]; first | (rw [e2]; omega) | omega)
        · have hn : Fx.neg l = false := by simpa using hn
          rw [hn] at HA
          have HN := Lib.hid hn
          clear hn
          go_enter Tryd.func10, Tryd.ntmps10
          go_wp2_with fail
          refine HA.out.mono ?_
          rintro e w1 ⟨rfl, rfl⟩
          go_wp2_with fail
          refine HB.out.mono ?_
          rintro e w1 ⟨rfl, hb1⟩
          go_wp2_with fail
          refine (HD _).out.mono ?_
          rintro e w2 ⟨rfl, hb2⟩
          go_wp2_with fail
          refine (HP _).out.mono ?_
          rintro e w3 ⟨rfl, hb3⟩
          go_wp2
          go_loop [11, 42] (fun p i => ∃ k : Nat, k + (Fx.part l).length ≤ 6 ∧ i = .int .i64 k ∧ p = .int .i64 ((P * 10 ^ k : Nat) : Int)) (fun _ i => 6 - (intOf i).toNat)
          case atStart => exact ⟨0, by omega, rfl, by simp⟩
          case round =>
            obtain ⟨k, hk, rfl, rfl⟩ := hrel
            have hlt := HW.out k (by omega)
            have HS := Lib.hid (show P * 10 ^ (k + 1) = P * 10 ^ k * 10 from by rw [Nat.pow_succ, Nat.mul_assoc])
            generalize hg : P * 10 ^ k = x at hlt HS ⊢
            have HG := Lib.hid hg
            clear hg
            by_cases hlk : k + (Fx.part l).length < 6
            · have hlk' : (k : Int) < 6 - ((Fx.part l).length : Int) := by omega
              have e1 : wrap64 ((x : Int) * 10) = (x : Int) * 10 := IntWalk.wrap64_in _ ⟨by omega, by omega⟩
              clear hlt hW
              go_wp2
              go_round
              case rel => exact ⟨k + 1, by omega, by go_num, by rw [HS.out]; go_num⟩
              case measure => simp [intOf]; omega
            · have hlk' : ¬ (k : Int) < 6 - ((Fx.part l).length : Int) := by omega
              have hke : k = 6 - (Fx.part l).length := by omega
              have HK := Lib.hid hke
              have e1 : wrap64 ((W : Int) * 1000000) = (W : Int) * 1000000 := IntWalk.wrap64_in _ ⟨by omega, by omega⟩
              have e2 : wrap64 ((W : Int) * 1000000 + (x : Int)) = (W : Int) * 1000000 + (x : Int) := IntWalk.wrap64_in _ ⟨by omega, by omega⟩
              have e3 : wrap64 (-((W : Int) * 1000000 + (x : Int))) = -((W : Int) * 1000000 + (x : Int)) := IntWalk.wrap64_in _ ⟨by omega, by omega⟩
              clear hke hlt hW
              go_wp2
              go_ret2
              refine ⟨(HF _ ?_).out, (hb1.trans (hb2.mono hb1.size)).trans (hb3.mono (Nat.le_trans hb1.size hb2.size))⟩
              rw [HN.out, ← HK.out, HG.out]
              first | (rw [if_pos rfl]; first | (rw [e3]; omega) | omega) | (rw [if_neg (by decide)]; first | (rw [e2]; omega) | omega)
      · have hp : Fx.dgOk (Fx.part l) 6 = false := by simpa using hp
        have HF := Lib.hid (Fx.rtup_no (Fx.readOk_p hd hp))
        have HP := fun w1 => Lib.hid (digits_l (Fx.part l) 6 w1 (by omega) (by omega))
        rw [hp, show Fx.dgV (Fx.part l) 6 = 0 from by unfold Fx.dgV; rw [hp]; rfl] at HP
        clear hw hE hd hp hwd
        go_enter Tryd.func10, Tryd.ntmps10
        go_wp2_with fail
        refine HA.out.mono ?_
        rintro e w1 ⟨rfl, rfl⟩
        go_wp2_with fail
        refine HB.out.mono ?_
        rintro e w1 ⟨rfl, hb1⟩
        go_wp2_with fail
        refine (HD _).out.mono ?_
        rintro e w2 ⟨rfl, hb2⟩
        go_wp2_with fail
        refine (HP _).out.mono ?_
        rintro e w3 ⟨rfl, hb3⟩
        go_wp2
        go_ret2
        exact ⟨HF.out, (hb1.trans (hb2.mono hb1.size)).trans (hb3.mono (Nat.le_trans hb1.size hb2.size))⟩
    · have hd : Fx.dot l = false := by simpa using hd
      rw [hd] at HB
      obtain ⟨hok, hN⟩ := Fx.readOk_n hw hd
      have hx : (Fx.num (Fx.whole l) : Int) * 1000000 = ((Fx.readN l : Nat) : Int) := by rw [hN]; omega
      have HF := fun x h => Lib.hid (Fx.rtup_yes (l := l) (x := x) hok h)
      have HX := Lib.hid hx
      generalize Fx.num (Fx.whole l) = W at HD hW HX
      have e1 : wrap64 ((W : Int) * 1000000) = (W : Int) * 1000000 := IntWalk.wrap64_in _ ⟨by omega, by omega⟩
      have e2 : wrap64 (-((W : Int) * 1000000)) = -((W : Int) * 1000000) := IntWalk.wrap64_in _ ⟨by omega, by omega⟩
      clear hx hN hW hw hE hd hwd hok
      by_cases hn : Fx.neg l = true
      · rw [hn] at HA
        have HN := Lib.hid hn
        clear hn
        go_enter Tryd.func10, Tryd.ntmps10
        go_wp2_with fail
        refine HA.out.mono ?_
        rintro e w1 ⟨rfl, rfl⟩
        go_wp2_with fail
        refine HB.out.mono ?_
        rintro e w1 ⟨rfl, hb1⟩
        go_wp2_with fail
        refine (HD _).out.mono ?_
        rintro e w2 ⟨rfl, hb2⟩
        go_wp2
        go_ret2
        exact ⟨(HF _ (by rw [HN.out, if_pos rfl, ← HX.out]; exact e2)).out, hb1.trans (hb2.mono hb1.size)⟩
      · have hn : Fx.neg l = false := by simpa using hn
        rw [hn] at HA
        have HN := Lib.hid hn
        clear hn
        go_enter Tryd.func10, Tryd.ntmps10
        go_wp2_with fail
        refine HA.out.mono ?_
        rintro e w1 ⟨rfl, rfl⟩
        go_wp2_with fail
        refine HB.out.mono ?_
        rintro e w1 ⟨rfl, hb1⟩
        go_wp2_with fail
        refine (HD _).out.mono ?_
        rintro e w2 ⟨rfl, hb2⟩
        go_wp2
        go_ret2
        exact ⟨(HF _ (by rw [HN.out, if_neg (by decide), ← HX.out]; exact e1)).out, hb1.trans (hb2.mono hb1.size)⟩
  · have hw : Fx.dgOk (Fx.whole l) 12 = false := by simpa using hw
    have HF := Lib.hid (Fx.rtup_no (Fx.readOk_w hw))
    have HD := fun w1 => Lib.hid (digits_l (Fx.whole l) 12 w1 (by omega) (by omega))
    rw [hw, show Fx.dgV (Fx.whole l) 12 = 0 from by unfold Fx.dgV; rw [hw]; rfl] at HD
    clear hw hE
    go_enter Tryd.func10, Tryd.ntmps10
    go_wp2_with fail
    refine HA.out.mono ?_
    rintro e w1 ⟨rfl, rfl⟩
    go_wp2_with fail
    refine HB.out.mono ?_
    rintro e w1 ⟨rfl, hb1⟩
    go_wp2_with fail
    refine (HD _).out.mono ?_
    rintro e w2 ⟨rfl, hb2⟩
    go_wp2
    go_ret2
    exact ⟨HF.out, hb1.trans (hb2.mono hb1.size)⟩
end Go.Proofs.YtcjiphfdgdjbnaaDoor
