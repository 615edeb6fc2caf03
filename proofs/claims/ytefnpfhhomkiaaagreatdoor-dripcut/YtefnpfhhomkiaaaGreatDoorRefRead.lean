
/- What the document's Read (tidemillref01) answers, for any text. -/
import Derived.Test.YtefnpfhhomkiaaaGreatDoorRefCut
import Derived.ShutString
import Derived.WalkSmall
import Derived.Deep.DeepCutAuto
namespace Go.Proofs.YtefnpfhhomkiaaaGreatDoor
open Go.RowKit
theorem refCut_s (l : List UInt8) (w : World) (hl : l.length ≤ 9223372036854775807) :
    Calls Tryz.prog 40 #[.string ⟨(Fx.size l).toArray⟩, .int .u8 46] w fun e w' => e = .returned (.tuple #[.string ⟨(Fx.whole l).toArray⟩, .string ⟨(Fx.part l).toArray⟩, .bool (Fx.dot l)]) ∧ ∃ n, w' = w.drewN n :=
  refCut_any ⟨(Fx.size l).toArray⟩ 46 w (by rw [size_of_list]; have := Fx.size_le l; unfold maxLen; omega)
theorem refDigits_l (l : List UInt8) (m : Nat) (w : World) (hl : l.length ≤ 9223372036854775807) :
    Calls Tryz.prog 69 #[.string ⟨l.toArray⟩, .int .i64 m] w fun e w' => e = .returned (.bool (Fx.dgOk l m)) ∧ w = w' :=
  refDigits_any ⟨l.toArray⟩ m w (by rw [size_of_list]; unfold maxLen; omega)
/-- the sign, as a number -/
def Fx.sgn (l : List UInt8) : Int := if Fx.neg l then -1 else 1
set_option maxHeartbeats 800000 in
set_option maxRecDepth 100000 in
theorem refRead_any (s : ByteArray) (w : World) (hs : s.size ≤ maxLen) :
    Calls Tryz.prog 44 #[.string s] w fun e w' => e = .returned (.tuple #[.int .i64 (Fx.readV s.data.toList), .bool (Fx.readOk s.data.toList)]) ∧ ∃ n, w' = w.drewN n := by
  unfold maxLen at hs
  go_enter Tryz.func44, Tryz.ntmps44
  go_upto_region 2 with (fail)
  go_cut [18] (fun b wc => b = .bool (Fx.neg s.data.toList) ∧ w = wc)
  case first =>
    by_cases h0 : 0 < s.size
    · by_cases hc : s[0] = 45
      · have HN := Lib.hid (Fx.size_neg s h0 hc).1
        have hz : (((s[0]).toNat : Int) == 45) = true := by rw [hc]; rfl
        clear hc
        go_wp2
        go_meet
        case rel => exact ⟨by rw [HN.out], rfl⟩
      · have HN := Lib.hid (Fx.size_pos s (fun _ => hc)).1
        have hz : (((s[0]).toNat : Int) == 45) = false := beq_eq_false_iff_ne.2 (fun h => hc (UInt8.toNat_inj.1 (by simpa using Int.ofNat.inj h)))
        clear hc
        go_wp2
        go_meet
        case rel => exact ⟨by rw [HN.out], rfl⟩
    · have HN := Lib.hid (Fx.size_pos s (fun h => absurd h h0)).1
      go_wp2
      go_meet
      case rel => exact ⟨by rw [HN.out], rfl⟩
  case rest =>
    obtain ⟨rfl, rfl⟩ := hcut
    go_upto_if 18 with (fail)
    go_cut [0, 4] (fun a b wc => a = .string ⟨(Fx.size s.data.toList).toArray⟩ ∧ b = .int .i64 (Fx.sgn s.data.toList) ∧ w = wc)
    case first =>
      by_cases hn : Fx.neg s.data.toList = true
      · have HG : Hid (Fx.sgn s.data.toList = -1) := by show _ = _; unfold Fx.sgn; rw [hn]; rfl
        obtain ⟨h0, hc⟩ := Fx.neg_at s hn
        have HZ := Lib.hid (Fx.size_neg s h0 hc).2
        have hi : (1 : Int) ≤ (s.size : Int) := by omega
        clear hc
        rw [hn]
        go_wp2
        go_meet
        case rel => exact ⟨by rw [← HZ.out], by rw [HG.out], rfl⟩
      · have hn : Fx.neg s.data.toList = false := by simpa using hn
        have HG : Hid (Fx.sgn s.data.toList = 1) := by show _ = _; unfold Fx.sgn; rw [hn]; rfl
        have HZ := Lib.hid (Fx.size_pos s (fun h0 hc => by rw [(Fx.size_neg s h0 hc).1] at hn; cases hn)).2
        rw [hn]
        go_wp2
        go_meet
        case rel => exact ⟨by rw [← HZ.out], by rw [HG.out], rfl⟩
    case rest =>
      obtain ⟨rfl, rfl, rfl⟩ := hcut
      have HB := fun w1 => Lib.hid (refCut_s s.data.toList w1 (by rw [Fx.len_data]; exact hs))
      have hwl := Fx.whole_le s.data.toList
      have hpl := Fx.part_le s.data.toList
      rw [Fx.len_data] at hwl hpl
      have HD := fun w1 => Lib.hid (refDigits_l (Fx.whole s.data.toList) 12 w1 (by omega))
      have HP := fun w1 => Lib.hid (refDigits_l (Fx.part s.data.toList) 6 w1 (by omega))
      by_cases hw : Fx.dgOk (Fx.whole s.data.toList) 12 = true
      · rw [hw] at HD
        obtain ⟨-, hw12, hwd⟩ := Fx.dgOk_len hw
        have hW := Fx.num_lt12 (Fx.whole s.data.toList) hwd hw12
        by_cases hd : Fx.dot s.data.toList = true
        · rw [hd] at HB
          by_cases hp : Fx.dgOk (Fx.part s.data.toList) 6 = true
          · rw [hp] at HP
            obtain ⟨hp1, hp6, hpd⟩ := Fx.dgOk_len hp
            have hok := (Fx.readOk_d hw hd hp).1
            have h6 : Fx.gUp (Fx.num (Fx.whole s.data.toList)) (Fx.part s.data.toList) 6 = Fx.readN s.data.toList := by rcases Fx.gUp_six s.data.toList with h | ⟨h, -⟩; exact h; rw [hp] at h; cases h
            have hg : Fx.sgn s.data.toList = -1 ∨ Fx.sgn s.data.toList = 1 := by unfold Fx.sgn; cases Fx.neg s.data.toList <;> simp
            have HF : ∀ x : Int, x = Fx.sgn s.data.toList * (Fx.readN s.data.toList : Int) → Hid (Ending.returned (.tuple #[.int .i64 x, .bool true]) = .returned (.tuple #[.int .i64 (Fx.readV s.data.toList), .bool (Fx.readOk s.data.toList)])) := fun x hx => by
              show _ = _
              rw [(Fx.read_yes hok).1, hok, hx]
              unfold Fx.sgn
              cases Fx.neg s.data.toList <;> simp
            obtain ⟨ws, hws⟩ : ∃ ws : ByteArray, (⟨(Fx.whole s.data.toList).toArray⟩ : ByteArray) = ws := ⟨_, rfl⟩
            obtain ⟨ps, hps⟩ : ∃ ps : ByteArray, (⟨(Fx.part s.data.toList).toArray⟩ : ByteArray) = ps := ⟨_, rfl⟩
            have HWs : Hid (ws.data.toList.all Fx.dig = true ∧ (Fx.num ws.data.toList : Int) < 1000000000000) := by rw [← hws]; exact ⟨hwd, hW⟩
            have HPs : Hid (ps.data.toList.all Fx.dig = true ∧ Fx.gUp (Fx.num ws.data.toList) ps.data.toList 6 = Fx.readN s.data.toList) := by rw [← hws, ← hps]; exact ⟨hpd, h6⟩
            have hws12 : ws.size ≤ 12 := by rw [← hws, size_of_list]; exact hw12
            have Hws := Lib.hid hws
            have Hps := Lib.hid hps
            have hpsz : ps.size ≤ 9223372036854775807 := by rw [← hps, size_of_list]; omega
            clear hws hps
            generalize Fx.sgn s.data.toList = g at hg HF ⊢
            clear hw hd hp hwd hW hpd h6 hok hp1 hp6 hw12
            go_wp2_with fail
            refine (HB _).out.mono ?_
            rintro e w1 ⟨rfl, n1, rfl⟩
            go_wp2_with fail
            refine (HD _).out.mono ?_
            rintro e w2 ⟨rfl, rfl⟩
            go_wp2_with fail
            refine (HP _).out.mono ?_
            rintro e w2 ⟨rfl, rfl⟩
            go_wp2
            rw [Hws.out, Hps.out]
            go_loop [8, 9] (fun x i => ∃ k : Nat, k ≤ ws.size ∧ i = .int .i64 k ∧ x = .int .i64 (Fx.num (ws.data.toList.take k))) (fun _ i => ws.size - (intOf i).toNat)
            case atStart => exact ⟨0, Nat.zero_le _, rfl, rfl⟩
            case round =>
              obtain ⟨k, hk, rfl, rfl⟩ := hrel
              by_cases hlt : k < ws.size
              · have hN := Fx.num_lt12 (ws.data.toList.take k) (Fx.all_take ws k HWs.out.1) (by rw [List.length_take]; omega)
                obtain ⟨h48, h57⟩ := (Fx.dig_iff _).1 (Fx.dig_at ws k hlt HWs.out.1)
                have HS := Lib.hid (Fx.num_snoc (ws.data.toList.take k) ws[k])
                have HT := Lib.hid (Fx.take_snoc ws k hlt)
                generalize hx : Fx.num (ws.data.toList.take k) = x at hN HS ⊢
                have e1 : wrap64 ((x : Int) * 10) = (x : Int) * 10 := IntWalk.wrap64_in _ ⟨by omega, by omega⟩
                have e2 : wrap64 ((x : Int) * 10 + (((ws[k]).toNat : Int) - 48)) = (x : Int) * 10 + (((ws[k]).toNat : Int) - 48) := IntWalk.wrap64_in _ ⟨by omega, by omega⟩
                clear hN hx
                go_wp2
                go_round
                case rel => exact ⟨k + 1, by omega, by go_num, by rw [HT.out, HS.out]; go_num⟩
                case measure => simp [intOf]; omega
              · obtain rfl : k = ws.size := by omega
                rw [Fx.take_all]
                go_wp2
                go_loop [8, 10] (fun x i => ∃ k : Nat, k ≤ 6 ∧ i = .int .i64 k ∧ x = .int .i64 (Fx.gUp (Fx.num ws.data.toList) ps.data.toList k)) (fun _ i => 6 - (intOf i).toNat)
                case atStart => exact ⟨0, Nat.zero_le _, rfl, by rw [Fx.gUp_zero]⟩
                case round =>
                  obtain ⟨j, hj, rfl, rfl⟩ := hrel
                  have hG := Fx.gUp_lt (N := Fx.num ws.data.toList) (p := ps.data.toList) j HWs.out.2 HPs.out.1 hj
                  have hG5 : j ≤ 5 → (Fx.gUp (Fx.num ws.data.toList) ps.data.toList j : Int) < 100000000000000000 := fun h => by have := Fx.gUp_lt (N := Fx.num ws.data.toList) (p := ps.data.toList) (j + 1) HWs.out.2 HPs.out.1 (by omega); have h2 := Fx.gUp_ge (Fx.num ws.data.toList) ps j; omega
                  by_cases hjl : j < 6
                  · have hG5 := hG5 (by omega)
                    by_cases hjp : j < ps.size
                    · obtain ⟨h48, h57⟩ := (Fx.dig_iff _).1 (Fx.dig_at ps j hjp HPs.out.1)
                      have HS := Lib.hid (Fx.gUp_in (N := Fx.num ws.data.toList) ps hjp)
                      generalize Fx.gUp (Fx.num ws.data.toList) ps.data.toList j = x at hG hG5 HS ⊢
                      have e1 : wrap64 ((x : Int) * 10) = (x : Int) * 10 := IntWalk.wrap64_in _ ⟨by omega, by omega⟩
                      have e2 : wrap64 ((x : Int) * 10 + (((ps[j]).toNat : Int) - 48)) = (x : Int) * 10 + (((ps[j]).toNat : Int) - 48) := IntWalk.wrap64_in _ ⟨by omega, by omega⟩
                      clear hG hG5
                      go_wp2
                      go_round
                      case rel => exact ⟨j + 1, by omega, by go_num, by rw [HS.out]; go_num⟩
                      case measure => simp [intOf]; omega
                    · have HS := Lib.hid (Fx.gUp_out (N := Fx.num ws.data.toList) ps (i := j) (by omega))
                      generalize Fx.gUp (Fx.num ws.data.toList) ps.data.toList j = x at hG hG5 HS ⊢
                      have e1 : wrap64 ((x : Int) * 10) = (x : Int) * 10 := IntWalk.wrap64_in _ ⟨by omega, by omega⟩
                      clear hG hG5
                      go_wp2
                      go_round
                      case rel => exact ⟨j + 1, by omega, by go_num, by rw [HS.out]; go_num⟩
                      case measure => simp [intOf]; omega
                  · obtain rfl : j = 6 := by omega
                    have HX0 := HPs.out.2
                    generalize Fx.gUp (Fx.num ws.data.toList) ps.data.toList 6 = x at hG HX0 ⊢
                    have HX := Lib.hid HX0
                    have e1 : wrap64 (g * (x : Int)) = g * (x : Int) := IntWalk.wrap64_in _ (by rcases hg with rfl | rfl <;> omega)
                    clear hG hG5 HX0
                    go_wp2
                    go_ret2
                    refine ⟨(HF _ ?_).out, n1, rfl⟩
                    rw [← HX.out]
          · have hp : Fx.dgOk (Fx.part s.data.toList) 6 = false := by simpa using hp
            rw [hp] at HP
            have HF : Hid (Ending.returned (.tuple #[.int .i64 0, .bool false]) = .returned (.tuple #[.int .i64 (Fx.readV s.data.toList), .bool (Fx.readOk s.data.toList)])) := by
              show _ = _
              have h := Fx.readOk_p hd hp
              rw [(Fx.read_no h).1, h]
            clear hw hd hp hwd hW
            go_wp2_with fail
            refine (HB _).out.mono ?_
            rintro e w1 ⟨rfl, n1, rfl⟩
            go_wp2_with fail
            refine (HD _).out.mono ?_
            rintro e w2 ⟨rfl, rfl⟩
            go_wp2_with fail
            refine (HP _).out.mono ?_
            rintro e w2 ⟨rfl, rfl⟩
            go_wp2
            go_ret2
            exact ⟨HF.out, n1, rfl⟩
        · have hd : Fx.dot s.data.toList = false := by simpa using hd
          rw [hd] at HB
          have hpd : (Fx.part s.data.toList).all Fx.dig = true := by rw [Fx.dot_none hd]; rfl
          have hok := (Fx.readOk_n hw hd).1
          have h6 : Fx.gUp (Fx.num (Fx.whole s.data.toList)) (Fx.part s.data.toList) 6 = Fx.readN s.data.toList := by rcases Fx.gUp_six s.data.toList with h | ⟨-, h⟩; exact h; rw [hd] at h; cases h
          have hg : Fx.sgn s.data.toList = -1 ∨ Fx.sgn s.data.toList = 1 := by unfold Fx.sgn; cases Fx.neg s.data.toList <;> simp
          have HF : ∀ x : Int, x = Fx.sgn s.data.toList * (Fx.readN s.data.toList : Int) → Hid (Ending.returned (.tuple #[.int .i64 x, .bool true]) = .returned (.tuple #[.int .i64 (Fx.readV s.data.toList), .bool (Fx.readOk s.data.toList)])) := fun x hx => by
            show _ = _
            rw [(Fx.read_yes hok).1, hok, hx]
            unfold Fx.sgn
            cases Fx.neg s.data.toList <;> simp
          obtain ⟨ws, hws⟩ : ∃ ws : ByteArray, (⟨(Fx.whole s.data.toList).toArray⟩ : ByteArray) = ws := ⟨_, rfl⟩
          obtain ⟨ps, hps⟩ : ∃ ps : ByteArray, (⟨(Fx.part s.data.toList).toArray⟩ : ByteArray) = ps := ⟨_, rfl⟩
          have HWs : Hid (ws.data.toList.all Fx.dig = true ∧ (Fx.num ws.data.toList : Int) < 1000000000000) := by rw [← hws]; exact ⟨hwd, hW⟩
          have HPs : Hid (ps.data.toList.all Fx.dig = true ∧ Fx.gUp (Fx.num ws.data.toList) ps.data.toList 6 = Fx.readN s.data.toList) := by rw [← hws, ← hps]; exact ⟨hpd, h6⟩
          have hws12 : ws.size ≤ 12 := by rw [← hws, size_of_list]; exact hw12
          have Hws := Lib.hid hws
          have Hps := Lib.hid hps
          have hpsz : ps.size ≤ 9223372036854775807 := by rw [← hps, size_of_list]; omega
          clear hws hps
          generalize Fx.sgn s.data.toList = g at hg HF ⊢
          clear hw hd hwd hW hpd h6 hok hw12
          go_wp2_with fail
          refine (HB _).out.mono ?_
          rintro e w1 ⟨rfl, n1, rfl⟩
          go_wp2_with fail
          refine (HD _).out.mono ?_
          rintro e w2 ⟨rfl, rfl⟩
          go_wp2
          rw [Hws.out, Hps.out]
          go_loop [8, 9] (fun x i => ∃ k : Nat, k ≤ ws.size ∧ i = .int .i64 k ∧ x = .int .i64 (Fx.num (ws.data.toList.take k))) (fun _ i => ws.size - (intOf i).toNat)
          case atStart => exact ⟨0, Nat.zero_le _, rfl, rfl⟩
          case round =>
            obtain ⟨k, hk, rfl, rfl⟩ := hrel
            by_cases hlt : k < ws.size
            · have hN := Fx.num_lt12 (ws.data.toList.take k) (Fx.all_take ws k HWs.out.1) (by rw [List.length_take]; omega)
              obtain ⟨h48, h57⟩ := (Fx.dig_iff _).1 (Fx.dig_at ws k hlt HWs.out.1)
              have HS := Lib.hid (Fx.num_snoc (ws.data.toList.take k) ws[k])
              have HT := Lib.hid (Fx.take_snoc ws k hlt)
              generalize hx : Fx.num (ws.data.toList.take k) = x at hN HS ⊢
              have e1 : wrap64 ((x : Int) * 10) = (x : Int) * 10 := IntWalk.wrap64_in _ ⟨by omega, by omega⟩
              have e2 : wrap64 ((x : Int) * 10 + (((ws[k]).toNat : Int) - 48)) = (x : Int) * 10 + (((ws[k]).toNat : Int) - 48) := IntWalk.wrap64_in _ ⟨by omega, by omega⟩
              clear hN hx
              go_wp2
              go_round
              case rel => exact ⟨k + 1, by omega, by go_num, by rw [HT.out, HS.out]; go_num⟩
              case measure => simp [intOf]; omega
            · obtain rfl : k = ws.size := by omega
              rw [Fx.take_all]
              go_wp2
              go_loop [8, 10] (fun x i => ∃ k : Nat, k ≤ 6 ∧ i = .int .i64 k ∧ x = .int .i64 (Fx.gUp (Fx.num ws.data.toList) ps.data.toList k)) (fun _ i => 6 - (intOf i).toNat)
              case atStart => exact ⟨0, Nat.zero_le _, rfl, by rw [Fx.gUp_zero]⟩
              case round =>
                obtain ⟨j, hj, rfl, rfl⟩ := hrel
                have hG := Fx.gUp_lt (N := Fx.num ws.data.toList) (p := ps.data.toList) j HWs.out.2 HPs.out.1 hj
                have hG5 : j ≤ 5 → (Fx.gUp (Fx.num ws.data.toList) ps.data.toList j : Int) < 100000000000000000 := fun h => by have := Fx.gUp_lt (N := Fx.num ws.data.toList) (p := ps.data.toList) (j + 1) HWs.out.2 HPs.out.1 (by omega); have h2 := Fx.gUp_ge (Fx.num ws.data.toList) ps j; omega
                by_cases hjl : j < 6
                · have hG5 := hG5 (by omega)
                  by_cases hjp : j < ps.size
                  · obtain ⟨h48, h57⟩ := (Fx.dig_iff _).1 (Fx.dig_at ps j hjp HPs.out.1)
                    have HS := Lib.hid (Fx.gUp_in (N := Fx.num ws.data.toList) ps hjp)
                    generalize Fx.gUp (Fx.num ws.data.toList) ps.data.toList j = x at hG hG5 HS ⊢
                    have e1 : wrap64 ((x : Int) * 10) = (x : Int) * 10 := IntWalk.wrap64_in _ ⟨by omega, by omega⟩
                    have e2 : wrap64 ((x : Int) * 10 + (((ps[j]).toNat : Int) - 48)) = (x : Int) * 10 + (((ps[j]).toNat : Int) - 48) := IntWalk.wrap64_in _ ⟨by omega, by omega⟩
                    clear hG hG5
                    go_wp2
                    go_round
                    case rel => exact ⟨j + 1, by omega, by go_num, by rw [HS.out]; go_num⟩
                    case measure => simp [intOf]; omega
                  · have HS := Lib.hid (Fx.gUp_out (N := Fx.num ws.data.toList) ps (i := j) (by omega))
                    generalize Fx.gUp (Fx.num ws.data.toList) ps.data.toList j = x at hG hG5 HS ⊢
                    have e1 : wrap64 ((x : Int) * 10) = (x : Int) * 10 := IntWalk.wrap64_in _ ⟨by omega, by omega⟩
                    clear hG hG5
                    go_wp2
                    go_round
                    case rel => exact ⟨j + 1, by omega, by go_num, by rw [HS.out]; go_num⟩
                    case measure => simp [intOf]; omega
                · obtain rfl : j = 6 := by omega
                  have HX0 := HPs.out.2
                  generalize Fx.gUp (Fx.num ws.data.toList) ps.data.toList 6 = x at hG HX0 ⊢
                  have HX := Lib.hid HX0
                  have e1 : wrap64 (g * (x : Int)) = g * (x : Int) := IntWalk.wrap64_in _ (by rcases hg with rfl | rfl <;> omega)
                  clear hG hG5 HX0
                  go_wp2
                  go_ret2
                  refine ⟨(HF _ ?_).out, n1, rfl⟩
                  rw [← HX.out]
      · have hw : Fx.dgOk (Fx.whole s.data.toList) 12 = false := by simpa using hw
        rw [hw] at HD
        have HF : Hid (Ending.returned (.tuple #[.int .i64 0, .bool false]) = .returned (.tuple #[.int .i64 (Fx.readV s.data.toList), .bool (Fx.readOk s.data.toList)])) := by
          show _ = _
          have h := Fx.readOk_w hw
          rw [(Fx.read_no h).1, h]
        clear hw
        go_wp2_with fail
        refine (HB _).out.mono ?_
        rintro e w1 ⟨rfl, n1, rfl⟩
        go_wp2_with fail
        refine (HD _).out.mono ?_
        rintro e w2 ⟨rfl, rfl⟩
        go_wp2
        go_ret2
        exact ⟨HF.out, n1, rfl⟩
end Go.Proofs.YtefnpfhhomkiaaaGreatDoor
