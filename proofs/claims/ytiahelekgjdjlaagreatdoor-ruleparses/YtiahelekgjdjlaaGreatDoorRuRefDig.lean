
/- What the document's own digits answers: the number behind a word. -/
import Derived.Test.YtiahelekgjdjlaaGreatDoorRuDigP
import Derived.Test.YtiahelekgjdjlaaGreatDoorGsC
import Derived.Test.YtiahelekgjdjlaaGreatDoorRefCut
namespace Go.Proofs.YtiahelekgjdjlaaGreatDoor
open Go.RowKit Go.Shelf
open Dp Gb
attribute [local go_sem] Oper.semAt_some
namespace Ru
theorem dig_at' (s : ByteArray) (k : Nat) (h : k < s.size) (ha : s.data.toList.all Fx.dig = true) : Fx.dig s[k] = true := by
  rw [List.all_eq_true] at ha
  exact ha _ (Array.mem_toList_iff.2 (Array.getElem_mem h))
theorem all_take' (s : ByteArray) (k : Nat) (ha : s.data.toList.all Fx.dig = true) : (s.data.toList.take k).all Fx.dig = true := by
  rw [List.all_eq_true] at ha ⊢
  exact fun c hc => ha c (List.mem_of_mem_take hc)
set_option maxRecDepth 100000 in
set_option maxHeartbeats 4000000 in
theorem refDig_any (s p : List UInt8) (w : World) (hs : s.length ≤ 100000) (hp : p.length ≤ 100) :
    Calls Tryz.prog 70 #[.string (B s), .string (B p)] w fun e w' => ∃ n : Int, e = .returned (.tuple #[.int .i64 n, .bool (digD p s).isSome]) ∧ (∀ v, digD p s = some v → n = v) ∧ w = w' := by
  have x1 : (B s).extract 0 p.length = B (s.take p.length) := by rw [Lib.extract_eq]; rfl
  have x2 : (B s).extract p.length (B s).size = B (s.drop p.length) := by
    rw [Lib.extract_eq, B_size]
    show (⟨((s.drop p.length).take (s.length - p.length)).toArray⟩ : ByteArray) = _
    rw [List.take_of_length_le (by rw [List.length_drop]; exact Nat.le_refl _)]
  have q1 : ((B (s.take p.length)).toList == (B p).toList) = (s.take p.length == p) := eq_toL _ _
  have hz : ((B s).size : Int) = (s.length : Int) := by rw [B_size]
  have hzp : ((B p).size : Int) = (p.length : Int) := by rw [B_size]
  have HZ : Hid ((B p).size = p.length) := B_size p
  have HZS : Hid ((B s).size = s.length) := B_size s
  have HN : Hid (digD p s = if p.length < s.length ∧ s.take p.length = p then numP (s.drop p.length) else none) := rfl
  obtain ⟨d, hd⟩ : ∃ d, s.drop p.length = d := ⟨_, rfl⟩
  have HDL : Hid (d.length = s.length - p.length) := by show _ = _; rw [← hd, List.length_drop]
  rw [hd] at x2 HN
  have HD := Lib.hid (refDigits_any (B d) 13 w (by rw [B_size, HDL.out]; unfold maxLen; omega))
  obtain ⟨a, ha⟩ : ∃ a, s.length = a := ⟨_, rfl⟩
  obtain ⟨b, hb⟩ : ∃ b, p.length = b := ⟨_, rfl⟩
  have hq : (s.take p.length == p) = decide (s.take p.length = p) := by rw [Bool.eq_iff_iff, beq_iff_eq, decide_eq_true_eq]
  rw [hq] at q1
  rw [ha] at HN hz HZS HDL
  rw [hb] at HN hzp x1 q1 HZ x2 HDL
  have HPF : Hid ((s.take b = p) = (s.take b = p)) := rfl
  obtain ⟨g, hg⟩ : ∃ g, decide (s.take b = p) = g := ⟨_, rfl⟩
  have HG : Hid ((s.take b = p) ↔ g = true) := by show _ ↔ _; rw [← hg, decide_eq_true_eq]
  rw [hg] at q1
  rw [ha] at hs
  obtain ⟨sb, hsb⟩ : ∃ t, B s = t := ⟨_, rfl⟩
  obtain ⟨pb, hpb⟩ : ∃ t, B p = t := ⟨_, rfl⟩
  obtain ⟨tb, htb⟩ : ∃ t, B (s.take b) = t := ⟨_, rfl⟩
  rw [hsb, htb] at x1
  rw [hsb] at hz x2 HZS ⊢
  rw [hpb] at hzp q1 HZ ⊢
  rw [htb] at q1
  clear hd ha hb hq hg hsb hpb htb hp HPF
  by_cases h1 : b < a
  case neg =>
    have i1 : (a : Int) ≤ (b : Int) := by omega
    have HR : Hid (digD p s = none) := by show _ = _; rw [HN.out, if_neg (fun h => h1 h.1)]
    clear HN HG HD x1 x2 q1 HDL h1
    go_enter Tryz.func70, Tryz.ntmps70
    go_wp2
    go_ret2
    exact ⟨_, by rw [HR.out]; rfl, fun v h => (by rw [HR.out] at h; cases h), rfl⟩
  have i1 : ¬ (a : Int) ≤ (b : Int) := by omega
  cases g with
  | false =>
    have HR : Hid (digD p s = none) := by show _ = _; rw [HN.out, if_neg (fun h => by have := HG.out.1 h.2; cases this)]
    clear HN HG HD x2 HDL h1
    go_enter Tryz.func70, Tryz.ntmps70
    go_wp2
    go_ret2
    exact ⟨_, by rw [HR.out]; rfl, fun v h => (by rw [HR.out] at h; cases h), rfl⟩
  | true =>
    have HR : Hid (digD p s = if dgNo d then some (Fx.num d : Int) else none) := by show _ = _; rw [HN.out, if_pos ⟨h1, HG.out.2 rfl⟩, numP_eq]
    obtain ⟨db, hdb⟩ : ∃ db, db = B d := ⟨_, rfl⟩
    have hdz : db.size = a - b := by rw [hdb, B_size, HDL.out]
    have hdz1 : 1 ≤ db.size := by omega
    have h0 : ∃ h : 0 < db.size, db[0] = d.headD 0 := by
      refine ⟨hdz1, ?_⟩
      subst hdb
      cases d with
      | nil => exact absurd hdz1 (by decide)
      | cons c t => rfl
    have HSL : Hid (db.data.toList = d) := by show _ = _; rw [hdb]
    have HDN : Hid (dgNo d = (Fx.dgOk d 13 && !(decide (1 < db.size) && d.headD 0 == 48))) := by show _ = _; unfold dgNo; rw [hdb, B_size]
    have HD : Hid (Calls Tryz.prog 94 #[.string db, .int .i64 13] w fun e w' => e = .returned (.bool (Fx.dgOk d 13)) ∧ w = w') := by
      have := HD.out
      rw [← hdb] at this
      rw [HSL.out] at this
      exact this
    have HOK : Hid (Fx.dgOk d 13 = true → db.size ≤ 13 ∧ db.data.toList.all Fx.dig = true) := fun h => by
      obtain ⟨h1, h2, h3⟩ := Fx.dgOk_len h
      rw [HSL.out]
      exact ⟨by rw [hdb, B_size]; exact h2, h3⟩
    rw [← hdb] at x2
    obtain ⟨c0, hc0⟩ : ∃ c, d.headD 0 = c := ⟨_, rfl⟩
    rw [hc0] at h0 HDN
    obtain ⟨h0l, h0⟩ := h0
    clear HN HG HDL h1 hdb hc0 hdz
    obtain ⟨ok, hok⟩ : ∃ ok, Fx.dgOk d 13 = ok := ⟨_, rfl⟩
    rw [hok] at HD HDN HOK
    have HV : Hid (∀ k, k < db.size → Fx.num (db.data.toList.take (k + 1)) = Fx.num (db.data.toList.take k) * 10 + ((db.data.toList.getD k 0).toNat - 48)) := fun k hk => by
      rw [List.take_succ_eq_append_getElem (by rw [Fx.len_data]; exact hk), Fx.num_snoc]
      congr 2
      rw [List.getD_eq_getElem?_getD, List.getElem?_eq_getElem (by rw [Fx.len_data]; exact hk)]
      rfl
    clear hok
    go_enter Tryz.func70, Tryz.ntmps70
    go_wp2_with fail
    refine HD.out.mono ?_
    rintro e w1 ⟨rfl, rfl⟩
    cases ok with
    | false =>
      have HR2 : Hid (digD p s = none) := by show _ = _; rw [HR.out, HDN.out]; rfl
      clear HR HDN HOK HV HD
      go_wp2
      go_ret2
      exact ⟨_, by rw [HR2.out]; rfl, fun v h => (by rw [HR2.out] at h; cases h), rfl⟩
    | true =>
      have HA : Hid (db.data.toList.all Fx.dig = true) := (HOK.out rfl).2
      have hs13 : db.size ≤ 13 := (HOK.out rfl).1
      clear HOK HD HV
      by_cases hl1 : 1 < db.size
      · have il1 : (1 : Int) < (db.size : Int) := by omega
        by_cases hc : c0 = 48
        · have HR2 : Hid (digD p s = none) := by show _ = _; rw [HR.out, HDN.out, decide_eq_true hl1, hc]; rfl
          subst hc
          clear HR HDN
          go_wp2
          go_ret2
          exact ⟨_, by rw [HR2.out]; rfl, fun v h => (by rw [HR2.out] at h; cases h), rfl⟩
        · have HR2 : Hid (digD p s = some (Fx.num d : Int)) := by show _ = _; rw [HR.out, HDN.out, beq_eq_false_iff_ne.2 hc, Bool.and_false]; rfl
          have hc' : ¬ (c0.toNat : Int) = 48 := fun e => hc (UInt8.toNat_inj.1 (by have : (48 : UInt8).toNat = 48 := rfl
                                                                                   omega))
          clear HR HDN hc
          go_wp2
          go_loop [7, 8] (fun n i => ∃ k : Nat, k ≤ db.size ∧ i = .int .i64 k ∧ n = .int .i64 ((Fx.num (db.data.toList.take k) : Nat) : Int)) (fun _ i => db.size - (intOf i).toNat)
          case atStart => exact ⟨0, Nat.zero_le _, rfl, rfl⟩
          case round =>
            obtain ⟨k, hk, rfl, rfl⟩ := hrel
            by_cases hlt : k < db.size
            · have hd := dig_at' db k hlt HA.out
              obtain ⟨d1, d2⟩ := (Fx.dig_iff _).1 hd
              have HV2 : Hid (Fx.num (db.data.toList.take (k + 1)) = Fx.num (db.data.toList.take k) * 10 + (db[k].toNat - 48)) := by
                show _ = _
                rw [Fx.take_snoc db k hlt, Fx.num_snoc]
              have hb := Fx.num_le (db.data.toList.take k) 12 (all_take' db k HA.out) (by rw [List.length_take]; omega)
              have h12 : (10 : Nat) ^ 12 = 1000000000000 := by decide
              rw [h12] at hb
              clear h12 hd
              generalize Fx.num (db.data.toList.take k) = x at hb HV2 ⊢
              obtain ⟨c, hc⟩ : ∃ c, db[k] = c := ⟨_, rfl⟩
              have e1 : wrap64 ((x : Int) * 10) = (x : Int) * 10 := IntWalk.wrap64_in _ ⟨by omega, by omega⟩
              rw [hc] at d1 d2 HV2
              have e2 : IntKind.u8.wrap ((c.toNat : Int) - 48) = (c.toNat : Int) - 48 := by rw [IntKind.wrap_u8]; omega
              have e3 : wrap64 ((c.toNat : Int) - 48) = (c.toNat : Int) - 48 := IntWalk.wrap64_in _ ⟨by omega, by omega⟩
              have e4 : wrap64 ((x : Int) * 10 + ((c.toNat : Int) - 48)) = (x : Int) * 10 + ((c.toNat : Int) - 48) := IntWalk.wrap64_in _ ⟨by omega, by omega⟩
              clear hb
              go_wp2
              go_round
              case rel => exact ⟨k + 1, by omega, by go_num, by rw [HV2.out]; congr 1; omega⟩
              case measure => simp [intOf]; omega
            · obtain rfl : k = db.size := by omega
              have HX : Hid (Fx.num (db.data.toList.take db.size) = Fx.num d) := by show _ = _; rw [Fx.take_all, HSL.out]
              generalize Fx.num (db.data.toList.take db.size) = x at HX ⊢
              go_wp2
              go_ret2
              exact ⟨_, by rw [HR2.out]; rfl, fun v h => (by rw [HR2.out] at h; injection h with h; rw [← h, ← HX.out]), rfl⟩
      · have il1 : ¬ (1 : Int) < (db.size : Int) := by omega
        have HR2 : Hid (digD p s = some (Fx.num d : Int)) := by show _ = _; rw [HR.out, HDN.out, decide_eq_false hl1]; rfl
        clear HR HDN
        go_wp2
        go_loop [7, 8] (fun n i => ∃ k : Nat, k ≤ db.size ∧ i = .int .i64 k ∧ n = .int .i64 ((Fx.num (db.data.toList.take k) : Nat) : Int)) (fun _ i => db.size - (intOf i).toNat)
        case atStart => exact ⟨0, Nat.zero_le _, rfl, rfl⟩
        case round =>
          obtain ⟨k, hk, rfl, rfl⟩ := hrel
          by_cases hlt : k < db.size
          · have hd := dig_at' db k hlt HA.out
            obtain ⟨d1, d2⟩ := (Fx.dig_iff _).1 hd
            have HV2 : Hid (Fx.num (db.data.toList.take (k + 1)) = Fx.num (db.data.toList.take k) * 10 + (db[k].toNat - 48)) := by
              show _ = _
              rw [Fx.take_snoc db k hlt, Fx.num_snoc]
            have hb := Fx.num_le (db.data.toList.take k) 12 (all_take' db k HA.out) (by rw [List.length_take]; omega)
            have h12 : (10 : Nat) ^ 12 = 1000000000000 := by decide
            rw [h12] at hb
            clear h12 hd
            generalize Fx.num (db.data.toList.take k) = x at hb HV2 ⊢
            obtain ⟨c, hc⟩ : ∃ c, db[k] = c := ⟨_, rfl⟩
            have e1 : wrap64 ((x : Int) * 10) = (x : Int) * 10 := IntWalk.wrap64_in _ ⟨by omega, by omega⟩
            rw [hc] at d1 d2 HV2
            have e2 : IntKind.u8.wrap ((c.toNat : Int) - 48) = (c.toNat : Int) - 48 := by rw [IntKind.wrap_u8]; omega
            have e3 : wrap64 ((c.toNat : Int) - 48) = (c.toNat : Int) - 48 := IntWalk.wrap64_in _ ⟨by omega, by omega⟩
            have e4 : wrap64 ((x : Int) * 10 + ((c.toNat : Int) - 48)) = (x : Int) * 10 + ((c.toNat : Int) - 48) := IntWalk.wrap64_in _ ⟨by omega, by omega⟩
            clear hb
            go_wp2
            go_round
            case rel => exact ⟨k + 1, by omega, by go_num, by rw [HV2.out]; congr 1; omega⟩
            case measure => simp [intOf]; omega
          · obtain rfl : k = db.size := by omega
            have HX : Hid (Fx.num (db.data.toList.take db.size) = Fx.num d) := by show _ = _; rw [Fx.take_all, HSL.out]
            generalize Fx.num (db.data.toList.take db.size) = x at HX ⊢
            go_wp2
            go_ret2
            exact ⟨_, by rw [HR2.out]; rfl, fun v h => (by rw [HR2.out] at h; injection h with h; rw [← h, ← HX.out]), rfl⟩
end Ru
end Go.Proofs.YtiahelekgjdjlaaGreatDoor
