/- Texts that are not too long; all of a list's first. What package rule's matchers answers. What package rule's targets answers. What package rule's rising and names answer. What package rule's names, Policy and policyFault answer. -/
import Derived.Test.YtiahelekgjdjlaaGreatDoorGsW
import Derived.Test.YtiahelekgjdjlaaGreatDoorGsG
import Derived.Test.YtiahelekgjdjlaaGreatDoorGsD
import Derived.Test.YtiahelekgjdjlaaGreatDoorGsE
namespace Go.Proofs.YtiahelekgjdjlaaGreatDoor
open Go.RowKit Go.Shelf
open Dp Gb
attribute [local go_sem] Oper.semAt_some
namespace Ru
def FitM (l : List Mat) : Prop := ∀ m ∈ l, m.name.length ≤ maxLen ∧ m.pat.length ≤ maxLen
def FitT (l : List (List UInt8)) : Prop := ∀ x ∈ l, x.length ≤ maxLen
theorem FitT.at {l : List (List UInt8)} (h : FitT l) {i : Nat} {x : List UInt8} (hx : l[i]? = some x) : x.length ≤ maxLen := h x (List.mem_of_getElem? hx)
theorem allT {α : Type} {p : α → Bool} {l : List α} {k : Nat} {x : α} (h : (l.take k).all p = true) (hx : l[k]? = some x) (h1 : p x = true) : (l.take (k + 1)).all p = true := by
  obtain ⟨hk, rfl⟩ := List.getElem?_eq_some_iff.1 hx
  exact all_snocL p hk h h1
theorem allF {α : Type} {p : α → Bool} {l : List α} {k : Nat} {x : α} (hx : l[k]? = some x) (h1 : p x = false) : l.all p = false := by
  obtain ⟨hk, rfl⟩ := List.getElem?_eq_some_iff.1 hx
  exact all_notL p hk h1
end Ru
end Go.Proofs.YtiahelekgjdjlaaGreatDoor
namespace Go.Proofs.YtiahelekgjdjlaaGreatDoor
open Go.RowKit Go.Shelf
open Dp Gb
attribute [local go_sem] Oper.semAt_some
namespace Ru
set_option maxRecDepth 100000 in
set_option maxHeartbeats 4000000 in
theorem matchers_any (v : Value) (l : List Mat) (w : World) (hE : EnvC w) (hF : FitM l) (hv : RdM w v l) (hl : l.length ≤ 100000) :
    Calls Tryz.prog 103 #[v] w fun e w' => e = .returned (.bool (matsOk l)) ∧ Below w.heap.size w w' := by
  obtain ⟨a, c, rfl, hc, hat⟩ := RdM.at hv
  have HN : Hid (matsOk l = (decide (l.length ≤ 6) && l.all matOk)) := rfl
  have HNL : Hid (∃ n, l.length = n) := ⟨_, rfl⟩
  obtain ⟨n, hn⟩ := HNL.out
  have HL := Lib.hid hn
  have HAT := Lib.hid hat
  have HF := Lib.hid hF
  have HE := Lib.hid hE
  have hn1 : n ≤ 100000 := by omega
  rw [hn]
  by_cases h6 : n ≤ 6
  · have HM : Hid (matsOk l = l.all matOk) := by show _ = _; rw [HN.out, hn, decide_eq_true h6, Bool.true_and]
    have i6 : ¬ (6 : Int) < (n : Int) := by omega
    clear hat hv hF hE hl HN HNL hn hc
    go_enter Tryz.func103, Tryz.ntmps103
    go_wp2
    go_loopw [4, 10] (fun _ i wr => ∃ k : Nat, k ≤ n ∧ i = .int .i64 k ∧ Hid ((l.take k).all matOk = true ∧ Below w.heap.size w wr)) (fun _ i _ => n - (intOf i).toNat)
    case atStart => exact ⟨0, Nat.zero_le _, rfl, rfl, Below.refl _ _⟩
    case round =>
      obtain ⟨k, hk, rfl, HR⟩ := hrel
      by_cases hlt : k < n
      · obtain ⟨b, o, rfl, hcs⟩ := HAT.out (by rw [HL.out]; omega)
        obtain ⟨m, hm⟩ : ∃ m, l[k]? = some m := ⟨_, List.getElem?_eq_getElem (by rw [HL.out]; exact hlt)⟩
        have HW : Hid (Below w.heap.size w wr) := HR.out.2
        have q0 : wr.cell? ⟨b, o + k * 3, none⟩ = some (.string (B m.name)) := (HW.out.cell (p := ⟨b, o + k * 3, none⟩) (lt_of_cell (hcs k m hm 0 _ rfl))).trans (hcs k m hm 0 _ rfl)
        have q1 : wr.cell? ⟨b, o + k * 3 + 1, none⟩ = some (.bool m.neg) := (HW.out.cell (p := ⟨b, o + k * 3 + 1, none⟩) (lt_of_cell (hcs k m hm 1 _ rfl))).trans (hcs k m hm 1 _ rfl)
        have q2 : wr.cell? ⟨b, o + k * 3 + 2, none⟩ = some (.string (B m.pat)) := (HW.out.cell (p := ⟨b, o + k * 3 + 2, none⟩) (lt_of_cell (hcs k m hm 2 _ rfl))).trans (hcs k m hm 2 _ rfl)
        have hfit := HF.out m (List.mem_of_getElem? hm)
        have HU := fun w1 => Lib.hid (undotted_any m.name w1 hfit.1)
        have HG := fun w1 hE => Lib.hid (good_any m.pat w1 hE (sz_max hfit.2))
        have HT := fun h1 => Lib.hid (allT (p := matOk) HR.out.1 hm h1)
        have HX := fun h1 => Lib.hid (allF (p := matOk) hm h1)
        have HMO : Hid (matOk m = ((m.name == [46] || Tg.wordB m.name) && goodP m.pat)) := rfl
        have hdot := eq_lit m.name [46]
        generalize matOk m = mo at HT HX HMO
        obtain ⟨mn, mg, mp⟩ := m
        simp only at q0 q1 q2 HU HG HMO hdot
        generalize (mn == [46]) = d0 at HMO hdot
        generalize Tg.wordB mn = d1 at HMO HU
        generalize goodP mp = d2 at HMO HG
        obtain ⟨ns, hns⟩ : ∃ ns, B mn = ns := ⟨_, rfl⟩
        obtain ⟨ps, hps⟩ : ∃ ps, B mp = ps := ⟨_, rfl⟩
        simp only [hns, hps] at q0 q2 HU HG hdot
        have hEr := Lib.hid (HE.out.below HW.out)
        obtain rfl := HMO.out
        have HA : Hid (Below w.heap.size w (wr.alloc (.cells #[.string ns, .bool mg, .string ps] 49)) ∧ EnvC (wr.alloc (.cells #[.string ns, .bool mg, .string ps] 49))) :=
          ⟨HW.out.alloc HW.out.size _, hEr.out.below ((Below.refl _ wr).alloc (Nat.le_refl _) _)⟩
        clear hm hfit hns hps HR HMO hcs
        have HS : Hid (∀ q w2, Below (wr.alloc (.cells #[.string ns, .bool mg, .string ps] 49)).heap.size ((wr.alloc (.cells #[.string ns, .bool mg, .string ps] 49)).drewN q) w2 → Below w.heap.size w w2) := fun q w2 h => below_step (HA.out.1) (by have := HW.out.size; simp) ((below_q _ q).trans h)
        cases d0 <;> cases d1 <;> cases d2
        case false.true.true =>
          have HT' := HT rfl
          clear HX HT HF HE
          go_wp2_with (first
            | (go_at_call 76; refine (HU _).out.mono ?_; rintro e w1 ⟨rfl, q1, rfl⟩)
            | (go_at_call 117; refine (HG _ (HA.out.2.below (below_q _ q1))).out.mono ?_; rintro e w2 ⟨rfl, hb2⟩; have HB2 := Lib.hid (HS.out q1 _ hb2); clear hb2))
          go_roundw
          case rel => exact ⟨k + 1, by omega, by go_num, HT'.out, HB2.out⟩
          case measure => simp [intOf]; omega
        case true.true.true | true.false.true =>
          have HT' := HT rfl
          clear HX HT HF HE HU
          go_wp2_with (go_at_call 117; refine (HG _ HA.out.2).out.mono ?_; rintro e w2 ⟨rfl, hb2⟩; have HB2 := Lib.hid (HS.out 0 _ hb2); clear hb2)
          go_roundw
          case rel => exact ⟨k + 1, by omega, by go_num, HT'.out, HB2.out⟩
          case measure => simp [intOf]; omega
        case true.true.false | true.false.false =>
          have HX' : Hid (matsOk l = false) := by have := (HX rfl).out; show _ = _; rw [HM.out, this]
          clear HX HT HF HE HU HM
          go_wp2_with (go_at_call 117; refine (HG _ HA.out.2).out.mono ?_; rintro e w2 ⟨rfl, hb2⟩; have HB2 := Lib.hid (HS.out 0 _ hb2); clear hb2)
          go_ret
          exact ⟨by rw [HX'.out]; rfl, HB2.out⟩
        case false.true.false =>
          have HX' : Hid (matsOk l = false) := by have := (HX rfl).out; show _ = _; rw [HM.out, this]
          clear HX HT HF HE HM
          go_wp2_with (first
            | (go_at_call 76; refine (HU _).out.mono ?_; rintro e w1 ⟨rfl, q1, rfl⟩)
            | (go_at_call 117; refine (HG _ (HA.out.2.below (below_q _ q1))).out.mono ?_; rintro e w2 ⟨rfl, hb2⟩; have HB2 := Lib.hid (HS.out q1 _ hb2); clear hb2))
          go_ret
          exact ⟨by rw [HX'.out]; rfl, HB2.out⟩
        case false.false.true | false.false.false =>
          have HX' : Hid (matsOk l = false) := by have := (HX rfl).out; show _ = _; rw [HM.out, this]
          clear HX HT HF HE HM HG
          go_wp2_with (go_at_call 76; refine (HU _).out.mono ?_; rintro e w1 ⟨rfl, q1, rfl⟩)
          go_ret
          exact ⟨by rw [HX'.out]; rfl, HS.out q1 _ (Below.refl _ _)⟩
      · obtain rfl : k = n := by omega
        have HAL : Hid (matsOk l = true) := by show _ = _; rw [HM.out, ← HR.out.1, List.take_of_length_le (by rw [HL.out]; exact Nat.le_refl _)]
        have HB : Hid (Below w.heap.size w wr) := HR.out.2
        clear HR HF HE HM
        go_wp2
        go_ret
        exact ⟨by rw [HAL.out]; rfl, HB.out⟩
  · have HM : Hid (matsOk l = false) := by show _ = _; rw [HN.out, hn, decide_eq_false h6, Bool.false_and]
    have i6 : (6 : Int) < (n : Int) := by omega
    clear hat hv hF hE hl HN HNL hn hc HF HE HAT
    go_enter Tryz.func103, Tryz.ntmps103
    go_wp2
    go_ret
    exact ⟨by rw [HM.out]; rfl, Below.refl _ _⟩
end Ru
end Go.Proofs.YtiahelekgjdjlaaGreatDoor
namespace Go.Proofs.YtiahelekgjdjlaaGreatDoor
open Go.RowKit Go.Shelf
open Dp Gb
attribute [local go_sem] Oper.semAt_some
namespace Ru
set_option maxRecDepth 100000 in
set_option maxHeartbeats 4000000 in
theorem targets_any (v : Value) (l : List (List UInt8)) (w : World) (hF : FitT l) (hv : RdT w v l) (hl : l.length ≤ 100000) :
    Calls Tryz.prog 105 #[v] w fun e w' => e = .returned (.bool (targets l)) ∧ ∃ q, w' = w.drewN q := by
  obtain ⟨a, c, rfl, hc, hat⟩ := hv.at
  have HN : Hid (targets l = (decide (1 ≤ l.length) && decide (l.length ≤ 4) && apart l)) := rfl
  obtain ⟨n, hn⟩ : ∃ n, l.length = n := ⟨_, rfl⟩
  have HV := Lib.hid hv
  have HL := Lib.hid hn
  have HAT := Lib.hid hat
  have HF := Lib.hid hF
  have HW := fun w1 => Lib.hid (within_any (n : Int) 1 4 w1)
  have HWV : Hid (within (n : Int) 1 4 = (decide (1 ≤ n) && decide (n ≤ 4))) := by
    show _ = _
    unfold within
    rw [Bool.eq_iff_iff]
    simp only [Bool.and_eq_true, decide_eq_true_eq]
    omega
  have hn1 : n ≤ 100000 := by omega
  rw [hn] at HV ⊢
  generalize within (n : Int) 1 4 = wi at HW HWV
  cases wi with
  | true =>
    have HM : Hid (targets l = apart l) := by show _ = _; rw [HN.out, hn, ← HWV.out, Bool.true_and]
    have HAP : Hid (apart l = (List.range n).all (tgAt l)) := by show _ = _; unfold apart; rw [hn]
    clear hat hv hF hl HN hn hc HWV
    go_enter Tryz.func105, Tryz.ntmps105
    go_wp2_with (go_at_call 50; refine (HW _).out.mono ?_; rintro e w1 ⟨rfl, rfl⟩)
    go_loopw [3, 4, 11] (fun _ _ i wr => ∃ k : Nat, k ≤ n ∧ i = .int .i64 k ∧ Hid ((List.range k).all (tgAt l) = true ∧ ∃ q, wr = w.drewN q)) (fun _ _ i _ => n - (intOf i).toNat)
    case atStart => exact ⟨0, Nat.zero_le _, rfl, rfl, 0, rfl⟩
    case round =>
      obtain ⟨k, hk, rfl, HR⟩ := hrel
      obtain ⟨hr1, q, rfl⟩ := HR.out
      have HR1 := Lib.hid hr1
      clear HR hr1
      by_cases hlt : k < n
      · obtain ⟨b, o, rfl, hcs⟩ := HAT.out (by rw [HL.out]; omega)
        obtain ⟨x, hx⟩ : ∃ x, l[k]? = some x := ⟨_, List.getElem?_eq_getElem (by rw [HL.out]; exact hlt)⟩
        have q0 : w.cell? ⟨b, o + k, none⟩ = some (.string (B x)) := hcs k x hx
        have HU := fun w1 => Lib.hid (undotted_any x w1 (HF.out.at hx))
        have HG := fun q => Lib.hid (again_any _ l k x (w.drewN q) (HV.out.below (below_q w q)) (by rw [HL.out]; exact hn1) hx)
        have HTG : Hid (tgAt l k = (Tg.wordB x && !(l.take k).contains x)) := by show _ = _; unfold tgAt; rw [hx]
        have HT := fun h1 => Lib.hid (allR_next (p := tgAt l) HR1.out h1)
        have HX := fun h1 => Lib.hid (allR_not (p := tgAt l) hlt h1)
        generalize tgAt l k = mo at HT HX HTG
        generalize Tg.wordB x = d1 at HTG HU
        generalize (l.take k).contains x = d2 at HTG HG
        obtain ⟨xs, hxs⟩ : ∃ xs, B x = xs := ⟨_, rfl⟩
        simp only [hxs] at q0
        simp only [hxs] at HU
        obtain rfl := HTG.out
        clear hx hxs HTG hcs HAT HR1
        cases d1 with
        | false =>
          have HX' : Hid (targets l = false) := by have := (HX rfl).out; show _ = _; rw [HM.out, HAP.out, this]
          clear HX HT HF HM HG HAP
          go_wp2_with (go_at_call 76; refine (HU _).out.mono ?_; rintro e w1 ⟨rfl, q1, rfl⟩)
          go_ret
          exact ⟨by rw [HX'.out]; rfl, _, rfl⟩
        | true =>
          cases d2 with
          | true =>
            have HX' : Hid (targets l = false) := by have := (HX rfl).out; show _ = _; rw [HM.out, HAP.out, this]
            clear HX HT HF HM HAP
            go_wp2_with (first
              | (go_at_call 76; refine (HU _).out.mono ?_; rintro e w1 ⟨rfl, q1, rfl⟩; rw [World.drewN_drewN])
              | (go_at_call 78; refine (HG _).out.mono ?_; rintro e w2 ⟨rfl, q2, rfl⟩))
            go_ret
            exact ⟨by rw [HX'.out]; rfl, _, rfl⟩
          | false =>
            have HT' := HT rfl
            clear HX HT HF HM HAP
            go_wp2_with (first
              | (go_at_call 76; refine (HU _).out.mono ?_; rintro e w1 ⟨rfl, q1, rfl⟩; rw [World.drewN_drewN])
              | (go_at_call 78; refine (HG _).out.mono ?_; rintro e w2 ⟨rfl, q2, rfl⟩))
            go_roundw
            case rel => exact ⟨k + 1, by omega, by go_num, HT'.out, _, rfl⟩
            case measure => simp [intOf]; omega
      · obtain rfl : k = n := by omega
        have HAL : Hid (targets l = true) := by show _ = _; rw [HM.out, HAP.out, HR1.out]
        clear HF HM HAT HV HAP HR1
        go_wp2
        go_ret
        exact ⟨by rw [HAL.out]; rfl, _, rfl⟩
  | false =>
    have HM : Hid (targets l = false) := by show _ = _; rw [HN.out, hn, ← HWV.out, Bool.false_and]
    clear hat hv hF hl HN hn hc HWV HF HAT HV
    go_enter Tryz.func105, Tryz.ntmps105
    go_wp2_with (go_at_call 50; refine (HW _).out.mono ?_; rintro e w1 ⟨rfl, rfl⟩)
    go_ret
    exact ⟨by rw [HM.out]; rfl, 0, rfl⟩
end Ru
end Go.Proofs.YtiahelekgjdjlaaGreatDoor
namespace Go.Proofs.YtiahelekgjdjlaaGreatDoor
open Go.RowKit Go.Shelf
open Dp Gb
attribute [local go_sem] Oper.semAt_some
namespace Ru
theorem prev_succ {l : List (List UInt8)} {k : Nat} {x : List UInt8} (h : l[k]? = some x) : prev l (k + 1) = x := by
  show l.getD k [] = x
  rw [List.getD_eq_getElem?_getD, h]; rfl
set_option maxRecDepth 100000 in
set_option maxHeartbeats 4000000 in
theorem rising_any (v : Value) (l : List (List UInt8)) (w : World) (hF : FitT l) (hv : RdT w v l) (hl : l.length ≤ 100000) :
    Calls Tryz.prog 106 #[v] w fun e w' => e = .returned (.bool (rising l)) ∧ ∃ q, w' = w.drewN q := by
  obtain ⟨a, c, rfl, hc, hat⟩ := hv.at
  have HN : Hid (rising l = (decide (l.length ≤ 6) && (List.range l.length).all (riAt l))) := rfl
  obtain ⟨n, hn⟩ : ∃ n, l.length = n := ⟨_, rfl⟩
  have HL := Lib.hid hn
  have HAT := Lib.hid hat
  have HF := Lib.hid hF
  have hn1 : n ≤ 100000 := by omega
  rw [hn]
  by_cases h6 : n ≤ 6
  · have HM : Hid (rising l = (List.range n).all (riAt l)) := by show _ = _; rw [HN.out, hn, decide_eq_true h6, Bool.true_and]
    have i6 : ¬ (6 : Int) < (n : Int) := by omega
    clear hat hv hF hl HN hn hc
    go_enter Tryz.func106, Tryz.ntmps106
    go_wp2
    go_loopw [3, 5, 11] (fun p _ i wr => ∃ k : Nat, k ≤ n ∧ i = .int .i64 k ∧ (∃ ps : ByteArray, p = .string ps ∧ Hid (ps = B (prev l k))) ∧ Hid ((List.range k).all (riAt l) = true ∧ ∃ q, wr = w.drewN q)) (fun _ _ i _ => n - (intOf i).toNat)
    case atStart => exact ⟨0, Nat.zero_le _, rfl, ⟨_, rfl, rfl⟩, rfl, 0, rfl⟩
    case round =>
      obtain ⟨k, hk, rfl, ⟨ps, rfl, HP⟩, HR⟩ := hrel
      obtain ⟨hr1, q, rfl⟩ := HR.out
      have HR1 := Lib.hid hr1
      clear HR hr1
      by_cases hlt : k < n
      · obtain ⟨b, o, rfl, hcs⟩ := HAT.out (by rw [HL.out]; omega)
        obtain ⟨x, hx⟩ : ∃ x, l[k]? = some x := ⟨_, List.getElem?_eq_getElem (by rw [HL.out]; exact hlt)⟩
        have q0 : w.cell? ⟨b, o + k, none⟩ = some (.string (B x)) := hcs k x hx
        have HU := fun w1 => Lib.hid (undotted_any x w1 (HF.out.at hx))
        have HTG : Hid (riAt l k = (Tg.wordB x && Tg.lt (prev l k) x)) := by show _ = _; unfold riAt; rw [hx]
        have HT := fun h1 => Lib.hid (allR_next (p := riAt l) HR1.out h1)
        have HX := fun h1 => Lib.hid (allR_not (p := riAt l) hlt h1)
        have HPS : Hid (B x = B (prev l (k + 1))) := by show _ = _; rw [prev_succ hx]
        have HO : Hid (Tg.lt (prev l k) x = !(Op.bytesLess (B x).toList ps.toList || (B x).toList == ps.toList)) := by
          show _ = _
          rw [HP.out, Tg.lt_total, Lib.toList_data, Lib.toList_data]
        generalize riAt l k = mo at HT HX HTG
        generalize Tg.wordB x = d1 at HTG HU
        generalize Tg.lt (prev l k) x = d2 at HTG HO
        obtain ⟨xs, hxs⟩ : ∃ xs, B x = xs := ⟨_, rfl⟩
        simp only [hxs] at q0 HU HO HPS
        obtain rfl := HTG.out
        clear hx hxs HTG hcs HAT HR1 HP
        cases d1 with
        | false =>
          have HX' : Hid (rising l = false) := by have := (HX rfl).out; show _ = _; rw [HM.out, this]
          clear HX HT HF HM HO HPS
          go_wp2_with (go_at_call 76; refine (HU _).out.mono ?_; rintro e w1 ⟨rfl, q1, rfl⟩)
          go_ret
          exact ⟨by rw [HX'.out]; rfl, _, rfl⟩
        | true =>
          cases h1 : Op.bytesLess xs.toList ps.toList <;> cases h2 : (xs.toList == ps.toList)
          case false.false =>
            have HQ : d2 = true := by rw [HO.out, h1, h2]; rfl
            subst HQ
            have HT' := HT rfl
            clear HX HT HF HM HO
            go_wp2_with (go_at_call 76; refine (HU _).out.mono ?_; rintro e w1 ⟨rfl, q1, rfl⟩)
            go_roundw
            case rel => exact ⟨k + 1, by omega, by go_num, ⟨_, rfl, HPS⟩, HT'.out, _, rfl⟩
            case measure => simp [intOf]; omega
          all_goals
            have HQ : d2 = false := by rw [HO.out, h1, h2]; rfl
            subst HQ
            have HX' : Hid (rising l = false) := by have := (HX rfl).out; show _ = _; rw [HM.out, this]
            clear HX HT HF HM HO HPS
            go_wp2_with (go_at_call 76; refine (HU _).out.mono ?_; rintro e w1 ⟨rfl, q1, rfl⟩)
            go_ret
            exact ⟨by rw [HX'.out]; rfl, _, rfl⟩
      · obtain rfl : k = n := by omega
        have HAL : Hid (rising l = true) := by show _ = _; rw [HM.out, HR1.out]
        clear HF HM HAT HR1 HP
        go_wp2
        go_ret
        exact ⟨by rw [HAL.out]; rfl, _, rfl⟩
  · have HM : Hid (rising l = false) := by show _ = _; rw [HN.out, hn, decide_eq_false h6, Bool.false_and]
    have i6 : (6 : Int) < (n : Int) := by omega
    clear hat hv hF hl HN hn hc HF HAT
    go_enter Tryz.func106, Tryz.ntmps106
    go_wp2
    go_ret
    exact ⟨by rw [HM.out]; rfl, 0, rfl⟩
end Ru
end Go.Proofs.YtiahelekgjdjlaaGreatDoor
namespace Go.Proofs.YtiahelekgjdjlaaGreatDoor
open Go.RowKit Go.Shelf
open Dp Gb
attribute [local go_sem] Oper.semAt_some
namespace Ru
attribute [local go_sem ↓] Gb.app_eq
def FitP (l : List Pol) : Prop := ∀ p ∈ l, p.name.length ≤ maxLen
theorem names_len (l : List Pol) : (names l).length = l.length := by simp [names]
theorem names_at {l : List Pol} {k : Nat} {p : Pol} (h : l[k]? = some p) : (names l)[k]? = some p.name := by simp [names, h]
theorem names_take {l : List Pol} {k : Nat} {p : Pol} (h : l[k]? = some p) : (names l).take (k + 1) = (names l).take k ++ [p.name] := by
  obtain ⟨hk, rfl⟩ := List.getElem?_eq_some_iff.1 h
  rw [List.take_succ_eq_append_getElem (by rw [names_len]; exact hk)]
  simp [names]
set_option maxRecDepth 100000 in
set_option maxHeartbeats 4000000 in
theorem names_any (v : Value) (l : List Pol) (w : World) (hv : RdP w v l) (hl : l.length ≤ 1000) :
    Calls Tryz.prog 35 #[v] w fun e w' => ∃ a n c, e = .returned (.slice a n c) ∧ OwnT w' w.heap.size (.slice a n c) (names l) ∧ Below w.heap.size w w' := by
  obtain ⟨a, c, rfl, hc, hat⟩ := RdP.at hv
  obtain ⟨n, hn⟩ : ∃ n, l.length = n := ⟨_, rfl⟩
  have HL := Lib.hid hn
  have HAT := Lib.hid hat
  have HST : Hid (OwnT w w.heap.size (.slice none 0 0) []) := World.ownsRow_nil _ _ _ _
  have hn1 : n ≤ 1000 := by omega
  rw [hn]
  clear hat hv hl hn hc
  go_enter Tryz.func35, Tryz.ntmps35
  go_wp2
  go_loopw [3, 5, 8] (fun s _ i wr => ∃ (k : Nat) (a1 : Option Addr) (n1 c1 : Nat), k ≤ n ∧ i = .int .i64 k ∧ s = .slice a1 n1 c1 ∧ Hid (OwnT wr w.heap.size (.slice a1 n1 c1) ((names l).take k) ∧ Below w.heap.size w wr)) (fun _ _ i _ => n - (intOf i).toNat)
  case atStart => exact ⟨0, none, 0, 0, Nat.zero_le _, rfl, rfl, HST.out, Below.refl _ _⟩
  case round =>
    obtain ⟨k, a1, n1, c1, hk, rfl, rfl, HR⟩ := hrel
    by_cases hlt : k < n
    · obtain ⟨b, o, rfl, hcs⟩ := HAT.out (by rw [HL.out]; omega)
      obtain ⟨p, hp⟩ : ∃ p, l[k]? = some p := ⟨_, List.getElem?_eq_getElem (by rw [HL.out]; exact hlt)⟩
      have HW : Hid (Below w.heap.size w wr) := HR.out.2
      have qq : ∀ i u, (encP p)[i]? = some u → wr.cell? ⟨b, o + k * 5 + i, none⟩ = some u := fun i u hu => (HW.out.cell (p := ⟨b, o + k * 5 + i, none⟩) (lt_of_cell (hcs k p hp i u hu))).trans (hcs k p hp i u hu)
      have q0 := qq 0 _ rfl
      have q1 := qq 1 _ rfl
      have q2 := qq 2 _ rfl
      have q3 := qq 3 _ rfl
      have q4 := qq 4 _ rfl
      rw [Nat.add_zero] at q0
      have hown : OwnT (wr.alloc (.cells #[.string (B p.name), .int .i64 p.size, .int .i64 p.slide, .int .i64 p.late, .int .i64 p.keep] 42)) w.heap.size (.slice a1 n1 c1) ((names l).take k) :=
        ownT_below HR.out.1 ((Below.refl _ _).alloc (Nat.le_refl _) _)
      obtain ⟨X, hX⟩ : ∃ X, wr.alloc (.cells #[.string (B p.name), .int .i64 p.size, .int .i64 p.slide, .int .i64 p.late, .int .i64 p.keep] 42) = X := ⟨_, rfl⟩
      have HXB : Hid (Below w.heap.size w X) := by rw [← hX]; exact HW.out.alloc HW.out.size _
      rw [hX] at hown
      have hbX : Blk X wr.heap.size 42 #[.string (B p.name), .int .i64 p.size, .int .i64 p.slide, .int .i64 p.late, .int .i64 p.keep] := by rw [← hX]; exact Blk.new wr _ _
      have x0 : X.cell? ⟨wr.heap.size, 0, none⟩ = some (.string (B p.name)) := (hbX.cl 0 _ rfl).1
      obtain ⟨a2, n2, c2, W2, hap, ho2, hb2, -⟩ := appS p.name hown (by rw [List.length_take, names_len]; omega) HXB.out.size
      have HO2 : Hid (OwnT W2 w.heap.size (.slice a2 n2 c2) ((names l).take (k + 1)) ∧ Below w.heap.size w W2) := ⟨by rw [names_take hp]; exact ho2, HXB.out.trans hb2⟩
      rw [← hX] at hap
      simp only [World.size_alloc] at hap
      obtain ⟨pn, p1, p2, p3, p4⟩ := p
      simp only at q0 q1 q2 q3 q4 hap
      change wr.cell? _ = some (.string (B pn)) at q0
      obtain ⟨ns, hns⟩ : ∃ ns, B pn = ns := ⟨_, rfl⟩
      change ∀ ty, Sem.run _ _ ((wr.alloc (.cells #[.string (B pn), _, _, _, _] _)).alloc (.cells #[.string (B pn)] _)) = _ at hap
      simp only [hns] at q0 hap
      clear hp HR hcs qq hX hown hbX ho2 hb2 HW x0 hns HXB
      go_wp2
      go_roundw
      case rel => exact ⟨k + 1, a2, n2, c2, by omega, by go_num, rfl, HO2.out⟩
      case measure => simp [intOf]; omega
    · obtain rfl : k = n := by omega
      have HO2 : Hid (OwnT wr w.heap.size (.slice a1 n1 c1) (names l) ∧ Below w.heap.size w wr) := ⟨by have := HR.out.1; rwa [List.take_of_length_le (by rw [names_len, HL.out]; exact Nat.le_refl _)] at this, HR.out.2⟩
      clear HR HAT
      go_wp2
      go_ret
      exact ⟨_, _, _, rfl, HO2.out⟩
theorem idx_has {l : List (List UInt8)} {x : List UInt8} : decide (0 ≤ idxT l x 0) = l.contains x := by
  rcases idxT_at x l 0 with ⟨h1, h2⟩ | ⟨k, h1, h2, h3, h4⟩
  · rw [h2, Bool.eq_iff_iff, List.contains_iff_mem]
    exact ⟨fun h => absurd h (by decide), fun h => absurd h h1⟩
  · rw [h4, Bool.eq_iff_iff, List.contains_iff_mem]
    exact ⟨fun _ => List.mem_of_getElem? h2, fun _ => decide_eq_true (by omega)⟩
set_option maxRecDepth 100000 in
set_option maxHeartbeats 2000000 in
theorem policy_any (a1 a2 : Option Addr) (n1 c1 n2 c2 : Nat) (l : List Pol) (x : List UInt8) (w : World) (hv : RdP w (.slice a1 n1 c1) l) (hl : l.length ≤ 1000) :
    Calls Tryz.prog 15 #[.agg #[.slice a1 n1 c1, .slice a2 n2 c2], .string (B x)] w fun e w' => e = .returned (.tuple #[.int .i64 (max (idxT (names l) x 0) 0), .bool ((names l).contains x)]) ∧ Below w.heap.size w w' := by
  have HX : Hid (Below w.heap.size w (w.alloc (.cells #[.slice a1 n1 c1, .slice a2 n2 c2] 25)) ∧ RdP (w.alloc (.cells #[.slice a1 n1 c1, .slice a2 n2 c2] 25)) (.slice a1 n1 c1) l) :=
    ⟨(Below.refl _ w).alloc (Nat.le_refl _) _, Vec.Rd.below hv ((Below.refl _ w).alloc (Nat.le_refl _) _)⟩
  have HN := Lib.hid (names_any _ l _ HX.out.2 hl)
  have HI := fun v w1 h => Lib.hid (index_any v (names l) x w1 h (by rw [names_len]; omega))
  have HC : Hid (decide (0 ≤ idxT (names l) x 0) = (names l).contains x) := idx_has
  have HB : Hid (-1 ≤ idxT (names l) x 0 ∧ idxT (names l) x 0 ≤ 1000) := by
    rcases idxT_at x (names l) 0 with ⟨h1, h2⟩ | ⟨k, h1, h2, h3, h4⟩
    · rw [h2]; exact ⟨by decide, by decide⟩
    · rw [names_len] at h1; rw [h4]; exact ⟨by omega, by omega⟩
  obtain ⟨xs, hxs⟩ : ∃ xs, B x = xs := ⟨_, rfl⟩
  simp only [hxs] at HI ⊢
  generalize (names l).contains x = r at HC ⊢
  generalize idxT (names l) x 0 = i at HI HC HB ⊢
  obtain rfl := HC.out
  clear hv hl hxs HC
  go_enter Tryz.func15, Tryz.ntmps15
  go_wp2_with fail
  refine HN.out.mono ?_
  rintro e w2 ⟨a, n, c, rfl, ho, hb⟩
  have HI2 := HI _ w2 ho.es.rd
  have HB2 : Hid (Below w.heap.size w w2) := below_step HX.out.1 (Nat.le_refl _) hb
  clear HI HN HX ho hb
  go_wp2_with fail
  refine HI2.out.mono ?_
  rintro e w3 ⟨rfl, rfl⟩
  go_wp2
  go_ret2
  exact ⟨rfl, HB2.out⟩
end Ru
end Go.Proofs.YtiahelekgjdjlaaGreatDoor
