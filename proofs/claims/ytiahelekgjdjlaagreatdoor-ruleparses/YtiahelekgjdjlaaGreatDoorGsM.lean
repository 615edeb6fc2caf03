/- What package rule's policyFault and has answer. What package rule's formed answers. What package rule's ruleFault answers. -/
import Derived.Test.YtiahelekgjdjlaaGreatDoorGsI
import Derived.Test.YtiahelekgjdjlaaGreatDoorGsL
namespace Go.Proofs.YtiahelekgjdjlaaGreatDoor
open Go.RowKit Go.Shelf
open Dp Gb
attribute [local go_sem] Oper.semAt_some
namespace Ru
set_option maxRecDepth 100000 in
set_option maxHeartbeats 4000000 in
theorem policyFault_any (v : Value) (l : List Pol) (i : Nat) (p : Pol) (w : World) (hv : RdP w v l) (hF : FitP l) (hl : l.length ≤ 1000) (hp : l[i]? = some p) :
    Calls Tryz.prog 51 #[v, .int .i64 (i : Int)] w fun e w' => e = .returned (.int .i64 (polFault l i : Nat)) ∧ Below w.heap.size w w' := by
  obtain ⟨a, c, rfl, hc, hat⟩ := RdP.at hv
  have hi : i < l.length := (List.getElem?_eq_some_iff.1 hp).1
  obtain ⟨b, o, rfl, hcs⟩ := hat (by omega)
  have HU := fun w1 => Lib.hid (undotted_any p.name w1 (hF p (List.mem_of_getElem? hp)))
  have HR := fun w1 => Lib.hid (ranged_any p w1)
  have HNM := fun w1 (hb : Below w.heap.size w w1) => Lib.hid (names_any _ l w1 (Vec.Rd.below hv hb) hl)
  have HAG := fun v w1 h => Lib.hid (again_any v (names l) i p.name w1 h (by rw [names_len]; omega) (names_at hp))
  have HPF : Hid (polFault l i = if !Tg.wordB p.name then 7 else if !ranged p then 1 else if ((names l).take i).contains p.name then 6 else 0) := by show _ = _; unfold polFault; rw [hp]
  have q0 : w.cell? ⟨b, o + i * 5, none⟩ = some (.string (B p.name)) := hcs i p hp 0 _ rfl
  have q1 := hcs i p hp 1 _ rfl
  have q2 := hcs i p hp 2 _ rfl
  have q3 := hcs i p hp 3 _ rfl
  have q4 := hcs i p hp 4 _ rfl
  obtain ⟨n, hn⟩ : ∃ n, l.length = n := ⟨_, rfl⟩
  rw [hn] at hi hl HNM ⊢
  generalize polFault l i = pf at HPF ⊢
  generalize Tg.wordB p.name = d1 at HU HPF
  generalize ranged p = d2 at HR HPF
  generalize ((names l).take i).contains p.name = d3 at HAG HPF
  obtain rfl := HPF.out
  obtain ⟨pn, p1, p2, p3, p4⟩ := p
  change ∀ w1, Hid (Calls _ _ #[.agg #[.string (B pn), _, _, _, _]] w1 _) at HR
  simp only at q0 q1 q2 q3 q4 HU HR
  obtain ⟨ns, hns⟩ : ∃ ns, B pn = ns := ⟨_, rfl⟩
  simp only [hns] at q0 HU HR
  clear hv hat hcs hp hns hF hn HPF
  cases d1 with
  | false =>
    clear HAG HNM HR
    go_enter Tryz.func51, Tryz.ntmps51
    go_wp2_with (go_at_call 76; refine (HU _).out.mono ?_; rintro e w1 ⟨rfl, k1, rfl⟩)
    go_ret
    exact ⟨rfl, below_q _ _⟩
  | true =>
    cases d2 with
    | false =>
      clear HAG HNM
      go_enter Tryz.func51, Tryz.ntmps51
      go_wp2_with (first
        | (go_at_call 76; refine (HU _).out.mono ?_; rintro e w1 ⟨rfl, k1, rfl⟩)
        | (go_at_call 77; refine (HR _).out.mono ?_; rintro e w2 ⟨rfl, hb2⟩; have HB2 := Lib.hid hb2; clear hb2))
      go_ret
      exact ⟨rfl, (below_q _ k1).trans HB2.out⟩
    | true =>
      cases d3
      all_goals
        go_enter Tryz.func51, Tryz.ntmps51
        go_wp2_with (first
          | (go_at_call 76; refine (HU _).out.mono ?_; rintro e w1 ⟨rfl, k1, rfl⟩)
          | (go_at_call 77; refine (HR _).out.mono ?_; rintro e w2 ⟨rfl, hb2⟩; have HB2 : Hid (Below w.heap.size w w2) := (below_q w k1).trans hb2; clear hb2)
          | (go_at_call 35; refine (HNM _ HB2.out).out.mono ?_; rintro e w3 ⟨a3, n3, c3, rfl, ho3, hb3⟩; have HA3 := HAG _ w3 ho3.es.rd; have HB3 : Hid (Below w.heap.size w w3) := below_step HB2.out (Nat.le_refl _) hb3; clear hb3 ho3)
          | (go_at_call 78; refine HA3.out.mono ?_; rintro e w4 ⟨rfl, k4, rfl⟩))
        go_ret
        exact ⟨rfl, below_drewN HB3.out k4⟩
theorem results_has (W : World) (b : Nat) (a : Array Value) (x0 x1 x2 x3 : Value) (h : Blk W b 150 #[x0, x1, x2, x3]) (h2 : a[2]? = some (.pointer (some ⟨b, 0, none⟩))) :
    (results Tryz.f104 a).run Tryz.prog W = .ok (.agg #[x0, x1, x2, x3]) W := by
  have c0 : W.cell? ⟨b, 0, none⟩ = some x0 := (h.cl 0 _ rfl).1
  have c1 : W.cell? ⟨b, 1, none⟩ = some x1 := (h.cl 1 _ rfl).1
  have c2 : W.cell? ⟨b, 2, none⟩ = some x2 := (h.cl 2 _ rfl).1
  have c3 : W.cell? ⟨b, 3, none⟩ = some x3 := (h.cl 3 _ rfl).1
  simp [results, Tryz.results104, go_sem, h2, c0, c1, c2, c3]
set_option maxRecDepth 100000 in
set_option maxHeartbeats 4000000 in
theorem has_any (k : Int) (a1 a2 a3 : Option Addr) (n1 n2 n3 c1 c2 c3 : Nat) (met : List UInt8) (keep : Bool) (w : World) :
    Calls Tryz.prog 104 #[.agg #[.int .i64 k, .slice a1 n1 c1, .slice a2 n2 c2, .string (B met), .bool keep, .slice a3 n3 c3]] w fun e w' => e = .returned (.agg #[.bool (decide (0 < n2)), .bool (!met.isEmpty), .bool keep, .bool (decide (0 < n3))]) ∧ Below w.heap.size w w' := by
  have dm : ((B met).toList == []) = met.isEmpty := by rw [eq_lit]; cases met <;> rfl
  have dm2 : ((B met).toList != []) = !met.isEmpty := by rw [bne, dm]
  have dm3 : ((B met).toList.isEmpty) = met.isEmpty := by rw [Lib.toList_data]
  generalize met.isEmpty = b1 at dm dm2 dm3 ⊢
  obtain ⟨ms, hms⟩ : ∃ ms, B met = ms := ⟨_, rfl⟩
  simp only [hms] at dm dm2 dm3 ⊢
  clear hms
  go_enter Tryz.func104, Tryz.ntmps104
  go_wp2
  have hb : Blk ((w.alloc (.cells #[.int .i64 k, .slice a1 n1 c1, .slice a2 n2 c2, .string ms, .bool keep, .slice a3 n3 c3] 60)).alloc (.cells #[.bool (decide (0 < n2)), .bool !b1, .bool keep, .bool (decide (0 < n3))] 150)) (w.heap.size + 1) 150 #[.bool (decide (0 < n2)), .bool !b1, .bool keep, .bool (decide (0 < n3))] := by
    have := Blk.new (w.alloc (.cells #[.int .i64 k, .slice a1 n1 c1, .slice a2 n2 c2, .string ms, .bool keep, .slice a3 n3 c3] 60)) 150 #[.bool (decide (0 < n2)), .bool !b1, .bool keep, .bool (decide (0 < n3))]
    rwa [World.size_alloc] at this
  exact bodyPost_ret (results_has _ (w.heap.size + 1) _ _ _ _ _ hb rfl) rfl ⟨rfl, ((Below.refl _ w).alloc (Nat.le_refl _) _).alloc (by simp) _⟩
end Ru
end Go.Proofs.YtiahelekgjdjlaaGreatDoor
namespace Go.Proofs.YtiahelekgjdjlaaGreatDoor
open Go.RowKit Go.Shelf
open Dp Gb
attribute [local go_sem] Oper.semAt_some
namespace Ru
structure FitR (r : Rul) : Prop where
  when : FitM r.when
  tos : FitT r.to
  met : r.met.length ≤ maxLen
  labs : FitT r.labs
  n1 : r.when.length ≤ 100000
  n2 : r.to.length ≤ 100000
  n3 : r.labs.length ≤ 100000
theorem pos_ne {α : Type} (l : List α) : decide (0 < l.length) = !l.isEmpty := by cases l <;> simp
theorem es_len {α : Type} {enc : α → List Value} {W : World} {h : Hd} {l : List α} (k : Vec.Rd enc W h.v l) : h.n = l.length := by
  obtain ⟨a, c, e, _⟩ := k
  unfold Hd.v at e
  injection e
theorem cells6 {W : World} {b : Nat} {t : TypeId} {x0 x1 x2 x3 x4 x5 : Value} (h : Blk W b t #[x0, x1, x2, x3, x4, x5]) :
    W.cell? ⟨b, 0, none⟩ = some x0 ∧ W.cell? ⟨b, 1, none⟩ = some x1 ∧ W.cell? ⟨b, 2, none⟩ = some x2 ∧ W.cell? ⟨b, 3, none⟩ = some x3 ∧ W.cell? ⟨b, 4, none⟩ = some x4 ∧ W.cell? ⟨b, 5, none⟩ = some x5 :=
  ⟨(h.cl 0 _ rfl).1, (h.cl 1 _ rfl).1, (h.cl 2 _ rfl).1, (h.cl 3 _ rfl).1, (h.cl 4 _ rfl).1, (h.cl 5 _ rfl).1⟩
set_option maxRecDepth 100000 in
set_option maxHeartbeats 8000000 in
theorem formed_any (raw : Raw) (r : Rul) (w : World) (hE : EnvC w) (hR : RawRd w raw r) (hF : FitR r) :
    Calls Tryz.prog 79 #[rawV raw] w fun e w' => e = .returned (.bool (formed r)) ∧ Below w.heap.size w w' := by
  have hn2 := es_len hR.to
  have hn3 := es_len hR.labs
  obtain ⟨kd, ⟨a1, n1, c1⟩, ⟨a2, n2, c2⟩, mt, kp, ⟨a3, n3, c3⟩⟩ := raw
  obtain rfl := hR.kind
  obtain rfl := hR.met
  obtain rfl := hR.keep
  simp only at hR hn2 hn3 ⊢
  show Calls _ _ #[.agg #[.int .i64 r.kind, .slice a1 n1 c1, .slice a2 n2 c2, .string (B r.met), .bool r.keep, .slice a3 n3 c3]] w _
  have HFM : Hid (formed r = if !matsOk r.when then false
  else if r.kind = 1 then r.to.isEmpty && (r.met.isEmpty && !r.keep && r.labs.isEmpty)
  else if r.kind = 2 then !r.to.isEmpty && (r.met.isEmpty && !r.keep && r.labs.isEmpty) && targets r.to
  else if r.kind = 3 then targets r.to && Tg.nameB r.met && rising r.labs
  else false) := rfl
  have HE := Lib.hid hE
  have HMM := fun w1 (hb : Below w.heap.size w w1) => Lib.hid (matchers_any _ r.when w1 (hE.below hb) hF.when (Vec.Rd.below hR.when hb) hF.n1)
  have HTG := fun w1 (hb : Below w.heap.size w w1) => Lib.hid (targets_any _ r.to w1 hF.tos (Vec.Rd.below hR.to hb) hF.n2)
  have HRI := fun w1 (hb : Below w.heap.size w w1) => Lib.hid (rising_any _ r.labs w1 hF.labs (Vec.Rd.below hR.labs hb) hF.n3)
  have HNA := fun w1 => Lib.hid (Y2.name_any (B r.met) w1 (sz_max hF.met))
  change ∀ w1, Hid (Calls _ _ _ w1 fun e w' => e = .returned (.bool (Tg.nameB r.met)) ∧ _) at HNA
  have HHA := fun w1 => Lib.hid (has_any r.kind a1 a2 a3 n1 n2 n3 c1 c2 c3 r.met r.keep w1)
  have HB0 : Hid (Below w.heap.size w (w.alloc (.cells #[.int .i64 r.kind, .slice a1 n1 c1, .slice a2 n2 c2, .string (B r.met), .bool r.keep, .slice a3 n3 c3] 60)) ∧ Blk (w.alloc (.cells #[.int .i64 r.kind, .slice a1 n1 c1, .slice a2 n2 c2, .string (B r.met), .bool r.keep, .slice a3 n3 c3] 60)) w.heap.size 60 #[.int .i64 r.kind, .slice a1 n1 c1, .slice a2 n2 c2, .string (B r.met), .bool r.keep, .slice a3 n3 c3]) := ⟨(Below.refl _ w).alloc (Nat.le_refl _) _, Blk.new w _ _⟩
  rw [hn2, hn3, pos_ne, pos_ne, ← hn2, ← hn3] at HHA
  generalize r.to.isEmpty = e1 at HFM HHA
  generalize r.met.isEmpty = e2 at HFM HHA
  generalize r.keep = e3 at HFM HHA HB0 ⊢
  generalize r.labs.isEmpty = e4 at HFM HHA
  generalize matsOk r.when = b1 at HFM HMM
  generalize targets r.to = b2 at HFM HTG
  generalize Tg.nameB r.met = b3 at HFM HNA
  generalize rising r.labs = b4 at HFM HRI
  generalize formed r = fr at HFM ⊢
  generalize r.kind = kd at HFM HHA HB0 ⊢
  generalize B r.met = ms at HNA HHA HB0 ⊢
  have hq1 : ∀ u, (Op.equalIn 10000 150 (.agg #[.bool !e1, .bool !e2, .bool e3, .bool !e4]) (.agg #[.bool false, .bool false, .bool false, .bool false])).run Tryz.prog u = .ok (e1 && (e2 && !e3 && e4)) u := fun u => by rw [eqA0]; cases e1 <;> cases e2 <;> cases e3 <;> cases e4 <;> rfl
  have hq2 : ∀ u, (Op.equalIn 10000 150 (.agg #[.bool !e1, .bool !e2, .bool e3, .bool !e4]) (.agg #[.bool true, .bool false, .bool false, .bool false])).run Tryz.prog u = .ok (!e1 && (e2 && !e3 && e4)) u := fun u => by rw [eqA1]; cases e1 <;> cases e2 <;> cases e3 <;> cases e4 <;> rfl
  generalize (e1 && (e2 && !e3 && e4)) = q1 at HFM hq1
  generalize (!e1 && (e2 && !e3 && e4)) = q2 at HFM hq2
  generalize (!e1) = x1 at hq1 hq2 HHA
  generalize (!e2) = x2 at hq1 hq2 HHA
  generalize (!e4) = x4 at hq1 hq2 HHA
  clear hE hR hF hn2 hn3
  simp only [Hd.v] at HMM HTG HRI
  cases b1 with
  | false =>
    simp only [Bool.not_false, if_true] at HFM
    obtain rfl := HFM.out
    clear HTG HRI HNA HHA hq1 hq2 HFM
    go_enter Tryz.func79, Tryz.ntmps79
    go_wp2_with (go_at_call 103; refine (HMM _ HB0.out.1).out.mono ?_; rintro e w1 ⟨rfl, hb1⟩; have HB1 : Hid (Below w.heap.size w w1) := below_step HB0.out.1 (Nat.le_refl _) hb1; have HK1 := Lib.hid (HB0.out.2.below hb1 HB0.out.2.lt); obtain ⟨c0, c1, c2, c3, c4, c5⟩ := cells6 HK1.out; clear hb1)
    go_ret
    exact ⟨rfl, HB1.out⟩
  | true =>
    by_cases k1 : kd = 1
    · subst k1
      simp only [Bool.not_true, Bool.false_eq_true, if_false, if_true] at HFM
      obtain rfl := HFM.out
      clear HTG HRI HNA HFM
      go_enter Tryz.func79, Tryz.ntmps79
      go_wp2_with (first
        | (go_at_call 103; refine (HMM _ HB0.out.1).out.mono ?_; rintro e w1 ⟨rfl, hb1⟩; have HB1 : Hid (Below w.heap.size w w1) := below_step HB0.out.1 (Nat.le_refl _) hb1; have HK1 := Lib.hid (HB0.out.2.below hb1 HB0.out.2.lt); obtain ⟨c0, c1, c2, c3, c4, c5⟩ := cells6 HK1.out; clear hb1)
        | (go_at_call 104; refine (HHA _).out.mono ?_; rintro e w2 ⟨rfl, hb2⟩; have HB2 : Hid (Below w.heap.size w w2) := below_step HB1.out (Nat.le_refl _) hb2; have HK2 := Lib.hid (HK1.out.below hb2 HK1.out.lt); obtain ⟨d0, d1, d2, d3, d4, d5⟩ := cells6 HK2.out; clear hb2))
      go_ret
      exact ⟨rfl, HB2.out⟩
    · have k1' : (kd == 1) = false := beq_eq_false_iff_ne.2 k1
      by_cases k2 : kd = 2
      · subst k2
        simp only [Bool.not_true, Bool.false_eq_true, if_false, if_neg k1, if_true] at HFM
        obtain rfl := HFM.out
        clear HRI HNA HFM
        cases q2
        all_goals
          go_enter Tryz.func79, Tryz.ntmps79
          go_wp2_with (first
            | (go_at_call 103; refine (HMM _ HB0.out.1).out.mono ?_; rintro e w1 ⟨rfl, hb1⟩; have HB1 : Hid (Below w.heap.size w w1) := below_step HB0.out.1 (Nat.le_refl _) hb1; have HK1 := Lib.hid (HB0.out.2.below hb1 HB0.out.2.lt); obtain ⟨c0, c1, c2, c3, c4, c5⟩ := cells6 HK1.out; clear hb1)
            | (go_at_call 104; refine (HHA _).out.mono ?_; rintro e w2 ⟨rfl, hb2⟩; have HB2 : Hid (Below w.heap.size w w2) := below_step HB1.out (Nat.le_refl _) hb2; have HK2 := Lib.hid (HK1.out.below hb2 HK1.out.lt); obtain ⟨d0, d1, d2, d3, d4, d5⟩ := cells6 HK2.out; clear hb2)
            | (go_at_call 105; refine (HTG _ HB2.out).out.mono ?_; rintro e w3 ⟨rfl, k3, rfl⟩))
          go_ret
          first | exact ⟨rfl, below_drewN HB2.out _⟩ | exact ⟨rfl, HB2.out⟩
      · have k2' : (kd == 2) = false := beq_eq_false_iff_ne.2 k2
        by_cases k3 : kd = 3
        · subst k3
          simp only [Bool.not_true, Bool.false_eq_true, if_false, if_neg k1, if_neg k2, if_true] at HFM
          obtain rfl := HFM.out
          clear HHA HFM hq1 hq2
          cases b2 with
          | false =>
            go_enter Tryz.func79, Tryz.ntmps79
            go_wp2_with (first
              | (go_at_call 103; refine (HMM _ HB0.out.1).out.mono ?_; rintro e w1 ⟨rfl, hb1⟩; have HB1 : Hid (Below w.heap.size w w1) := below_step HB0.out.1 (Nat.le_refl _) hb1; have HK1 := Lib.hid (HB0.out.2.below hb1 HB0.out.2.lt); obtain ⟨c0, c1, c2, c3, c4, c5⟩ := cells6 HK1.out; clear hb1)
              | (go_at_call 105; refine (HTG _ HB1.out).out.mono ?_; rintro e w3 ⟨rfl, k3, rfl⟩))
            go_ret
            exact ⟨rfl, below_drewN HB1.out _⟩
          | true =>
            cases b3
            all_goals
              go_enter Tryz.func79, Tryz.ntmps79
              go_wp2_with (first
                | (go_at_call 103; refine (HMM _ HB0.out.1).out.mono ?_; rintro e w1 ⟨rfl, hb1⟩; have HB1 : Hid (Below w.heap.size w w1) := below_step HB0.out.1 (Nat.le_refl _) hb1; have HK1 := Lib.hid (HB0.out.2.below hb1 HB0.out.2.lt); obtain ⟨c0, c1, c2, c3, c4, c5⟩ := cells6 HK1.out; clear hb1)
                | (go_at_call 105; refine (HTG _ HB1.out).out.mono ?_; rintro e w3 ⟨rfl, k3, rfl⟩)
                | (go_at_call 100; refine (HNA _).out.mono ?_; rintro e w4 ⟨rfl, k4, rfl⟩)
                | (go_at_call 106; refine (HRI _ (below_drewN HB1.out _)).out.mono ?_; rintro e w5 ⟨rfl, k5, rfl⟩))
              go_ret
              exact ⟨rfl, below_drewN HB1.out _⟩
        · have k3' : (kd == 3) = false := beq_eq_false_iff_ne.2 k3
          simp only [Bool.not_true, Bool.false_eq_true, if_false, if_neg k1, if_neg k2, if_neg k3] at HFM
          obtain rfl := HFM.out
          clear HHA HFM hq1 hq2 HTG HRI HNA
          go_enter Tryz.func79, Tryz.ntmps79
          go_wp2_with (go_at_call 103; refine (HMM _ HB0.out.1).out.mono ?_; rintro e w1 ⟨rfl, hb1⟩; have HB1 : Hid (Below w.heap.size w w1) := below_step HB0.out.1 (Nat.le_refl _) hb1; have HK1 := Lib.hid (HB0.out.2.below hb1 HB0.out.2.lt); obtain ⟨c0, c1, c2, c3, c4, c5⟩ := cells6 HK1.out; clear hb1)
          go_ret
          exact ⟨rfl, HB1.out⟩
end Ru
end Go.Proofs.YtiahelekgjdjlaaGreatDoor
namespace Go.Proofs.YtiahelekgjdjlaaGreatDoor
open Go.RowKit Go.Shelf
open Dp Gb
attribute [local go_sem] Oper.semAt_some
namespace Ru
set_option maxRecDepth 100000 in
set_option maxHeartbeats 8000000 in
theorem ruleFault_any (b1 b2 : Option Addr) (m1 e1 m2 e2 : Nat) (l : List Pol) (raw : Raw) (r : Rul) (w : World) (hE : EnvC w) (hP : RdP w (.slice b1 m1 e1) l) (hl : l.length ≤ 1000) (hR : RawRd w raw r) (hF : FitR r) :
    Calls Tryz.prog 52 #[.agg #[.slice b1 m1 e1, .slice b2 m2 e2], rawV raw] w fun e w' => e = .returned (.int .i64 (ruleFault l r : Nat)) ∧ Below w.heap.size w w' := by
  have HFO := fun w1 (hb : Below w.heap.size w w1) => Lib.hid (formed_any raw r w1 (hE.below hb) (hR.below hb) hF)
  have HPO := fun x w1 (hb : Below w.heap.size w w1) => Lib.hid (policy_any b1 b2 m1 e1 m2 e2 l x w1 (Vec.Rd.below hP hb) hl)
  have HRF : Hid (ruleFault l r = if !formed r then 2 else if r.to.all (fun n => (names l).contains n) then 0 else 5) := rfl
  have hto := hR.to
  have hn2 := es_len hto
  have hl2 := hF.n2
  obtain ⟨kd, ⟨a1, n1, c1⟩, ⟨a2, n2, c2⟩, mt, kp, ⟨a3, n3, c3⟩⟩ := raw
  simp only [Hd.v] at hto hn2 ⊢
  change ∀ w1, _ → Hid (Calls _ _ #[.agg #[.int .i64 kd, .slice a1 n1 c1, .slice a2 n2 c2, .string (B mt), .bool kp, .slice a3 n3 c3]] w1 _) at HFO
  show Calls _ _ #[_, .agg #[.int .i64 kd, .slice a1 n1 c1, .slice a2 n2 c2, .string (B mt), .bool kp, .slice a3 n3 c3]] w _
  generalize B mt = ms at HFO ⊢
  obtain ⟨a, c, he, hc, hat⟩ := hto.at
  injection he with e1' e2' e3'
  subst e1' e3'
  have HAT := Lib.hid hat
  have HL : Hid (r.to.length = n2) := hn2.symm
  have hn1 : n2 ≤ 100000 := by omega
  obtain ⟨X, hX⟩ : ∃ X, (w.alloc (.cells #[.slice b1 m1 e1, .slice b2 m2 e2] 25)).alloc (.cells #[.int .i64 kd, .slice a1 n1 c1, .slice a2 n2 c2, .string ms, .bool kp, .slice a3 n3 c3] 60) = X := ⟨_, rfl⟩
  have HX : Hid (Below w.heap.size w X ∧ Blk X w.heap.size 25 #[.slice b1 m1 e1, .slice b2 m2 e2] ∧ Blk X (w.heap.size + 1) 60 #[.int .i64 kd, .slice a1 n1 c1, .slice a2 n2 c2, .string ms, .bool kp, .slice a3 n3 c3]) := by
    refine ⟨?_, ?_, ?_⟩
    · rw [← hX]; exact ((Below.refl _ w).alloc (Nat.le_refl _) _).alloc (by simp) _
    · rw [← hX]; exact (Blk.new w _ _).alloc _
    · rw [← hX]
      have := Blk.new (w.alloc (.cells #[.slice b1 m1 e1, .slice b2 m2 e2] 25)) 60 #[.int .i64 kd, .slice a1 n1 c1, .slice a2 n2 c2, .string ms, .bool kp, .slice a3 n3 c3]
      rwa [World.size_alloc] at this
  have HXE := Lib.hid hX
  clear hX hat hto hl2 hn2 hR hF hE hP hc e2'
  generalize formed r = fo at HFO HRF
  cases fo with
  | false =>
    have HQ : Hid (ruleFault l r = 2) := HRF.out
    clear HRF HPO HAT
    go_enter Tryz.func52, Tryz.ntmps52
    go_wp2_with fail
    rw [HXE.out]
    refine (HFO _ HX.out.1).out.mono ?_
    rintro e w1 ⟨rfl, hb1⟩
    have HB1 : Hid (Below w.heap.size w w1) := below_step HX.out.1 (Nat.le_refl _) hb1
    clear hb1
    go_wp2
    go_ret
    exact ⟨by rw [HQ.out]; rfl, HB1.out⟩
  | true =>
    have HQ : Hid (ruleFault l r = if r.to.all (fun n => (names l).contains n) then 0 else 5) := HRF.out
    clear HRF
    go_enter Tryz.func52, Tryz.ntmps52
    go_wp2_with fail
    rw [HXE.out]
    refine (HFO _ HX.out.1).out.mono ?_
    rintro e w1 ⟨rfl, hb1⟩
    have HB1 : Hid (Below w.heap.size w w1) := below_step HX.out.1 (Nat.le_refl _) hb1
    have HK1 : Hid (Blk w1 w.heap.size 25 #[.slice b1 m1 e1, .slice b2 m2 e2] ∧ Blk w1 (w.heap.size + 1) 60 #[.int .i64 kd, .slice a1 n1 c1, .slice a2 n2 c2, .string ms, .bool kp, .slice a3 n3 c3]) := ⟨HX.out.2.1.below hb1 HX.out.2.1.lt, HX.out.2.2.below hb1 HX.out.2.2.lt⟩
    have c0 : w1.cell? ⟨w.heap.size + 1, 2, none⟩ = some (.slice a2 n2 c2) := (HK1.out.2.cl 2 _ rfl).1
    clear hb1 HFO HX HXE
    go_wp2
    go_loopw [6, 7, 8, 15] (fun _ _ _ i wr => ∃ k : Nat, k ≤ n2 ∧ i = .int .i64 k ∧ Hid ((r.to.take k).all (fun n => (names l).contains n) = true ∧ Below w.heap.size w wr ∧ Below w1.heap.size w1 wr)) (fun _ _ _ i _ => n2 - (intOf i).toNat)
    case atStart => exact ⟨0, Nat.zero_le _, rfl, rfl, HB1.out, Below.refl _ _⟩
    case round =>
      obtain ⟨k, hk, rfl, HR⟩ := hrel
      by_cases hlt : k < n2
      · obtain ⟨bb, o, rfl, hcs⟩ := HAT.out (by rw [HL.out]; omega)
        obtain ⟨x, hx⟩ : ∃ x, r.to[k]? = some x := ⟨_, List.getElem?_eq_getElem (by rw [HL.out]; exact hlt)⟩
        have q0 : wr.cell? ⟨bb, o + k, none⟩ = some (.string (B x)) := (HR.out.2.1.cell (p := ⟨bb, o + k, none⟩) (lt_of_cell (hcs k x hx))).trans (hcs k x hx)
        have kS : Blk wr w.heap.size 25 #[.slice b1 m1 e1, .slice b2 m2 e2] := HK1.out.1.below HR.out.2.2 HK1.out.1.lt
        have s0 : wr.cell? ⟨w.heap.size, 0, none⟩ = some (.slice b1 m1 e1) := (kS.cl 0 _ rfl).1
        have s1 : wr.cell? ⟨w.heap.size, 1, none⟩ = some (.slice b2 m2 e2) := (kS.cl 1 _ rfl).1
        have HP := Lib.hid (HPO x wr HR.out.2.1).out
        have HT := fun h1 => Lib.hid (allT (p := fun n => (names l).contains n) HR.out.1 hx h1)
        have HF := fun h1 => Lib.hid (allF (p := fun n => (names l).contains n) hx h1)
        have HB2 : Hid (Below w.heap.size w wr ∧ Below w1.heap.size w1 wr) := HR.out.2
        generalize (names l).contains x = d at HP HT HF
        obtain ⟨xs, hxs⟩ : ∃ xs, B x = xs := ⟨_, rfl⟩
        simp only [hxs] at q0 HP
        generalize max (idxT (names l) x 0) 0 = mx at HP
        clear hx hxs hcs HR HAT kS HPO
        cases d with
        | true =>
          have HT' := HT rfl
          clear HT HF
          go_wp2_with (go_at_call 15; refine HP.out.mono ?_; rintro e w4 ⟨rfl, hb4⟩; have HB4 : Hid (Below w.heap.size w w4 ∧ Below w1.heap.size w1 w4) := ⟨below_step HB2.out.1 (Nat.le_refl _) hb4, below_step HB2.out.2 (Nat.le_refl _) hb4⟩; clear hb4)
          go_roundw
          case rel => exact ⟨k + 1, by omega, by go_num, HT'.out, HB4.out⟩
          case measure => simp [intOf]; omega
        | false =>
          have HF' := HF rfl
          have HQ' : Hid (ruleFault l r = 5) := by show _ = _; rw [HQ.out, HF'.out]; rfl
          clear HT HF HF' HQ
          go_wp2_with (go_at_call 15; refine HP.out.mono ?_; rintro e w4 ⟨rfl, hb4⟩; have HB4 : Hid (Below w.heap.size w w4) := below_step HB2.out.1 (Nat.le_refl _) hb4; clear hb4)
          go_ret
          exact ⟨by rw [HQ'.out]; rfl, HB4.out⟩
      · obtain rfl : k = n2 := by omega
        have HAL : Hid (ruleFault l r = 0) := by
          show _ = _
          have h := HR.out.1
          rw [List.take_of_length_le (by rw [HL.out]; exact Nat.le_refl _)] at h
          rw [HQ.out, h]; rfl
        have HB : Hid (Below w.heap.size w wr) := HR.out.2.1
        clear HR HAT HPO HQ
        go_wp2
        go_ret
        exact ⟨by rw [HAL.out]; rfl, HB.out⟩
end Ru
end Go.Proofs.YtiahelekgjdjlaaGreatDoor
