
/- SackRuns: it answers true. -/
import Derived.Test.YtahkmdbbicpfcaaSkArg
import Derived.Test.YtahkmdbbicpfcaaSkRuns1
namespace Go.Proofs.Ytahkmdbbicpfcaa
open Go.RowKit
namespace Sk
open Rk
attribute [local go_sem ↓] appN_eq
set_option maxRecDepth 100000 in
set_option maxHeartbeats 4000000 in
theorem sackRuns_walk (a0 : Option Addr) (n0 c0 : Nat) (f0 : Nat → Int) (mo : Int) (w : World) (_hm : n0 ≤ maxLen) (hf : ∀ i, i < n0 → -9223372036854775808 ≤ f0 i ∧ f0 i ≤ 9223372036854775807) (hH : Holds (fun n : Int => Value.int .i64 n) w a0 n0 f0) (hmo : (Lit.int .u8 mo).wf = true) :
    Calls Try.prog 6 #[.slice a0 n0 c0, .int .u8 mo] w fun e w' => e = .returned (.bool true) ∧ Below w.heap.size w w' := by
  have HAW : Hid (∀ W, Calls Try.prog 7 #[] W fun e w' => e = .returned (.bool true) ∧ Below W.heap.size W w') := awake_any
  have hmb := wf_u8 hmo
  have ht : mo.tmod 9 = mo % 9 := Int.tmod_eq_emod_of_nonneg hmb.1
  obtain ⟨m, hm9⟩ : ∃ m, mo % 9 = m := ⟨_, rfl⟩
  rw [hm9] at ht
  have hm0 : 0 ≤ m ∧ m < 9 := by omega
  have q1 : IntKind.u8.wrap m = m := by rw [IntKind.wrap_u8]; omega
  have q2 : IntKind.i64.wrap m = m := wr64 _ (by omega) (by omega)
  by_cases hn : n0 ≤ 60
  · have HFL : Hid (∀ W, Below w.heap.size w W → Calls Try.prog 20 #[.slice a0 n0 c0, .int .i64 60] W fun e w' => ∃ s R v, e = .returned (.tuple #[.pointer (some ⟨s, 0, none⟩), v, .bool true]) ∧ Full W 60 (upN f0 n0) s R v w') := fun W hb =>
      fill_any a0 n0 c0 (upN f0 n0) 60 W (upN_len f0 n0).symm (by rw [upN_len]; omega) (by decide) (upN_fit hf) ((upN_arg hH).below hb)
    have hd : decide (60 < (n0 : Int)) = false := decide_eq_false (by omega)
    obtain ⟨l, hl⟩ : ∃ l, put [] (upN f0 n0) = l := ⟨_, rfl⟩
    have HL : Hid (l.length ≤ 10000) := by show _ ≤ _; rw [← hl, put_len, upN_len]; simp; omega
    have HLE := Lib.hid hl
    clear hf hH _hm hn hmo hmb hm9 hl
    go_enter Try.func6, Try.ntmps6
    go_wp2_with fail
    refine (HAW.out _).mono ?_
    rintro e w1 ⟨rfl, hb1⟩
    have HF1 := Lib.hid (HFL.out _ hb1)
    have HB1 := Lib.hid hb1
    clear hb1
    go_wp2_with fail
    refine HF1.out.mono ?_
    rintro e w2 ⟨s, R, v, rfl, hfu⟩
    obtain ⟨hsk, hes, hs0, hR0, hbw⟩ := hfu
    rw [HLE.out] at hsk hes
    obtain ⟨a1, c1, rfl⟩ := es_slice hes
    obtain ⟨n1, hn1⟩ : ∃ n1, l.length = n1 := ⟨_, rfl⟩
    rw [hn1] at hes ⊢
    have HB2 := Lib.hid (below_step HB1.out (Nat.le_refl _) hbw)
    -- the two variables behind fill
    obtain ⟨X, hX⟩ : ∃ X, (w2.alloc (.cells #[.slice a1 n1 c1] 28)).alloc (.cells #[.bool true] 4) = X := ⟨_, rfl⟩
    have bX : Below w2.heap.size w2 X := by rw [← hX]; exact ((Below.refl _ w2).alloc (Nat.le_refl _) _).alloc (by simp) _
    have xs : Blk X w2.heap.size 28 #[.slice a1 n1 c1] := by rw [← hX]; exact (Blk.new w2 _ _).alloc _
    have xo : Blk X (w2.heap.size + 1) 4 #[.bool true] := by
      rw [← hX]
      have := Blk.new (w2.alloc (.cells #[.slice a1 n1 c1] 28)) 4 #[.bool true]
      rwa [World.size_alloc] at this
    have c4 : X.cell? ⟨w2.heap.size + 1, 0, none⟩ = some (.bool true) := (xo.cl 0 _ rfl).1
    have bXA : Below X.heap.size X (X.alloc (.cells #[] 3)) := (Below.refl _ X).alloc (Nat.le_refl _) _
    have c5 : (X.alloc (.cells #[] 3)).cell? ⟨w2.heap.size, 0, none⟩ = some (.slice a1 n1 c1) := ((xs.below bXA xs.lt).cl 0 _ rfl).1
    have hl1 := HL.out
    obtain ⟨v5, W5, r5, o5, b5, -⟩ := appN_step (w := X) (v := .slice (some ⟨X.heap.size, 0, none⟩) 0 0) (l1 := []) bXA (Vec.Own.new encN 1 X X.heap.size (Nat.le_refl _)) ((hes.below bX).below bXA).src (by simp; omega)
    rw [List.nil_append] at o5
    have HCP := Lib.hid (compact_any hl1 o5)
    have HGE : Hid (∀ g, v5.ownBlock = some g → X.heap.size ≤ g) := fun g hg => o5.geB g hg
    have HX := Lib.hid bX
    have HXS := Lib.hid xs
    have HXO := Lib.hid xo
    have HES := Lib.hid hes
    have HSK := Lib.hid hsk
    have HB5 := Lib.hid b5
    have R5 := Lib.hid r5
    clear hsk hes hs0 hR0 hbw bX xs xo bXA o5 b5 hl1 hn1
    go_wp2_with fail
    refine HCP.out.mono ?_
    rintro e w5 ⟨v6, rfl, he6, hg5⟩
    obtain ⟨a6, c6, rfl⟩ := es_slice he6
    have b5 : Below X.heap.size X w5 := HB5.out.grown hg5 HB5.out.size HGE.out
    have b25 : Below w2.heap.size w2 w5 := HX.out.trans (b5.mono HX.out.size)
    obtain ⟨L, hL⟩ : ∃ L, (once l).length = L := ⟨_, rfl⟩
    rw [hL] at he6 ⊢
    obtain ⟨Y, hY⟩ : ∃ Y, ((w5.alloc (.cells #[.slice a6 L c6] 28)).alloc (.cells #[.int .i64 0] 3)).alloc (.cells #[.int .i64 m] 3) = Y := ⟨_, rfl⟩
    have bY : Below w5.heap.size w5 Y := by rw [← hY]; exact (((Below.refl _ w5).alloc (Nat.le_refl _) _).alloc (by simp) _).alloc (by simp; omega) _
    have yc : Blk Y w5.heap.size 28 #[.slice a6 L c6] := by rw [← hY]; exact ((Blk.new w5 _ _).alloc _).alloc _
    have yn : Blk Y (w5.heap.size + 1) 3 #[.int .i64 0] := by
      rw [← hY]
      have := (Blk.new (w5.alloc (.cells #[.slice a6 L c6] 28)) 3 #[.int .i64 0]).alloc (.cells #[.int .i64 m] 3)
      rwa [World.size_alloc] at this
    have ym : Blk Y (w5.heap.size + 2) 3 #[.int .i64 m] := by
      rw [← hY]
      have := Blk.new ((w5.alloc (.cells #[.slice a6 L c6] 28)).alloc (.cells #[.int .i64 0] 3)) 3 #[.int .i64 m]
      rwa [World.size_alloc, World.size_alloc] at this
    have hxs : Blk w5 w2.heap.size 28 #[.slice a1 n1 c1] := HXS.out.below b5 HXS.out.lt
    have hxo : Blk w5 (w2.heap.size + 1) 4 #[.bool true] := HXO.out.below b5 HXO.out.lt
    have yB : RunB w2.heap.size (w2.heap.size + 1) w5.heap.size (w5.heap.size + 1) (w5.heap.size + 2) (.slice a1 n1 c1) (.slice a6 L c6) m 0 Y := ⟨hxs.below bY hxs.lt, hxo.below bY hxo.lt, yc, yn, ym⟩
    have HRN := Lib.hid (Runs_any ((HSK.out.below b25).below bY))
    have hb2Y : Below w2.heap.size w2 Y := b25.trans (bY.mono b25.size)
    have h25 := b25.size
    have HE1 := Lib.hid (HES.out.below b25)
    have HE6 := Lib.hid he6
    have HBY := Lib.hid bY
    have HYB := Lib.hid yB
    have HB2Y := Lib.hid hb2Y
    have HLL := Lib.hid hL
    clear he6 hg5 b5 b25 bY yc yn ym hxs hxo yB hb2Y c5 c4 hL hX
    go_wp2_with fail
    refine HRN.out.mono ?_
    rintro e w7 ⟨f, rfl, hbo, hb7⟩
    obtain ⟨⟨gf, lbf, rfl, eg, hseq⟩, -⟩ := hbo
    have yB7 : RunB w2.heap.size (w2.heap.size + 1) w5.heap.size (w5.heap.size + 1) (w5.heap.size + 2) (.slice a1 n1 c1) (.slice a6 L c6) m 0 w7 := by
      have y := HYB.out
      exact ⟨y.s.below hb7 y.s.lt, y.o.below hb7 y.o.lt, y.c.below hb7 y.c.lt, y.n.below hb7 y.n.lt, y.m.below hb7 y.m.lt⟩
    have hb57 : Below w5.heap.size w5 w7 := HBY.out.trans (hb7.mono HBY.out.size)
    have hcall := hseq 27 #[.pointer (some ⟨w2.heap.size + 1, 0, none⟩), .pointer (some ⟨w5.heap.size + 1, 0, none⟩), .pointer (some ⟨w5.heap.size, 0, none⟩), .pointer (some ⟨w2.heap.size, 0, none⟩), .pointer (some ⟨w5.heap.size + 2, 0, none⟩)] (fun args w => by kernel_rfl)
      (fun rest => decide (((once l).length : Int) - (rest.length : Int) < m)) (RunJ w2.heap.size (w2.heap.size + 1) w5.heap.size (w5.heap.size + 1) (w5.heap.size + 2) (.slice a1 n1 c1) (.slice a6 L c6) l m w7) (RunX w2.heap.size (w2.heap.size + 1) w5.heap.size (w5.heap.size + 1) (w5.heap.size + 2) (.slice a1 n1 c1) (.slice a6 L c6) l m w7)
      (fun rest A ⟨k, k1, k2, k3, k4, k5⟩ => ⟨k, k1, k2, k3, ⟨k4.s, k4.o, k4.c, k4.n, k4.m⟩, k5.away (below_dr0 A) k5.size⟩)
      (fun x rest W1 hJ => (runs1_any w2.heap.size (w2.heap.size + 1) w5.heap.size (w5.heap.size + 1) (w5.heap.size + 2) (.slice a1 n1 c1) (.slice a6 L c6) l m w7 HL.out (by omega)
        (fun W cs hbo ho => ⟨es_run HE1.out hb57 (by omega) hbo ho, es_run HE6.out hb57 (by omega) hbo ho⟩) ⟨_, yB7.o⟩ x rest W1 hJ).mono fun e W2 ⟨q1, q2, q3⟩ => ⟨q1, q2, q3.keeps _ (fun k hk => by
          obtain ⟨kk, -, -, -, hB, -⟩ := hJ
          rcases List.mem_cons.1 hk with rfl | hk
          · exact ⟨_, _, hB.n, by decide⟩
          · rw [List.mem_singleton] at hk; subst hk; exact ⟨_, _, hB.o, by decide⟩)⟩)
      w7 (Below.refl _ _) ⟨0, Nat.zero_le _, rfl, .inl rfl, yB7, Only.refl _ _⟩
    have HC : Hid (Calls Try.prog gf (#[.func (.func 27) #[] #[.pointer (some ⟨w2.heap.size + 1, 0, none⟩), .pointer (some ⟨w5.heap.size + 1, 0, none⟩), .pointer (some ⟨w5.heap.size, 0, none⟩), .pointer (some ⟨w2.heap.size, 0, none⟩), .pointer (some ⟨w5.heap.size + 2, 0, none⟩)]] ++ lbf) w7 fun e W' => (∃ u, e = .returned u) ∧
        ∃ k : Nat, (k : Int) = min (L : Int) (max m 1) ∧ RunB w2.heap.size (w2.heap.size + 1) w5.heap.size (w5.heap.size + 1) (w5.heap.size + 2) (.slice a1 n1 c1) (.slice a6 L c6) m k W' ∧ Below w.heap.size w W') :=
      hcall.mono fun e W' ⟨a, hr, _⟩ => ⟨a, by
        have fin : ∀ {W' : World}, Only [w5.heap.size + 1, w2.heap.size + 1] w7 W' → Below w.heap.size w W' := fun ho => by
          have h2 := HB2.out
          have h7 : Below w2.heap.size w2 w7 := HB2Y.out.trans (hb7.mono HB2Y.out.size)
          have h8 : Below w2.heap.size w2 _ := h7.trans (ho.drop h7.size (fun k hk => by
            rcases List.mem_cons.1 hk with rfl | hk
            · omega
            · rw [List.mem_singleton] at hk; subst hk; omega))
          exact h2.trans (h8.mono h2.size)
        have hLL := HLL.out
        cases hb : run (fun rest : List (Int × Int) => decide (((once l).length : Int) - (rest.length : Int) < m)) (runs l) [] with
        | true =>
          obtain ⟨k, h1, h2, h3, h4, h5⟩ := hr.1 hb
          have : k = (once l).length := by
            have := congrArg List.length h2
            rw [List.length_drop, List.length_nil, runs_len] at this
            omega
          exact ⟨k, by omega, h4, fin h5⟩
        | false =>
          obtain ⟨k, h1, h2, h4, h5⟩ := hr.2 hb
          exact ⟨k, by omega, h4, fin h5⟩⟩
    clear hseq hcall yB7 hb57 hb7 hY
    go_wp2_with fail
    refine HC.out.mono ?_
    rintro e w8 ⟨⟨u, rfl⟩, k, hk, hB, hbe⟩
    have d1 : w8.cell? ⟨w2.heap.size + 1, 0, none⟩ = some (.bool true) := (hB.o.cl 0 _ rfl).1
    have d2 : w8.cell? ⟨w5.heap.size + 1, 0, none⟩ = some (.int .i64 (k : Int)) := (hB.n.cl 0 _ rfl).1
    have d3 : w8.cell? ⟨w5.heap.size, 0, none⟩ = some (.slice a6 L c6) := (hB.c.cl 0 _ rfl).1
    have d5 : w8.cell? ⟨w5.heap.size + 2, 0, none⟩ = some (.int .i64 m) := (hB.m.cl 0 _ rfl).1
    have HBE := Lib.hid hbe
    have HK := Lib.hid hk
    clear hB hbe hk
    go_wp2
    go_ret
    refine ⟨?_, HBE.out⟩
    simp [HK.out]
  · have hd : decide (60 < (n0 : Int)) = true := decide_eq_true (by omega)
    clear hf hH _hm hn hmo hmb hm9 ht q1 q2 hm0
    go_enter Try.func6, Try.ntmps6
    go_wp2_with fail
    refine (HAW.out _).mono ?_
    rintro e w1 ⟨rfl, hb1⟩
    have HB1 := Lib.hid hb1
    clear hb1
    go_wp2_with fail
    refine (HAW.out _).mono ?_
    rintro e w2 ⟨rfl, hb2⟩
    have HB2 := Lib.hid (below_step HB1.out (Nat.le_refl _) hb2)
    clear hb2
    go_wp2
    go_ret
    exact ⟨rfl, HB2.out⟩
end Sk
end Go.Proofs.Ytahkmdbbicpfcaa
