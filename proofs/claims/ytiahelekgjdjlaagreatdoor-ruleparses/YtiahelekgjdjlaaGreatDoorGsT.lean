/- What strings.Lines gives: each line with its end, as far as is asked. What package rule's Parse answers, of any text that isn't long. What the law's fixed fact answers: true. -/
import Derived.Test.YtiahelekgjdjlaaGreatDoorGsA
import Derived.Test.YtiahelekgjdjlaaGreatDoorGsD
import Derived.Test.YtiahelekgjdjlaaGreatDoorGsB
import Derived.Test.YtiahelekgjdjlaaGreatDoorGsW
import Derived.Test.YtiahelekgjdjlaaGreatDoorGsP
import Derived.Test.YtiahelekgjdjlaaGreatDoorGsS
import Derived.Test.YtiahelekgjdjlaaGreatDoorGsO
namespace Go.Proofs.YtiahelekgjdjlaaGreatDoor
open Go.RowKit Go.Shelf
open Dp Gb
attribute [local go_sem] Oper.semAt_some
namespace Ru
def Kp1 (b : Nat) (A C : World) : Prop := ∀ t cs, Blk A b t cs → Blk C b t cs
theorem lines1_enters : ∀ args w, (callFunc 60 args).run Tryz.prog w = .ok (.enter 60 args) w := enters_of Tryz.func60 (by kernel_rfl) rfl
theorem left_one {W : World} {b : Nat} {r : List UInt8} (h : Blk W b 9 #[.string (B r)]) : leftM b W = r.length := by
  have c0 : W.cell? ⟨b, 0, none⟩ = some (.string (B r)) := (h.cl 0 _ rfl).1
  unfold leftM
  rw [c0]
  show (B r).size = _
  rw [B_size]
theorem ext_a (a t : List UInt8) : (B (a ++ 10 :: t)).extract 0 (a.length + 1) = B (a ++ [10]) := by
  rw [Lib.extract_eq]
  show B (((a ++ 10 :: t).drop 0).take _) = _
  rw [List.drop_zero, Nat.sub_zero, show a ++ 10 :: t = (a ++ [10]) ++ t by simp, List.take_left' (by simp)]
set_option maxRecDepth 100000 in
set_option maxHeartbeats 4000000 in
theorem lines1_any (l : List UInt8) (hl : l.length ≤ 100000) (b lp : Nat) (cont : List (List UInt8) → Bool) (J : List (List UInt8) → World → Prop) (Jx : World → Prop) (hab : ∀ l A C, J l A → OnlyT b A C → J l C)
    (hY : ∀ x rest W, J (x :: rest) W → YieldAt Fence.wide 0 Tryz.prog lp #[.string (B x)] W fun e W' => e = .returned (.bool (cont rest)) ∧ Rk.Res J Jx (cont rest) rest W' ∧ Kp1 b W W')
    (W : World) (hB : Blk W b 9 #[.string (B l)]) (hJ : J (linesP l) W) :
    Calls Tryz.prog 60 #[.func (.yield lp) #[] #[], .pointer (some ⟨b, 0, none⟩)] W fun e W' => (∃ v, e = .returned v) ∧ Rk.Res J Jx (Rk.run cont (linesP l) []) [] W' := by
  have HST : Hid (l.length ≤ 100000 ∧ Blk W b 9 #[.string (B l)] ∧ J (linesP l) W) := ⟨hl, hB, hJ⟩
  have HAB := Lib.hid hab
  have HY := Lib.hid hY
  obtain ⟨RR, hRR⟩ : ∃ RR, Rk.run cont (linesP l) [] = RR := ⟨_, rfl⟩
  rw [hRR]
  have HRR := Lib.hid hRR
  clear hab hY hB hJ hRR hl
  refine (callsIn_wide (n := 3)).1 ?_
  refine callsIn_of_wp Tryz.func60 rfl trivial ?_ rfl
  simp only [Tryz.ntmps60, List.size_toArray, List.length_cons, List.length_nil, Nat.reduceAdd, Nat.reduceSub, Array.replicate_succ, Array.replicate_zero, List.push_toArray, List.append_toArray, List.nil_append, List.cons_append]
  gi_wp2
  gi_loopw [3, 4] (fun _ _ wr => ∃ r, Hid (r.length ≤ 100000 ∧ Blk wr b 9 #[.string (B r)] ∧ J (linesP r) wr ∧ RR = Rk.run cont (linesP r) [])) (fun _ _ wr => leftM b wr)
  case atStart => exact ⟨l, ⟨HST.out.1, HST.out.2.1, HST.out.2.2, HRR.out.symm⟩⟩
  case round =>
    clear HST HRR
    obtain ⟨r, HR⟩ := hrel
    have c0 : wr.cell? ⟨b, 0, none⟩ = some (.string (B r)) := (HR.out.2.1.cl 0 _ rfl).1
    have c0f : wr.frozen? ⟨b, 0, none⟩ = false := (HR.out.2.1.cl 0 _ rfl).2
    have hBr := B_size r
    by_cases h0 : r = []
    · subst h0
      have HFIN : Hid (Rk.Res J Jx RR [] wr) := by
        obtain ⟨-, -, h3, h4⟩ := HR.out
        rw [linesP_nil] at h3 h4
        rw [h4]
        exact ⟨fun _ => h3, fun h => (by cases h)⟩
      have hz : ¬ (0 : Int) < ((B []).size : Int) := by rw [hBr]; decide
      clear HR
      gi_wp2
      go_end0
      exact ⟨⟨_, rfl⟩, HFIN.out⟩
    · have hz : (0 : Int) < ((B r).size : Int) := by rw [hBr]; have := List.length_pos_iff.2 h0; omega
      have HIX := Lib.hid (Y2.indexByte_any (B r) 10 wr)
      change Hid (Calls _ _ #[.string (B r), .int .u8 10] _ _) at HIX
      rcases cut_cases 10 r with ⟨hn, -⟩ | ⟨a, t, hn, hr, -⟩
      · have hix : Lib.indexByte (B r).data.toList 10 = -1 := index_miss hn
        rw [hix] at HIX
        have hlp := linesP_last h0 hn
        obtain ⟨V, hV⟩ : ∃ V, wr.setCell ⟨b, 0, none⟩ (.string ⟨#[]⟩) = V := ⟨_, rfl⟩
        have hkV : Blk V b 9 #[.string (B [])] := by rw [← hV]; exact HR.out.2.1.set 0 _
        have HJ : Hid (J [r] V ∧ RR = cont []) := by
          have h3 := HR.out.2.2.1
          have h4 := HR.out.2.2.2
          rw [hlp] at h3 h4
          exact ⟨by rw [← hV]; exact HAB.out _ _ _ h3 (OnlyT.set 0 _), by rw [h4]; simp [Rk.run]⟩
        obtain ⟨fn, tmps, assign, body, hy, hRR⟩ := HY.out r [] V HJ.out.1
        have HRD := Lib.hid hRR
        have HLR : Hid (1 ≤ r.length) := List.length_pos_iff.2 h0
        have HKV := Lib.hid hkV
        obtain ⟨bb, hbb⟩ : ∃ bb, cont [] = bb := ⟨_, rfl⟩
        rw [hbb] at HRD HJ
        obtain ⟨s, hs⟩ : ∃ s, B r = s := ⟨_, rfl⟩
        rw [hs] at c0 hz HIX hy hBr
        rw [← hV] at hy HRD HKV
        clear hn hix hRR hlp hV h0 hkV hbb hs hBr
        gi_wp2_with (first | (refine ⟨trivial, ?_⟩; gi_at_call 61; refine (callsIn_wide.2 HIX.out).mono ?_; rintro e w3 ⟨rfl, rfl⟩))
        refine (round_any HRD.out).mono ?_
        rintro e W3 ⟨rfl, R3, K3⟩
        cases bb with
        | false =>
          have HFIN : Hid (Rk.Res J Jx RR [] W3) := by rw [HJ.out.2]; exact R3
          clear R3 K3
          gi_wp2
          refine bodyPost_ret (results_none rfl _ _ _) rfl ?_
          exact ⟨⟨_, rfl⟩, HFIN.out⟩
        | true =>
          have hk3 := K3 _ _ HKV.out
          have HN : Hid (([] : List UInt8).length ≤ 100000 ∧ Blk W3 b 9 #[.string (B [])] ∧ J (linesP []) W3 ∧ RR = Rk.run cont (linesP []) []) := ⟨by decide, hk3, R3.1 rfl, by rw [HJ.out.2]; rfl⟩
          clear R3 K3 hk3
          gi_wp2
          go_roundw
          case rel => exact ⟨[], HN⟩
          case measure =>
            rw [left_one HN.out.2.1, left_one HR.out.2.1]
            have := HLR.out
            simp only [List.length_nil]
            omega
      · have hix : Lib.indexByte (B r).data.toList 10 = (a.length : Int) := by rw [hr]; exact index_hit t hn
        rw [hix] at HIX
        have hlp : linesP r = (a ++ [10]) :: linesP t := by rw [hr]; exact linesP_cut hn
        have x1 := ext_a a t
        have x2 := B_drop a t 10
        rw [← hr] at x1 x2
        have hlr : r.length = a.length + 1 + t.length := by rw [hr]; simp; omega
        obtain ⟨V, hV⟩ : ∃ V, (wr.setCell ⟨b, 0, none⟩ (.string (B t))).drew = V := ⟨_, rfl⟩
        have hkV : Blk V b 9 #[.string (B t)] := by rw [← hV]; exact HR.out.2.1.set 0 _
        have HJ : Hid (J ((a ++ [10]) :: linesP t) V ∧ RR = (cont (linesP t) && Rk.run cont (linesP t) [])) := by
          have h3 := HR.out.2.2.1
          have h4 := HR.out.2.2.2
          rw [hlp] at h3 h4
          exact ⟨by rw [← hV]; exact HAB.out _ _ _ h3 (OnlyT.set 0 _).dr, by rw [h4, Rk.run, List.append_nil]⟩
        obtain ⟨fn, tmps, assign, body, hy, hRR⟩ := HY.out (a ++ [10]) (linesP t) V HJ.out.1
        have HRD := Lib.hid hRR
        have HKV := Lib.hid hkV
        have HLR := Lib.hid hlr
        obtain ⟨bb, hbb⟩ : ∃ bb, cont (linesP t) = bb := ⟨_, rfl⟩
        rw [hbb] at HRD HJ
        obtain ⟨s, hs⟩ : ∃ s, B r = s := ⟨_, rfl⟩
        obtain ⟨n, hna⟩ : ∃ n, a.length = n := ⟨_, rfl⟩
        rw [hs] at c0 hz HIX x1 x2 hBr
        rw [hna] at HIX x1 x2 hlr
        have hrl := HR.out.1
        have i1 : ¬ (n : Int) < 0 := by omega
        have i0 : (0 : Int) ≤ (n : Int) := by omega
        have i2 : (n : Int) + 1 ≤ (s.size : Int) := by omega
        have i3 : wrap64 ((n : Int) + 1) = (n : Int) + 1 := IntWalk.wrap64_in _ ⟨by omega, by omega⟩
        have HTL : Hid (t.length ≤ 100000) := by show _ ≤ _; omega
        generalize B (a ++ [10]) = ass at x1 hy
        obtain ⟨tsb, hts⟩ : ∃ s, B t = s := ⟨_, rfl⟩
        have HTS := Lib.hid hts
        rw [hts] at x2 hV
        rw [← hV] at hy HRD HKV
        clear hn hix hRR hlp hV h0 hkV hbb hs hBr hr hrl hlr hna hts
        gi_wp2_with (first | (refine ⟨trivial, ?_⟩; gi_at_call 61; refine (callsIn_wide.2 HIX.out).mono ?_; rintro e w3 ⟨rfl, rfl⟩))
        gi_region
        gi_wp2
        refine (round_any HRD.out).mono ?_
        rintro e W3 ⟨rfl, R3, K3⟩
        cases bb with
        | false =>
          have HFIN : Hid (Rk.Res J Jx RR [] W3) := ⟨(fun h => by rw [HJ.out.2] at h; cases h), fun _ => R3.2 rfl⟩
          clear R3 K3
          gi_wp2
          refine bodyPost_ret (results_none rfl _ _ _) rfl ?_
          exact ⟨⟨_, rfl⟩, HFIN.out⟩
        | true =>
          have hk3 := K3 _ _ HKV.out
          have HN : Hid (t.length ≤ 100000 ∧ Blk W3 b 9 #[.string (B t)] ∧ J (linesP t) W3 ∧ RR = Rk.run cont (linesP t) []) := ⟨HTL.out, hk3, R3.1 rfl, by rw [HJ.out.2, Bool.true_and]⟩
          clear R3 K3 hk3
          gi_wp2
          go_roundw
          case rel => exact ⟨t, HN⟩
          case measure =>
            rw [left_one HN.out.2.1, left_one HR.out.2.1, HLR.out]; omega
end Ru
end Go.Proofs.YtiahelekgjdjlaaGreatDoor
namespace Go.Proofs.YtiahelekgjdjlaaGreatDoor
open Go.RowKit Go.Shelf
open Dp Gb
attribute [local go_sem] Oper.semAt_some
namespace Ru
theorem take_any (s : RSet) (line : List UInt8) (sb Bs : Nat) (w : World) (hE : EnvR w) (hS : StA w sb Bs s) (hB : Bs + 1 ≤ w.heap.size) (hl : line.length ≤ 100000) :
    Calls Tryz.prog 31 #[.pointer (some ⟨sb, 0, none⟩), .string (B line)] w fun e w' => e = .returned (.bool (takeP s line).isSome) ∧ (∀ s', takeP s line = some s' → StA w' sb Bs s') ∧ TkF sb Bs w w' := by
  by_cases h : (wordsP line).headD [] = wPolicy
  · exact take_P s line sb Bs w hE hS hB hl h
  · exact take_R s line sb Bs w hE hS hB hl h
set_option maxRecDepth 100000 in
theorem lines_any (l : List UInt8) (w : World) :
    Calls Tryz.prog 30 #[.string (B l)] w fun e w' => e = .returned (.func (.func 60) #[] #[.pointer (some ⟨w.heap.size, 0, none⟩)]) ∧ w.alloc (.cells #[.string (B l)] 9) = w' := by
  generalize B l = s
  go_enter Tryz.func30, Tryz.ntmps30
  go_wp2
  go_ret
  exact ⟨rfl, rfl⟩
theorem results_parse (W : World) (b : Nat) (a : Array Value) (u v x y : Value) (h0 : Blk W b setT #[u, v]) (h1 : Blk W (b + 1) intT #[x]) (h2' : Blk W (b + 1 + 1) errT #[y]) (h2 : a[2]? = some (.pointer (some ⟨b, 0, none⟩))) (h3 : a[3]? = some (.pointer (some ⟨b + 1, 0, none⟩))) (h4 : a[4]? = some (.pointer (some ⟨b + 1 + 1, 0, none⟩))) :
    (results Tryz.f13 a).run Tryz.prog W = .ok (.tuple #[.agg #[u, v], x, y]) W := by
  have c0 : W.cell? ⟨b, 0, none⟩ = some u := (h0.cl 0 _ rfl).1
  have c1 : W.cell? ⟨b, 1, none⟩ = some v := (h0.cl 1 _ rfl).1
  have c2 := (h1.cl 0 _ rfl).1
  have c3 := (h2'.cl 0 _ rfl).1
  simp [results, Tryz.results13, go_sem, h2, h3, h4, c0, c1, c2, c3]
/-- the results are stored -/
abbrev set4 (V : World) (h : Nat) (u v x y : Value) : World := (((V.setCell ⟨h, 0, none⟩ u).setCell ⟨h, 1, none⟩ v).setCell ⟨h + 1, 0, none⟩ x).setCell ⟨h + 1 + 1, 0, none⟩ y
theorem blk4 {V : World} {h : Nat} (k : Res0 h V) (u v x y : Value) : Blk (set4 V h u v x y) h setT #[u, v] ∧ Blk (set4 V h u v x y) (h + 1) intT #[x] ∧ Blk (set4 V h u v x y) (h + 1 + 1) errT #[y] :=
  ⟨(((k.1.set 0 _).set 1 _).other (by show h + 1 ≠ h; omega) _).other (by show h + 1 + 1 ≠ h; omega) _, (((k.2.1.other (by show h ≠ h + 1; omega) _).other (by show h ≠ h + 1; omega) _).set 0 _).other (by show h + 1 + 1 ≠ h + 1; omega) _,
    (((k.2.2.other (by show h ≠ h + 1 + 1; omega) _).other (by show h ≠ h + 1 + 1; omega) _).other (by show h + 1 ≠ h + 1 + 1; omega) _).set 0 _⟩
theorem below4 {w V : World} {Bs h : Nat} (k : Below Bs w V) (hb : Bs ≤ h) (u v x y : Value) : Below Bs w (set4 V h u v x y) :=
  (((k.setCell (p := ⟨h, 0, none⟩) hb _).setCell (p := ⟨h, 1, none⟩) hb _).setCell (p := ⟨h + 1, 0, none⟩) (Nat.le_succ_of_le hb) _).setCell (p := ⟨h + 1 + 1, 0, none⟩) (Nat.le_succ_of_le (Nat.le_succ_of_le hb)) _
theorem marks4 {V : World} {h Bs : Nat} {Ds : List Nat} (k : Res0 h V) (m : Marks Bs Ds V) (u v x y : Value) : Marks Bs Ds (set4 V h u v x y) := by
  have a := m.set k.1 0 u
  have k1 := k.1.set 0 u
  have b := a.set k1 1 v
  have c := b.set ((k.2.1.other (p := ⟨h, 0, none⟩) (by show h ≠ h + 1; omega) u).other (p := ⟨h, 1, none⟩) (by show h ≠ h + 1; omega) v) 0 x
  exact c.set (((k.2.2.other (p := ⟨h, 0, none⟩) (by show h ≠ h + 1 + 1; omega) u).other (p := ⟨h, 1, none⟩) (by show h ≠ h + 1 + 1; omega) v).other (p := ⟨h + 1, 0, none⟩) (by show h + 1 ≠ h + 1 + 1; omega) x) 0 y
theorem typ4 {V : World} {h : Nat} (k : Res0 h V) (u v x y : Value) {g : Nat} {t : TypeId} {cs : Array Value} (hg : Blk V g t cs) (h1 : setT ≠ t) (h2 : intT ≠ t) (h3 : errT ≠ t) : Blk (set4 V h u v x y) g t cs :=
  have a := k.1.apart hg h1
  have b := k.2.1.apart hg h2
  have c := k.2.2.apart hg h3
  (((hg.other a _).other a _).other b _).other c _
theorem rules_keep {W W' : World} {v : Value} {l : List Rul} (h : RulesAt W v l) (hk : ∀ g t cs, Blk W g t cs → t = rulT ∨ t = 9 ∨ t = 49 → Blk W' g t cs) : RulesAt W' v l := by
  obtain ⟨raws, h1, h2⟩ := h
  exact ⟨raws, Vec.Es.keep h1 (fun b cs hb => hk _ _ _ hb (.inl rfl)), h2.keep ⟨fun b cs hb => hk _ _ _ hb (.inr (.inl rfl)), fun b cs hb => hk _ _ _ hb (.inr (.inr rfl))⟩⟩
set_option maxRecDepth 100000 in
set_option maxHeartbeats 8000000 in
theorem parse_any (l : List UInt8) (w : World) (hE : EnvR w) (hl : l.length ≤ 100000) :
    Calls Tryz.prog 13 #[.string (B l)] w fun e w' => ∃ a1 n1 c1 a2 n2 c2, e = .returned (.tuple #[.agg #[.slice a1 n1 c1, .slice a2 n2 c2], .int .i64 ((parseP l).2.1 : Nat), .int .i64 ((parseP l).2.2 : Nat)]) ∧ EsP w' (.slice a1 n1 c1) (parseP l).1.pols ∧ RulesAt w' (.slice a2 n2 c2) (parseP l).1.rules ∧ Below w.heap.size w w' := by
  obtain ⟨X, hX⟩ : ∃ X, ((((w.alloc (.cells #[.slice none 0 0, .slice none 0 0] setT)).alloc (.cells #[.int .i64 0] intT)).alloc (.cells #[.int .i64 0] errT)).alloc (.cells #[.slice none 0 0, .slice none 0 0] setT)).alloc (.cells #[.int .i64 0] intT) = X := ⟨_, rfl⟩
  have hbX : Below w.heap.size w X := by rw [← hX]; exact (((((Below.refl _ w).alloc (Nat.le_refl _) _).alloc (by simp) _).alloc (by simp; omega) _).alloc (by simp; omega) _).alloc (by simp; omega) _
  have hzX : X.heap.size = w.heap.size + 5 := by rw [← hX]; simp
  have kA : Res0 w.heap.size X ∧ Blk X (w.heap.size + 1 + 1 + 1) setT #[.slice none 0 0, .slice none 0 0] ∧ Blk X (w.heap.size + 1 + 1 + 1 + 1) intT #[.int .i64 0] := by
    rw [← hX]
    have b0 := Blk.new w setT #[.slice none 0 0, .slice none 0 0]
    have b1 := Blk.new (w.alloc (.cells #[.slice none 0 0, .slice none 0 0] setT)) intT #[.int .i64 0]
    have b2 := Blk.new ((w.alloc (.cells #[.slice none 0 0, .slice none 0 0] setT)).alloc (.cells #[.int .i64 0] intT)) errT #[.int .i64 0]
    have b3 := Blk.new (((w.alloc (.cells #[.slice none 0 0, .slice none 0 0] setT)).alloc (.cells #[.int .i64 0] intT)).alloc (.cells #[.int .i64 0] errT)) setT #[.slice none 0 0, .slice none 0 0]
    have b4 := Blk.new ((((w.alloc (.cells #[.slice none 0 0, .slice none 0 0] setT)).alloc (.cells #[.int .i64 0] intT)).alloc (.cells #[.int .i64 0] errT)).alloc (.cells #[.slice none 0 0, .slice none 0 0] setT)) intT #[.int .i64 0]
    simp only [World.size_alloc] at b1 b2 b3 b4
    exact ⟨⟨(((b0.alloc _).alloc _).alloc _).alloc _, ((b1.alloc _).alloc _).alloc _, (b2.alloc _).alloc _⟩, b3.alloc _, b4⟩
  obtain ⟨Y, hY⟩ : ∃ Y, X.alloc (.cells #[.string (B l)] 9) = Y := ⟨_, rfl⟩
  have hbY : Below X.heap.size X Y := by rw [← hY]; exact (Below.refl _ X).alloc (Nat.le_refl _) _
  have hzY : Y.heap.size = w.heap.size + 6 := by rw [← hY]; simp [hzX]
  have kY : Blk Y (w.heap.size + 5) 9 #[.string (B l)] := by rw [← hY, ← hzX]; exact Blk.new X _ _
  have HLN := Lib.hid (lines_any l X)
  rw [hY, hzX] at HLN
  have HST : Hid (ParI w (linesP l) (linesP l) Y) := by
    obtain ⟨⟨r0, r1, r2⟩, r3, r4⟩ := kA
    exact ⟨[], ⟨[], []⟩, rfl, rfl, fit_none, ⟨none, 0, 0, none, 0, 0, [], r3.below hbY r3.lt, World.ownsRow_nil _ _ _ _, World.ownsRow_nil _ _ _ _, RawsAre.nil _, by decide, by decide, fun x h => (by cases h)⟩, r4.below hbY r4.lt, ⟨r0.below hbY r0.lt, r1.below hbY r1.lt, r2.below hbY r2.lt⟩, below_step hbX (Nat.le_refl _) hbY, by omega, ⟨_, kY⟩⟩
  have hseq : SeqD Tryz.prog (w.heap.size + 5) (Kp1 (w.heap.size + 5)) (fun x : List UInt8 => #[.string (B x)]) Y 60 #[.pointer (some ⟨w.heap.size + 5, 0, none⟩)] (linesP l) := fun lp cont J Jx hab hR W hW hJ => lines1_any l hl (w.heap.size + 5) lp cont J Jx hab hR W (kY.below hW kY.lt) hJ
  have HSEQ := Lib.hid hseq
  have HXE := Lib.hid hX
  have HZ := Lib.hid hzY
  have HE := Lib.hid hE
  have HLM : Hid (∀ x ∈ linesP l, x.length ≤ 100000) := fun x hx => Nat.le_trans (linesP_mem hx) hl
  have hcnt : (linesP l).length ≤ 100000 := by
    have : ∀ (n : Nat) (l : List UInt8), (linesN n l).length ≤ n := fun n => by
      induction n with
      | zero => intro l; exact Nat.le_refl _
      | succ n ih =>
        intro l
        show (if l = [] then [] else if (Lib.cut l [10]).2.2 then ((Lib.cut l [10]).1 ++ [10]) :: linesN n (Lib.cut l [10]).2.1 else [l]).length ≤ n + 1
        split
        · exact Nat.zero_le _
        · split
          · have := ih (Lib.cut l [10]).2.1; simp; omega
          · simp
    exact Nat.le_trans (this _ _) hl
  have HCN := Lib.hid hcnt
  have HPP : Hid (parseP l = goP (linesP l) ⟨[], []⟩ 0) := rfl
  obtain ⟨PP, hPP⟩ : ∃ PP, parseP l = PP := ⟨_, rfl⟩
  rw [hPP] at HPP ⊢
  generalize linesP l = L at HST HSEQ HLM HCN HPP
  generalize B l = ls at HLN ⊢
  clear hE hl hX hbX hzX kA hY hbY hzY kY hseq hcnt hPP
  refine (callsIn_wide (n := 3)).1 ?_
  refine callsIn_of_wp_marks Tryz.func13 rfl trivial ?_ rfl
  simp only [Tryz.ntmps13, List.size_toArray, List.length_cons, List.length_nil, Nat.reduceAdd, Nat.reduceSub, Array.replicate_succ, Array.replicate_zero, List.push_toArray, List.append_toArray, List.nil_append, List.cons_append]
  gi_wp2_with fail
  rw [HXE.out]
  refine ⟨trivial, ?_⟩
  refine (callsIn_wide.2 HLN.out).mono ?_
  rintro e w2 ⟨rfl, rfl⟩
  gi_wp2_with fail
  refine wpIn_rangeD (by decide) (gf := 60) (lbf := #[.pointer (some ⟨w.heap.size + 5, 0, none⟩)]) rfl lines1_enters HSEQ.out (by rw [HZ.out]; omega) (fun h k => fun t cs x => k t cs (h t cs x)) (fun W k o o' hk hc _ t cs h => (Free.put o' hk hc).blk h) (Below.refl _ _) (fun _ => rfl)
    (contP (okP L) L) (ParI w L) (fun c V => c = .ret ∧ ParX w PP V) ?own ?box ?ownx HST.out ?a1 ?assign ?body ?done ?stop
  case own =>
    rintro rest A A' row ⟨pre, s, e1, e2, e3, e4, e5, e6, e7, e8, e9⟩ hg hr
    have hf : Free A A' := ⟨row, hg, fun r e => (hr r e).2⟩
    obtain ⟨cs, e9⟩ := e9
    exact ⟨pre, s, e1, e2, e3, e4.keep (fun g t cs hb => hf.blk hb), hf.blk e5, ⟨hf.blk e6.1, hf.blk e6.2.1, hf.blk e6.2.2⟩, below_free e7 (Nat.le_refl _) hg (fun r e => by have := (hr r e).1; have := HZ.out; omega), Nat.le_trans e8 hg.size, ⟨cs, hf.blk e9⟩⟩
  case box =>
    rintro rest A A' ⟨pre, s, e1, e2, e3, e4, e5, e6, e7, e8, e9⟩ ⟨ho, hty⟩
    obtain ⟨cs, e9⟩ := e9
    exact ⟨pre, s, e1, e2, e3, e4.only e9 ho (by omega), ho.blk e5 (by simp), ⟨ho.blk e6.1 (by simp), ho.blk e6.2.1 (by simp), ho.blk e6.2.2 (by simp)⟩, e7.trans (ho.drop e7.size (by simp)), Nat.le_trans e8 ho.size, hty _ _ e9⟩
  case ownx =>
    rintro c A A' row ⟨e1, e2, e3, e4, e5, e6⟩ hg hr
    have hf : Free A A' := ⟨row, hg, fun r e => (hr r e).2⟩
    exact ⟨e1, e2, hf.blk e3, hf.blk e4, hf.blk e5, below_free e6 (Nat.le_refl _) hg (fun r e => by have := (hr r e).1; have := HZ.out; omega)⟩
  case assign =>
    intro lp x V K hK
    gi_wp2
    exact hK
  case body =>
    rintro lp x rest V ⟨pre, s, e1, e2, e3, e4, e5, e6, e7, e8, e9⟩
    have hxl : x.length ≤ 100000 := HLM.out x (by rw [e1]; simp)
    have hpl : pre.length < 100000 := by have := HCN.out; rw [e1] at this; simp at this; omega
    have HTA := Lib.hid (take_any s x (w.heap.size + 1 + 1 + 1) (w.heap.size + 5) V (HE.out.below e7) e4 e8 hxl)
    have hok : contP (okP L) L rest = (takeP s x).isSome := by
      rw [e1, contP_at]
      unfold okP
      rw [List.take_left, e2]
    have HPN : Hid (∀ s', takeP s x = some s' → FitS s' ∧ stP (pre ++ [x]) ⟨[], []⟩ = some s') := fun s' h => ⟨fit_take hxl h e3, by rw [stP_app, e2]; show (match takeP s x with | none => none | some s' => stP [] s') = _; rw [h]; rfl⟩
    have HPX : Hid (takeP s x = none → PP = (⟨[], []⟩, pre.length, 2)) := fun h => by
      rw [HPP.out, e1, goP_app pre (x :: rest) ⟨[], []⟩ s 0 e2, Nat.zero_add]
      show (match takeP s x with | none => ((⟨[], []⟩ : RSet), pre.length, 2) | some s' => goP rest s' (pre.length + 1)) = _
      rw [h]
    rw [hok]
    have HV : Hid (L = pre ++ (x :: rest) ∧ Blk V (w.heap.size + 1 + 1 + 1 + 1) intT #[.int .i64 (pre.length : Nat)] ∧ Res0 w.heap.size V ∧ Below w.heap.size w V ∧ w.heap.size + 5 + 1 ≤ V.heap.size ∧ ∃ cs, Blk V (w.heap.size + 5) 9 cs) := ⟨e1, e5, e6, e7, e8, e9⟩
    obtain ⟨k, hk⟩ : ∃ k, pre.length = k := ⟨_, rfl⟩
    rw [hk] at HV HPX hpl
    have HK := Lib.hid hk
    generalize takeP s x = tk at HTA HPN HPX ⊢
    generalize B x = xs at HTA
    clear e1 e2 e3 e4 e5 e6 e7 e8 e9 hxl hok hk
    cases tk with
    | none =>
      have HR := Lib.hid (HPX.out rfl)
      gi_wp2_with (refine ⟨trivial, ?_⟩; gi_at_call 31; refine (CallsIn.inRound lp (callsIn_wide.2 HTA.out)).mono ?_; rintro e w3 ⟨rfl, -, hf3⟩)
      obtain ⟨v1, v2, v3, v4, v5, v6⟩ := HV.out
      obtain ⟨csx, v6⟩ := v6
      have n3 : Blk w3 (w.heap.size + 1 + 1 + 1 + 1) intT #[.int .i64 (k : Nat)] := blk_ne v2 (hf3.old _ (by omega) (by omega))
      have ra : Blk w3 w.heap.size setT #[.slice none 0 0, .slice none 0 0] := blk_ne v3.1 (hf3.old _ (by omega) (by omega))
      have rb : Blk w3 (w.heap.size + 1) intT #[.int .i64 0] := blk_ne v3.2.1 (hf3.old _ (by omega) (by omega))
      have rc : Blk w3 (w.heap.size + 1 + 1) errT #[.int .i64 0] := blk_ne v3.2.2 (hf3.old _ (by omega) (by omega))
      have hbx : Blk w3 (w.heap.size + 5) 9 csx := hf3.typ _ _ _ v6 (by omega) (by decide) (by decide)
      have hbl : Below w.heap.size w w3 := hf3.below_of v4 (by omega) (by omega)
      have HKP : Hid (Kp1 (w.heap.size + 5) V w3) := fun t cs h => by
        have ht : t = 9 := Classical.byContradiction fun ne => h.apart v6 ne rfl
        subst ht
        exact hf3.typ _ _ _ h (by omega) (by decide) (by decide)
      have HKO := Lib.hid hf3.oth
      have g0 : w3.cell? ⟨w.heap.size + 1 + 1 + 1 + 1, 0, none⟩ = some (.int .i64 (k : Nat)) := (n3.cl 0 _ rfl).1
      have g0f := (n3.cl 0 _ rfl).2
      have a0 : w3.cell? ⟨w.heap.size, 0, none⟩ = some (.slice none 0 0) := (ra.cl 0 _ rfl).1
      have a1 : w3.cell? ⟨w.heap.size, 1, none⟩ = some (.slice none 0 0) := (ra.cl 1 _ rfl).1
      have a0f := (ra.cl 0 _ rfl).2
      have a1f := (ra.cl 1 _ rfl).2
      have b0 : w3.cell? ⟨w.heap.size + 1, 0, none⟩ = some (.int .i64 0) := (rb.cl 0 _ rfl).1
      have b0f := (rb.cl 0 _ rfl).2
      have c0 : w3.cell? ⟨w.heap.size + 1 + 1, 0, none⟩ = some (.int .i64 0) := (rc.cl 0 _ rfl).1
      have c0f := (rc.cl 0 _ rfl).2
      have HFIN : Hid (ParX w PP ((((w3.setCell ⟨w.heap.size, 0, none⟩ (.slice none 0 0)).setCell ⟨w.heap.size, 1, none⟩ (.slice none 0 0)).setCell ⟨w.heap.size + 1, 0, none⟩ (.int .i64 (k : Nat))).setCell ⟨w.heap.size + 1 + 1, 0, none⟩ (.int .i64 2)).drew) := by
        refine ⟨by rw [HR.out], blk_dr ?_, blk_dr ?_, blk_dr ?_, below_dr ?_⟩
        · exact (((ra.set 0 _).set 1 _).other (by show w.heap.size + 1 ≠ w.heap.size; omega) _).other (by show w.heap.size + 1 + 1 ≠ w.heap.size; omega) _
        · rw [HR.out]
          exact (((rb.other (by show w.heap.size ≠ w.heap.size + 1; omega) _).other (by show w.heap.size ≠ w.heap.size + 1; omega) _).set 0 _).other (by show w.heap.size + 1 + 1 ≠ w.heap.size + 1; omega) _
        · exact (((rc.other (by show w.heap.size ≠ w.heap.size + 1 + 1; omega) _).other (by show w.heap.size ≠ w.heap.size + 1 + 1; omega) _).other (by show w.heap.size + 1 ≠ w.heap.size + 1 + 1; omega) _).set 0 _
        · exact (((hbl.setCell (p := ⟨w.heap.size, 0, none⟩) (Nat.le_refl _) _).setCell (p := ⟨w.heap.size, 1, none⟩) (Nat.le_refl _) _).setCell (p := ⟨w.heap.size + 1, 0, none⟩) (Nat.le_succ _) _).setCell (p := ⟨w.heap.size + 1 + 1, 0, none⟩) (by show w.heap.size ≤ w.heap.size + 1 + 1; omega) _
      have HKF : Hid (KeepsOthers V ((((w3.setCell ⟨w.heap.size, 0, none⟩ (.slice none 0 0)).setCell ⟨w.heap.size, 1, none⟩ (.slice none 0 0)).setCell ⟨w.heap.size + 1, 0, none⟩ (.int .i64 (k : Nat))).setCell ⟨w.heap.size + 1 + 1, 0, none⟩ (.int .i64 2)).drew ∧ Kp1 (w.heap.size + 5) V ((((w3.setCell ⟨w.heap.size, 0, none⟩ (.slice none 0 0)).setCell ⟨w.heap.size, 1, none⟩ (.slice none 0 0)).setCell ⟨w.heap.size + 1, 0, none⟩ (.int .i64 (k : Nat))).setCell ⟨w.heap.size + 1 + 1, 0, none⟩ (.int .i64 2)).drew) :=
        ⟨((((HKO.out.trans (KeepsOthers.setCell _ _ _)).trans (KeepsOthers.setCell _ _ _)).trans (KeepsOthers.setCell _ _ _)).trans (KeepsOthers.setCell _ _ _)).trans (others_below (below_dr0 _)), fun t cs h => blk_dr (((((HKP.out t cs h).other (by show w.heap.size ≠ w.heap.size + 5; omega) _).other (by show w.heap.size ≠ w.heap.size + 5; omega) _).other (by show w.heap.size + 1 ≠ w.heap.size + 5; omega) _).other (by show w.heap.size + 1 + 1 ≠ w.heap.size + 5; omega) _)⟩
      clear v1 v2 v3 v4 v5 v6 n3 ra rb rc hbx hbl hf3 HPN HPX
      gi_region
      all_goals
        gi_wp2
        exact ⟨HKF.out.1, HKF.out.2, rfl, rfl, HFIN.out⟩
    | some s' =>
      obtain ⟨hf', hs'⟩ := HPN.out s' rfl
      have HSF : Hid (FitS s' ∧ stP (pre ++ [x]) ⟨[], []⟩ = some s') := ⟨hf', hs'⟩
      have hw1 : wrap64 ((k : Int) + 1) = (k : Int) + 1 := IntWalk.wrap64_in _ ⟨by omega, by omega⟩
      clear hf' hs'
      gi_wp2_with (refine ⟨trivial, ?_⟩; gi_at_call 31; refine (CallsIn.inRound lp (callsIn_wide.2 HTA.out)).mono ?_; rintro e w3 ⟨rfl, hS3, hf3⟩; have HH3 : Hid ((∀ s'', some s' = some s'' → StA w3 (w.heap.size + 1 + 1 + 1) (w.heap.size + 5) s'') ∧ TkF (w.heap.size + 1 + 1 + 1) (w.heap.size + 5) V w3) := ⟨hS3, hf3⟩; have g0 : w3.cell? ⟨w.heap.size + 1 + 1 + 1 + 1, 0, none⟩ = some (.int .i64 (k : Nat)) := ((blk_ne HV.out.2.1 (hf3.old _ (by omega) (by omega))).cl 0 _ rfl).1; have g0f : w3.frozen? ⟨w.heap.size + 1 + 1 + 1 + 1, 0, none⟩ = false := ((blk_ne HV.out.2.1 (hf3.old _ (by omega) (by omega))).cl 0 _ rfl).2; clear hS3 hf3)
      obtain ⟨hS3, hf3⟩ := HH3.out
      obtain ⟨v1, v2, v3, v4, v5, v6⟩ := HV.out
      obtain ⟨csx, v6⟩ := v6
      have n3 : Blk w3 (w.heap.size + 1 + 1 + 1 + 1) intT #[.int .i64 (k : Nat)] := blk_ne v2 (hf3.old _ (by omega) (by omega))
      have ra : Blk w3 w.heap.size setT #[.slice none 0 0, .slice none 0 0] := blk_ne v3.1 (hf3.old _ (by omega) (by omega))
      have rb : Blk w3 (w.heap.size + 1) intT #[.int .i64 0] := blk_ne v3.2.1 (hf3.old _ (by omega) (by omega))
      have rc : Blk w3 (w.heap.size + 1 + 1) errT #[.int .i64 0] := blk_ne v3.2.2 (hf3.old _ (by omega) (by omega))
      have hbx : Blk w3 (w.heap.size + 5) 9 csx := hf3.typ _ _ _ v6 (by omega) (by decide) (by decide)
      have hbl : Below w.heap.size w w3 := hf3.below_of v4 (by omega) (by omega)
      have HKP : Hid (Kp1 (w.heap.size + 5) V w3) := fun t cs h => by
        have ht : t = 9 := Classical.byContradiction fun ne => h.apart v6 ne rfl
        subst ht
        exact hf3.typ _ _ _ h (by omega) (by decide) (by decide)
      have HKO := Lib.hid hf3.oth
      have g0' : w3.cell? ⟨w.heap.size + 1 + 1 + 1 + 1, 0, none⟩ = some (.int .i64 (k : Nat)) := (n3.cl 0 _ rfl).1
      have g0f' := (n3.cl 0 _ rfl).2
      have e4 := hS3 s' rfl
      have hset := n3.set 0 (.int .i64 ((k : Int) + 1))
      refine ⟨HKO.out.trans (KeepsOthers.setCell _ _ _), fun t cs h => (HKP.out t cs h).other (by show w.heap.size + 1 + 1 + 1 + 1 ≠ w.heap.size + 5; omega) _, rfl, pre ++ [x], s', by rw [v1]; simp, HSF.out.2, HSF.out.1, ?_, ?_, ⟨?_, ?_, ?_⟩, ?_, ?_, ?_⟩
      · obtain ⟨pa, pn, pc, ra', rn, rc', raws, h1, h2, h3, h4, h5⟩ := e4
        exact ⟨pa, pn, pc, ra', rn, rc', raws, h1.other (by show w.heap.size + 1 + 1 + 1 + 1 ≠ w.heap.size + 1 + 1 + 1; omega) _, own_stays h2 (fun g cs hg => hg.other (n3.apart hg (by decide)) _), own_stays h3 (fun g cs hg => hg.other (n3.apart hg (by decide)) _), h4.keep ⟨fun b cs hb => hb.other (n3.apart hb (by decide)) _, fun b cs hb => hb.other (n3.apart hb (by decide)) _⟩, h5⟩
      · have e : (((pre ++ [x]).length : Nat) : Int) = (k : Int) + 1 := by rw [List.length_append, HK.out]; simp
        rw [e]
        exact hset
      · exact ra.other (by show w.heap.size + 1 + 1 + 1 + 1 ≠ w.heap.size; omega) _
      · exact rb.other (by show w.heap.size + 1 + 1 + 1 + 1 ≠ w.heap.size + 1; omega) _
      · exact rc.other (by show w.heap.size + 1 + 1 + 1 + 1 ≠ w.heap.size + 1 + 1; omega) _
      · exact hbl.setCell (p := ⟨w.heap.size + 1 + 1 + 1 + 1, 0, none⟩) (by show w.heap.size ≤ w.heap.size + 1 + 1 + 1 + 1; omega) _
      · have := hf3.size
        simp
        omega
      · exact ⟨csx, hbx.other (by show w.heap.size + 1 + 1 + 1 + 1 ≠ w.heap.size + 5; omega) _⟩
  case done =>
    rintro D V hD hrun ⟨pre, s, e1, e2, e3, e4, e5, e6, e7, e8, e9⟩ hK
    have HM : Hid (Marks w.heap.size [D] V) := (Marks.nil _ _).cons (by have := HZ.out; omega) hK (by simp)
    have HR : Hid (PP = if (checkP s).2 = 0 then (s, 0, 0) else (⟨[], []⟩, (checkP s).1, (checkP s).2)) := by
      show _ = _
      rw [HPP.out, e1, goP_app pre [] ⟨[], []⟩ s 0 e2]
      rfl
    obtain ⟨pa, pn, pc, ra, rn, rc, raws, h1, h2, h3, h4, h5⟩ := e4
    have HCK := Lib.hid (check_any s pa ra pn pc rn rc V (HE.out.below e7).max e3 h2.es.rd (RulesAt.rd ⟨raws, h3.es, h4⟩))
    have HV : Hid (EsP V (.slice pa pn pc) s.pols ∧ RulesAt V (.slice ra rn rc) s.rules ∧ Res0 w.heap.size V ∧ Below w.heap.size w V) := ⟨h2.es, ⟨raws, h3.es, h4⟩, e6, e7⟩
    have c0 : V.cell? ⟨w.heap.size + 1 + 1 + 1, 0, none⟩ = some (.slice pa pn pc) := (h1.cl 0 _ rfl).1
    have c1 : V.cell? ⟨w.heap.size + 1 + 1 + 1, 1, none⟩ = some (.slice ra rn rc) := (h1.cl 1 _ rfl).1
    have HS1 := Lib.hid h1
    generalize checkP s = ck at HR HCK
    obtain ⟨cn, ce⟩ := ck
    simp only at HR HCK
    clear e1 e2 e3 e5 e6 e7 e8 e9 h1 h2 h3 h4 h5 hK hrun
    have HFIN : Hid (∀ w4, Below V.heap.size V w4 → Marks w.heap.size [D] w4 ∧ Res0 w.heap.size w4 ∧ Below w.heap.size w w4 ∧ Blk w4 (w.heap.size + 1 + 1 + 1) setT #[.slice pa pn pc, .slice ra rn rc] ∧ EsP w4 (.slice pa pn pc) s.pols ∧ RulesAt w4 (.slice ra rn rc) s.rules) := fun w4 hb =>
      ⟨HM.out.below hb, ⟨HV.out.2.2.1.1.below hb HV.out.2.2.1.1.lt, HV.out.2.2.1.2.1.below hb HV.out.2.2.1.2.1.lt, HV.out.2.2.1.2.2.below hb HV.out.2.2.1.2.2.lt⟩, below_step HV.out.2.2.2 (Nat.le_refl _) hb, HS1.out.below hb HS1.out.lt, Vec.Es.below HV.out.1 hb, HV.out.2.1.below hb⟩
    by_cases hce : ce = 0
    · subst hce
      have HR' : Hid (PP = (s, 0, 0)) := HR.out
      change Hid (Calls _ _ _ _ fun e w' => e = .returned (.tuple #[.int .i64 (cn : Nat), .int .i64 0]) ∧ _) at HCK
      gi_wp2_with (refine ⟨trivial, ?_⟩; gi_at_call 9; refine (callsIn_wide.2 HCK.out).mono ?_; rintro e w4 ⟨rfl, hb4⟩; have HF4 := Lib.hid (HFIN.out w4 hb4); have d0 : w4.cell? ⟨w.heap.size + 1 + 1 + 1, 0, none⟩ = some (.slice pa pn pc) := (HF4.out.2.2.2.1.cl 0 _ rfl).1; have d1 : w4.cell? ⟨w.heap.size + 1 + 1 + 1, 1, none⟩ = some (.slice ra rn rc) := (HF4.out.2.2.2.1.cl 1 _ rfl).1; have a0 : w4.cell? ⟨w.heap.size, 0, none⟩ = some (.slice none 0 0) := (HF4.out.2.1.1.cl 0 _ rfl).1; have a1 : w4.cell? ⟨w.heap.size, 1, none⟩ = some (.slice none 0 0) := (HF4.out.2.1.1.cl 1 _ rfl).1; have a0f := (HF4.out.2.1.1.cl 0 _ rfl).2; have a1f := (HF4.out.2.1.1.cl 1 _ rfl).2; have b0 : w4.cell? ⟨w.heap.size + 1, 0, none⟩ = some (.int .i64 0) := (HF4.out.2.1.2.1.cl 0 _ rfl).1; have b0f := (HF4.out.2.1.2.1.cl 0 _ rfl).2; have g0 : w4.cell? ⟨w.heap.size + 1 + 1, 0, none⟩ = some (.int .i64 0) := (HF4.out.2.1.2.2.cl 0 _ rfl).1; have g0f := (HF4.out.2.1.2.2.cl 0 _ rfl).2; clear hb4)
      refine leaves_marks [D] _ (marks4 HF4.out.2.1 HF4.out.1 _ _ _ _) fun W' hs => ?_
      obtain ⟨q1, q2, q3⟩ := blk4 HF4.out.2.1 (.slice pa pn pc) (.slice ra rn rc) (.int .i64 0) (.int .i64 0)
      refine ⟨_, results_parse W' w.heap.size _ _ _ _ _ (hs.2 _ _ _ q1) (hs.2 _ _ _ q2) (hs.2 _ _ _ q3) rfl rfl rfl, pa, pn, pc, ra, rn, rc, ?_, ?_, ?_, (below4 HF4.out.2.2.1 (Nat.le_refl _) _ _ _ _).trans hs.1⟩
      · rw [HR'.out]; rfl
      · rw [HR'.out]; exact Vec.Es.keep HF4.out.2.2.2.2.1 (fun b cs hb => hs.2 _ _ _ (typ4 HF4.out.2.1 _ _ _ _ hb (by decide) (by decide) (by decide)))
      · rw [HR'.out]; exact rules_keep HF4.out.2.2.2.2.2 (fun g t cs hb ht => hs.2 _ _ _ (typ4 HF4.out.2.1 _ _ _ _ hb (by rcases ht with rfl | rfl | rfl <;> decide) (by rcases ht with rfl | rfl | rfl <;> decide) (by rcases ht with rfl | rfl | rfl <;> decide)))
    · have hne : ((ce : Int) != 0) = true := bne_iff_ne.2 (by omega)
      have HR' : Hid (PP = (⟨[], []⟩, cn, ce)) := by show _ = _; rw [HR.out, if_neg hce]
      clear hce
      gi_wp2_with (refine ⟨trivial, ?_⟩; gi_at_call 9; refine (callsIn_wide.2 HCK.out).mono ?_; rintro e w4 ⟨rfl, hb4⟩; have HF4 := Lib.hid (HFIN.out w4 hb4); have d0 : w4.cell? ⟨w.heap.size + 1 + 1 + 1, 0, none⟩ = some (.slice pa pn pc) := (HF4.out.2.2.2.1.cl 0 _ rfl).1; have d1 : w4.cell? ⟨w.heap.size + 1 + 1 + 1, 1, none⟩ = some (.slice ra rn rc) := (HF4.out.2.2.2.1.cl 1 _ rfl).1; have a0 : w4.cell? ⟨w.heap.size, 0, none⟩ = some (.slice none 0 0) := (HF4.out.2.1.1.cl 0 _ rfl).1; have a1 : w4.cell? ⟨w.heap.size, 1, none⟩ = some (.slice none 0 0) := (HF4.out.2.1.1.cl 1 _ rfl).1; have a0f := (HF4.out.2.1.1.cl 0 _ rfl).2; have a1f := (HF4.out.2.1.1.cl 1 _ rfl).2; have b0 : w4.cell? ⟨w.heap.size + 1, 0, none⟩ = some (.int .i64 0) := (HF4.out.2.1.2.1.cl 0 _ rfl).1; have b0f := (HF4.out.2.1.2.1.cl 0 _ rfl).2; have g0 : w4.cell? ⟨w.heap.size + 1 + 1, 0, none⟩ = some (.int .i64 0) := (HF4.out.2.1.2.2.cl 0 _ rfl).1; have g0f := (HF4.out.2.1.2.2.cl 0 _ rfl).2; clear hb4)
      refine leaves_marks [D] _ (marks4 HF4.out.2.1 HF4.out.1 _ _ _ _) fun W' hs => ?_
      obtain ⟨q1, q2, q3⟩ := blk4 HF4.out.2.1 (.slice none 0 0) (.slice none 0 0) (.int .i64 (cn : Nat)) (.int .i64 (ce : Nat))
      refine ⟨_, results_parse W' w.heap.size _ _ _ _ _ (hs.2 _ _ _ q1) (hs.2 _ _ _ q2) (hs.2 _ _ _ q3) rfl rfl rfl, none, 0, 0, none, 0, 0, ?_, ?_, ?_, (below4 HF4.out.2.2.1 (Nat.le_refl _) _ _ _ _).trans hs.1⟩
      · rw [HR'.out]
      · rw [HR'.out]; exact Vec.Es.nil _ _ _
      · rw [HR'.out]; exact ⟨[], Vec.Es.nil _ _ _, RawsAre.nil _⟩
  case stop =>
    rintro D c V hD hrun ⟨rfl, h2⟩ hK
    have HM : Hid (Marks w.heap.size [D] V) := (Marks.nil _ _).cons (by have := HZ.out; omega) hK (by simp)
    have HV := Lib.hid h2
    clear h2 hK hrun
    gi_wp2
    refine leaves_marks [D] _ HM.out fun W' hs => ⟨_, results_parse W' w.heap.size _ _ _ _ _ (hs.2 _ _ _ HV.out.2.1) (hs.2 _ _ _ HV.out.2.2.1) (hs.2 _ _ _ HV.out.2.2.2.1) rfl rfl rfl, none, 0, 0, none, 0, 0, ?_, ?_, ?_, HV.out.2.2.2.2.trans hs.1⟩
    · rw [HV.out.1]; rfl
    · rw [HV.out.1]; exact Vec.Es.nil _ _ _
    · rw [HV.out.1]; exact ⟨[], Vec.Es.nil _ _ _, RawsAre.nil _⟩
end Ru
end Go.Proofs.YtiahelekgjdjlaaGreatDoor
namespace Go.Proofs.YtiahelekgjdjlaaGreatDoor
open Go.RowKit Go.Shelf
open Dp Gb
attribute [local go_sem] Oper.semAt_some
namespace Ru
def awT : List UInt8 := [112, 111, 108, 105, 99, 121, 32, 112, 32, 115, 105, 122, 101, 61, 49, 48, 32, 115, 108, 105, 100, 101, 61, 49, 48, 32, 108, 97, 116, 101, 61, 53, 32, 107, 101, 101, 112, 61, 49, 48, 48, 10, 114, 111, 108, 108, 32, 46, 61, 114, 101, 113, 115, 32, 99, 111, 100, 101, 33, 61, 50, 42, 32, 45, 62, 32, 112, 32, 97, 115, 32, 98, 97, 100, 32, 108, 101, 115, 115, 32, 104, 111, 115, 116, 10]
def awS : RSet := ⟨[⟨[112], 10, 10, 5, 100⟩], [⟨3, [⟨[46], false, [114, 101, 113, 115]⟩, ⟨[99, 111, 100, 101], true, [50, 42]⟩], [[112]], [98, 97, 100], false, [[104, 111, 115, 116]]⟩]⟩
set_option maxRecDepth 1000000 in
theorem awP : parseP awT = (awS, 0, 0) := by kernel_rfl
set_option maxRecDepth 1000000 in
set_option maxHeartbeats 4000000 in
theorem awake_any (w : World) (hE : EnvR w) :
    Calls Tryz.prog 7 #[] w fun e w' => e = .returned (.bool true) ∧ Below w.heap.size w w' := by
  have HP := Lib.hid (parse_any awT w hE (by decide))
  rw [awP] at HP
  change Hid (Calls _ _ _ w fun e w' => ∃ a1 n1 c1 a2 n2 c2, e = .returned (.tuple #[.agg #[.slice a1 n1 c1, .slice a2 n2 c2], .int .i64 0, .int .i64 0]) ∧ EsP w' _ awS.pols ∧ RulesAt w' _ awS.rules ∧ _) at HP
  clear hE
  go_enter Tryz.func7, Tryz.ntmps7
  go_wp2_with fail
  refine HP.out.mono ?_
  rintro e w1 ⟨a1, n1, c1, a2, n2, c2, rfl, he, hr, hb⟩
  obtain ⟨a, c, e1, hc, hat⟩ := EsP.at he
  injection e1 with e1 e2 e3
  subst e1 e3
  obtain ⟨b, o, rfl, hcs⟩ := hat (by decide)
  have q3 : w1.cell? ⟨b, o + 0 * 5 + 3, none⟩ = some (.int .i64 5) := hcs 0 _ rfl 3 _ rfl
  obtain ⟨raws, her, hra⟩ := hr
  obtain ⟨ra, rc, f1, hrc, hrat⟩ := EsR.at her
  injection f1 with f1 f2 f3
  subst f1 f3
  have hlen : raws.length = 1 := hra.1
  obtain ⟨raw, rfl⟩ : ∃ raw, raws = [raw] := by
    match raws, hlen with
    | [raw], _ => exact ⟨raw, rfl⟩
  obtain ⟨rb, ro, rfl, hrcs⟩ := hrat (by simp)
  have hri := hra.2 0 raw _ rfl rfl
  have p1 : w1.cell? ⟨rb, ro + 0 * 6 + 1, none⟩ = some raw.when.v := hrcs 0 raw rfl 1 _ rfl
  have p3 : w1.cell? ⟨rb, ro + 0 * 6 + 3, none⟩ = some (.string (B raw.met)) := hrcs 0 raw rfl 3 _ rfl
  rw [hri.met] at p3
  change w1.cell? _ = some (.string ⟨#[98, 97, 100]⟩) at p3
  have hwh := hri.when
  obtain ⟨kd, ⟨x1, y1, z1⟩, hto, mt, kp, hlb⟩ := raw
  simp only [Hd.v] at p1 hwh
  obtain ⟨ma, mc, g1, hmc, hmat⟩ := EsM.at hwh
  injection g1 with g1 g2 g3
  subst g1 g3
  obtain ⟨mb, mo, rfl, hmcs⟩ := hmat (by decide)
  have m1 : w1.cell? ⟨mb, mo + 1 * 3 + 1, none⟩ = some (.bool true) := hmcs 1 _ rfl 1 _ rfl
  have e2' : n1 = 1 := e2
  have f2' : n2 = 1 := f2
  have g2' : y1 = 2 := g2
  subst e2' f2' g2'
  have HB := Lib.hid hb
  simp only [Nat.zero_mul, Nat.one_mul, Nat.add_zero] at q3 p1 p3 m1
  clear he hat hcs her hra hrat hrcs hri hwh hmat hmcs hb e2 f2 g2 hc hrc hmc hlen HP
  have qb := lt_of_cell q3
  have pb1 := lt_of_cell p1
  have mb1 := lt_of_cell m1
  go_wp2
  go_ret
  exact ⟨rfl, HB.out.alloc HB.out.size _⟩
end Ru
end Go.Proofs.YtiahelekgjdjlaaGreatDoor
