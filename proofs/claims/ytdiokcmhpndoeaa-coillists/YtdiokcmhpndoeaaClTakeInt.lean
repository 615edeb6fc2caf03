
/- coil.Take over numbers: the list, or nothing and the error, and then nothing is taken. -/
import Derived.Test.YtdiokcmhpndoeaaClTakeList
import Derived.Test.YtdiokcmhpndoeaaClPut
namespace Go.Proofs.Ytdiokcmhpndoeaa
open Go.RowKit
attribute [local go_sem ↓] app_eq
/-- v is a slice of one's own that holds just l -/
abbrev IRow (W : World) (B : Nat) (v : Value) (l : List Int) : Prop := W.ownsRow B 3 1 v l.length (l.map fun x => .int .i64 x)
theorem IRow.slice {W : World} {B : Nat} {v : Value} {l : List Int} (h : IRow W B v l) : ∃ a c, v = .slice a l.length c := by
  rcases h.2 with ⟨rfl, h0⟩ | ⟨g', cap, cur, rfl, _⟩
  · exact ⟨_, _, by rw [h0]⟩
  · exact ⟨_, _, rfl⟩
theorem IRow.cells {W : World} {B : Nat} {v : Value} {l : List Int} (h : IRow W B v l) {g : Nat} (e : v.ownBlock = some g) : ∃ cur, W.heap[g]? = some (.cells cur 3 (0, 0)) := by
  rcases h.2 with ⟨rfl, _⟩ | ⟨g', cap, cur, rfl, hb, hh, r⟩
  · cases e
  · cases e; exact ⟨cur, hh⟩
theorem IRow.grown {W W' : World} {B : Nat} {v : Value} {l : List Int} {row : Option Nat} (h : IRow W B v l) (hg : W.grownBy W' row) (hr : ∀ g, v.ownBlock = some g → some g ≠ row) : IRow W' B v l := by
  rcases h.2 with h0 | ⟨g, cap, cur, e, hb, hh, r⟩
  · exact ⟨h.1, .inl h0⟩
  · exact ⟨h.1, .inr ⟨g, cap, cur, e, hb, (hg.block g (Array.getElem?_eq_some_iff.1 hh).1 (hr g (by rw [e]; rfl))).trans hh, r⟩⟩
theorem IRow.other {W : World} {B : Nat} {v : Value} {l : List Int} {g : Nat} {t : TypeId} {cs : Array Value} (h : IRow W B v l) (hb : Blk W g t cs) (ht : t ≠ 3) : v.ownBlock ≠ some g := fun e => by
  obtain ⟨cur, hh⟩ := h.cells e
  rw [show W.heap[g]? = _ from hb] at hh
  injection hh with hh
  injection hh with _ h2 _
  exact ht h2
theorem int_info : (Try.prog.info? 3).map (fun i => (i.zero, i.size, i.bytes)) = some (some (.int .i64 0), 1, 8) := by kernel_rfl
theorem int_app (w : World) (base : Nat) (v : Value) (l : List Int) (x : Int) (hown : IRow w base v l) (hz : l.length ≤ 1000000000) (hbase : base ≤ w.heap.size) :
    ∃ v' w', Sem.run Try.prog (App #[22, 22] 22 #[v, .slice (some ⟨w.heap.size, 0, none⟩) 1 1]) (w.alloc (.cells #[.int .i64 x] 3)) = .ok v' w' ∧ IRow w' base v' (l ++ [x]) ∧ w.grownBy w' v.ownBlock := by
  obtain ⟨i0, hi, hz0, hz1, hz2⟩ := info_parts int_info
  have hown' : IRow (w.alloc (.cells #[.int .i64 x] 3)) base v l := hown.grown (World.grownBy_alloc w _ none) (fun _ _ => by simp)
  obtain ⟨v', w', hr, h2, h3, _, _⟩ := run_append_own_at (P := Try.prog) _ base 22 22 3 i0 (.int .i64 0) 1 8 Try.underlying22 hi hz0 hz1 hz2 rfl (by decide) v l.length (l.map fun x => .int .i64 x) hown' ⟨w.heap.size, 0, none⟩ 1 1 [.int .i64 x] rfl
    (fun j u hu => by
      have hb := Blk.new w 3 #[.int .i64 x]
      match j, hu with
      | 0, hu => simp at hu; subst hu; exact (hb.cl 0 _ rfl).1
      | j + 1, hu => simp at hu) (fun u hu => by simp at hu; subst hu; rfl) (by unfold maxLen; omega) (by omega) (by simp; omega)
  refine ⟨v', w', hr, ?_, ?_⟩
  · show World.ownsRow _ _ _ _ _ _ _
    rw [List.length_append, List.map_append]
    exact h2
  · exact ⟨h3.os, h3.tape, h3.output, Nat.le_trans (by simp) h3.size, fun k hk hr => (h3.block k (by simp; omega) hr).trans (Below.heap_alloc w _ k hk)⟩
/-- one of them -/
def Cl.intTk (s : ByteArray) : Int × Nat × Nat := (Cl.unInt (Cl.takeUp s 9223372036854775807).1, (Cl.takeUp s 9223372036854775807).2)
theorem int_fn (w : World) : (binOp .eql 42 (.func (.func 15) #[] #[]) .nilFunc).run Try.prog w = .ok (.bool false) w := by kernel_rfl
set_option maxRecDepth 100000 in
theorem intOne_any {N : Nat} (R : Nat) (s : ByteArray) (w : World) (h : Rn.ReelAt N w R s 0) :
    Calls Try.prog 15 #[.pointer (some ⟨R, 0, none⟩)] w fun e w' => e = .returned (.int .i64 (Cl.intTk s).1) ∧ Rn.ReelAt N w' R (Cl.behind s (Cl.intTk s).2.1) (Cl.intTk s).2.2 ∧ w.grownBy w' (some R) := by
  have HU := Lib.hid (Rn.int_any R s 0 w h)
  rw [Cl.after0] at HU
  clear h
  go_enter Try.func15, Try.ntmps15
  go_wp2_with fail
  refine HU.out.mono ?_
  rintro e w1 ⟨rfl, h1, h2⟩
  go_wp2
  go_ret
  exact ⟨rfl, h1, h2⟩
theorem Cl.intTk_bd (s : ByteArray) : (Cl.intTk s).2.1 ≤ s.size ∧ (Cl.intTk s).2.2 ≤ 17 ∧ ((Cl.intTk s).2.2 = 0 → 0 < (Cl.intTk s).2.1) ∧ ((Cl.intTk s).2.2 ≠ 0 → (Cl.intTk s).2.1 = 0) := by
  have h := Cl.takeUp_bd s 9223372036854775807
  exact ⟨h.2.1, h.2.2.2.2, fun e => by have e2 := (h.2.2.2.1 e).2; show 0 < (Cl.takeUp s 9223372036854775807).2.1; rw [e2]; refine (Cl.num_bd s).2.2.2.1 ?_; rw [← e2]; exact e, fun e => (h.2.2.1.resolve_left e).2⟩
set_option maxRecDepth 100000 in
set_option maxHeartbeats 4000000 in
theorem intTake_any (N R : Nat) (s : ByteArray) (most : Int) (w : World) (hs : s.size ≤ 1000000) (hNw : N ≤ w.heap.size) (h : Rn.ReelAt N w R s 0) :
    Calls Try.prog 14 #[.pointer (some ⟨R, 0, none⟩), .int .i64 most, .func (.func 15) #[] #[]] w fun e w' => ∃ v l s' c', e = .returned v ∧ IRow w' w.heap.size v l ∧ Rn.ReelAt N w' R s' c' ∧ But w.heap.size R w w' ∧ ((Cl.takeList Cl.intTk s most = (some (l, s'), 0) ∧ c' = 0) ∨ (Cl.takeList Cl.intTk s most = (none, c') ∧ c' ≠ 0 ∧ l = [] ∧ s' = s)) := by
  obtain ⟨a, cap, hrs⟩ := h
  have HU := Lib.hid (Rn.up_any R s 0 most w ⟨a, cap, hrs⟩)
  rw [Cl.after0] at HU
  have hfe := int_fn
  obtain ⟨hc0, hz0⟩ := hrs.left
  have HRS := Lib.hid hrs
  have hbd := Cl.takeUp_bd s most
  have HTL : Hid (Cl.takeList Cl.intTk s most = if (Cl.takeUp s most).2.2 = 0 then Cl.listGo Cl.intTk (Cl.takeUp s most).1 (Cl.behind s (Cl.takeUp s most).2.1) [] else (none, (Cl.takeUp s most).2.2)) := Lib.hid rfl
  clear hrs
  obtain ⟨hn63, hk, hor, hok, hc17⟩ := hbd
  clear hok
  generalize Cl.takeUp s most = t at HU HTL hn63 hk hor hc17
  obtain ⟨n, k, c⟩ := t
  dsimp only at HU HTL hn63 hk hor hc17
  have HNW := Lib.hid hNw
  have HSB := Lib.hid (Cl.behind_size s k)
  clear hNw
  go_enter Try.func14, Try.ntmps14
  go_wp2_with fail
  refine HU.out.mono ?_
  rintro e w1 ⟨rfl, hr1, hg1⟩
  have HB1 : Hid (But w.heap.size R w w1) := Lib.hid ((But.refl w.heap.size R w).grown hg1 (Nat.le_refl _) (fun g e => .inr (by injection e with e; exact e.symm)))
  have HR1 := Lib.hid hr1
  clear hr1 hg1 HU hc0 hz0
  by_cases hc : c = 0
  · subst hc
    rw [if_pos rfl] at HTL
    clear hor
    go_wp2
    go_loopw [8, 19] (fun vv i wr => ∃ (j : Nat) (acc : List Int) (cur : ByteArray), j ≤ n ∧ i = .int .i64 j ∧ Hid (IRow wr w.heap.size vv acc) ∧ Hid (Rn.ReelAt N wr R cur 0) ∧ Hid (Cl.takeList Cl.intTk s most = Cl.listGo Cl.intTk (n - j) cur acc) ∧ Hid (acc.length + cur.size ≤ s.size) ∧ Hid (But w.heap.size R w wr)) (fun _ i _ => n - (intOf i).toNat)
    case atStart => exact ⟨0, [], Cl.behind s k, Nat.zero_le _, rfl, Lib.hid (World.ownsRow_nil _ _ _ _), HR1, HTL, Lib.hid (by have := HSB.out; simp; omega), HB1⟩
    case round =>
      clear HR1 HB1 HTL
      obtain ⟨j, acc, cur, hj, rfl, HV, HRE, HTL, HLE, HBW⟩ := hrel
      by_cases hlt : j < n
      · have HO := Lib.hid (intOne_any R cur wr HRE.out)
        have hb := Cl.intTk_bd cur
        by_cases he : (Cl.intTk cur).2.2 = 0
        · have HTY : Hid (Cl.takeList Cl.intTk s most = Cl.listGo Cl.intTk (n - (j + 1)) (Cl.behind cur (Cl.intTk cur).2.1) (acc ++ [(Cl.intTk cur).1])) := by
            show _ = _
            rw [HTL.out, Cl.listGo_yes _ cur acc (by omega) he, show n - j - 1 = n - (j + 1) by omega]
          rw [he] at HO
          have HPOS := Lib.hid (hb.2.2.1 he)
          have HKC := Lib.hid hb.1
          have HSC := Lib.hid (Cl.behind_size cur (Cl.intTk cur).2.1)
          clear hb he
          generalize Cl.intTk cur = q at HO HTY HPOS HSC HKC
          obtain ⟨x, k1, c1⟩ := q
          dsimp only at HO HTY HPOS HSC HKC
          obtain ⟨a2, c2, rfl⟩ := HV.out.slice
          have HBR : Hid (∃ u, Blk wr R 63 #[u, .int .i64 0]) := by
            obtain ⟨_, _, hb, _⟩ := HRE.out
            exact Lib.hid ⟨_, hb⟩
          have HALL : Hid (∀ w3, wr.grownBy w3 (some R) → Rn.ReelAt N w3 R (Cl.behind cur k1) 0 → ∃ v' w4, Sem.run Try.prog (App #[22, 22] 22 #[.slice a2 acc.length c2, .slice (some ⟨w3.heap.size, 0, none⟩) 1 1]) (w3.alloc (.cells #[.int .i64 x] 3)) = .ok v' w4 ∧ IRow w4 w.heap.size v' (acc ++ [x]) ∧ Rn.ReelAt N w4 R (Cl.behind cur k1) 0 ∧ But w.heap.size R w w4) := fun w3 hg3 hr3 => by
            obtain ⟨u, hbR⟩ := HBR.out
            have hV3 : IRow w3 w.heap.size (.slice a2 acc.length c2) acc := HV.out.grown hg3 (fun g e e' => HV.out.other hbR (by decide) (by rw [e, e']))
            have hB3 : But w.heap.size R w w3 := HBW.out.grown hg3 HBW.out.size (fun g e => .inr (by injection e with e; exact e.symm))
            obtain ⟨v', w4, h1, h2, h3⟩ := int_app w3 w.heap.size _ acc x hV3 (by have := HLE.out; omega) hB3.size
            obtain ⟨a4, cap4, hb4, hrest⟩ := hr3
            exact ⟨v', w4, h1, h2, reel_row_grown ⟨a4, cap4, hb4, hrest⟩ h3 (fun e => hV3.other hb4 (by decide) e.symm) (fun g e => Nat.le_trans HNW.out (World.ownsRow.lt hV3 g e).1), hB3.grown h3 hB3.size (fun g e => .inl (World.ownsRow.lt hV3 g e).1)⟩
          have HLN : Hid ((acc ++ [x]).length + (Cl.behind cur k1).size ≤ s.size) := by
            show _ ≤ _
            have h1 := HLE.out
            have h2 := HPOS.out
            have h3 := HSC.out
            have h4 := HKC.out
            rw [List.length_append, List.length_singleton]
            omega
          generalize hac : acc.length = len at HALL ⊢
          clear hac
          go_wp2_with fail
          refine HO.out.mono ?_
          rintro e w3 ⟨rfl, hr3, hg3⟩
          obtain ⟨v', w4, hap, hrow, hr4, hb4⟩ := HALL.out w3 hg3 hr3
          obtain ⟨a3, cap3, hrs3⟩ := hr3
          obtain ⟨hcf, _⟩ := hrs3.fail
          obtain ⟨a5, c5, rfl⟩ := hrow.slice
          have HROW := Lib.hid hrow
          have HR4 := Lib.hid hr4
          have HB4 := Lib.hid hb4
          clear hrow hr4 hb4 hrs3 hg3 HO HALL HV HRE HBR
          generalize hl5 : (acc ++ [x]).length = l5 at hap HROW
          clear hl5
          go_wp2
          go_roundw
          case rel => exact ⟨j + 1, acc ++ [x], Cl.behind cur k1, by omega, by simp, HROW, HR4, HTY, HLN, HB4⟩
          case measure => simp [intOf]; omega
        · have HTN : Hid (Cl.takeList Cl.intTk s most = (none, (Cl.intTk cur).2.2)) := by
            show _ = _
            rw [HTL.out, Cl.listGo_no _ cur acc (by omega) he]
          have HK0 := Lib.hid (hb.2.2.2 he)
          clear hb
          generalize Cl.intTk cur = q at HO HTN HK0 he
          obtain ⟨x, k1, c1⟩ := q
          dsimp only at HO HTN HK0 he
          obtain ⟨a2, c2, rfl⟩ := HV.out.slice
          generalize acc.length = len at HV ⊢
          go_wp2_with fail
          refine HO.out.mono ?_
          rintro e w3 ⟨rfl, hr3, hg3⟩
          have hB3 : But w.heap.size R w w3 := HBW.out.grown hg3 HBW.out.size (fun g e => .inr (by injection e with e; exact e.symm))
          obtain ⟨a3, cap3, hrs3⟩ := hr3
          obtain ⟨hcf, _⟩ := hrs3.fail
          obtain ⟨hcl, hzl⟩ := hrs3.left
          have HFIN := Lib.hid (rs_back HRS.out hB3 hrs3.1)
          have HB5 := Lib.hid (hB3.grown (grown_set w3 R 0 (.slice a s.size cap)) hB3.size (fun g e => .inr (by injection e with e; exact e.symm)))
          clear hrs3 hg3 HO HV HRE hB3 HTL
          go_wp2
          go_ret
          exact ⟨_, [], s, c1, rfl, World.ownsRow_nil _ _ _ _, ⟨_, _, HFIN.out⟩, HB5.out, .inr ⟨HTN.out, he, rfl, rfl⟩⟩
      · obtain rfl : n = j := by omega
        obtain ⟨a2, c2, rfl⟩ := HV.out.slice
        have HTZ : Hid (Cl.takeList Cl.intTk s most = (some (acc, cur), 0)) := by
          show _ = _
          rw [HTL.out, Nat.sub_self, Cl.listGo_zero]
        generalize acc.length = len at HV ⊢
        go_wp2
        go_ret
        exact ⟨_, acc, cur, 0, rfl, HV.out, HRE.out, HBW.out, .inl ⟨HTZ.out, rfl⟩⟩
  · rw [if_neg hc] at HTL
    obtain ⟨rfl, rfl⟩ : n = 0 ∧ k = 0 := hor.resolve_left hc
    clear hor
    have hr1 := HR1.out
    rw [Cl.behind_zero] at hr1
    have HR2 := Lib.hid hr1
    clear hr1 HR1
    go_wp2
    go_loopw [8, 19] (fun vv i wr => vv = .slice none 0 0 ∧ i = .int .i64 0 ∧ wr = w1) (fun _ _ _ => 0)
    case atStart => exact ⟨rfl, rfl, rfl⟩
    case round =>
      obtain ⟨rfl, rfl, rfl⟩ := hrel
      go_wp2
      go_ret
      exact ⟨_, [], s, c, rfl, World.ownsRow_nil _ _ _ _, HR2.out, HB1.out, .inr ⟨HTL.out, hc, rfl, rfl⟩⟩
end Go.Proofs.Ytdiokcmhpndoeaa
