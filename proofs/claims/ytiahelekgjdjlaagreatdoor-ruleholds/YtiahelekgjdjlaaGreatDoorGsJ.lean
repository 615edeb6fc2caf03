/- What package rule's Holds answers. What the document's own Holds answers. -/
import Derived.Test.YtiahelekgjdjlaaGreatDoorGsI
import Derived.Test.YtiahelekgjdjlaaGreatDoorGsE
import Derived.Test.YtiahelekgjdjlaaGreatDoorGsH
import Derived.Test.YtiahelekgjdjlaaGreatDoorGsB
import Derived.Test.YtiahelekgjdjlaaGreatDoorGsG
namespace Go.Proofs.YtiahelekgjdjlaaGreatDoor
open Go.RowKit Go.Shelf
open Dp Gb
attribute [local go_sem] Oper.semAt_some
namespace Ru
theorem below_undrH {V w : World} (h : Below V.drew.heap.size V.drew w) : Below V.heap.size V w := below_step (below_dr0 V) (Nat.le_refl _) h
/-- what of a series a match looks at -/
def seen (d : List UInt8) (m : ByteArray) (L : List Tg.Lab) : ByteArray := if d == [46] then m else (Y2.Tg.getV (B d) L).getD ⟨#[]⟩
theorem getE_any (o : Option ByteArray) : ∃ x, Y2.getE o = .returned (.tuple #[.string (o.getD ⟨#[]⟩), x]) := by
  cases o with
  | none => exact ⟨_, rfl⟩
  | some v => exact ⟨_, rfl⟩
set_option maxRecDepth 100000 in
set_option maxHeartbeats 4000000 in
theorem holds_any (d : List UInt8) (nt : Bool) (p : List UInt8) (m : ByteArray) (a : Option Addr) (len cap : Nat) (f : Nat → Y2.Tg.LabM) (hlm : len ≤ maxLen) (w : World) (hE : EnvC w) (hg : goodP p = true) (hI : Y2.LabsAt (·.1) w.heap.size w a len f)
    (v : List UInt8) (hv : seen d m (Y2.Tg.labs (Y2.Tg.upto f len)) = B v) (hvl : v.length ≤ 1000) :
    Calls Tryz.prog 20 #[.agg #[.string (B d), .bool nt, .string (B p)], .agg #[.string m, .slice a len cap]] w fun e w' => e = .returned (.bool (MM (pcs p) v != nt)) ∧ Below w.heap.size w w' := by
  have HM := fun W hE => Lib.hid (match_any p v W hE hg hvl)
  have HG := fun W hI => Lib.hid (Y2.get_any m (B d) a len cap f hlm W hI)
  obtain ⟨xg, hxg⟩ := getE_any (Y2.Tg.getV (B d) (Y2.Tg.labs (Y2.Tg.upto f len)))
  rw [hxg] at HG
  have HE := Lib.hid hE
  have HI := Lib.hid hI
  have hdot := eq_lit d [46]
  unfold seen at hv
  obtain ⟨g0, hg0⟩ : ∃ g, (Y2.Tg.getV (B d) (Y2.Tg.labs (Y2.Tg.upto f len))).getD ⟨#[]⟩ = g := ⟨_, rfl⟩
  rw [hg0] at hv HG
  generalize (d == [46]) = e0 at hv hdot
  obtain ⟨ds, hds⟩ : ∃ ds, B d = ds := ⟨_, rfl⟩
  obtain ⟨ps, hps⟩ : ∃ ps, B p = ps := ⟨_, rfl⟩
  obtain ⟨vs, hvs⟩ : ∃ vs, B v = vs := ⟨_, rfl⟩
  obtain ⟨r, hr⟩ : ∃ r, MM (pcs p) v = r := ⟨_, rfl⟩
  rw [hvs] at hv
  simp only [hds, hps, hvs, hr] at HM HG hdot ⊢
  clear hE hg hI hvl hxg hg0 hds hps hvs hr
  cases e0 with
  | true =>
    have hv' : m = vs := hv
    subst hv'
    clear HG HI
    go_enter Tryz.func20, Tryz.ntmps20
    go_wp2
    obtain ⟨X, hX⟩ : ∃ X, (w.alloc (.cells #[.string ds, .bool nt, .string ps] 49)).alloc (.cells #[.string m, .slice a len cap] 52) = X := ⟨_, rfl⟩
    have HX : Hid (w.heap.size < X.heap.size ∧ Below w.heap.size w X ∧ EnvC X ∧ X.cell? ⟨w.heap.size, 1, none⟩ = some (.bool nt) ∧ X.cell? ⟨w.heap.size, 2, none⟩ = some (.string ps)) := by
      have hb : Below w.heap.size w X := by rw [← hX]; exact ((Below.refl _ w).alloc (Nat.le_refl _) _).alloc (by simp) _
      have h0 : Blk X w.heap.size 49 #[.string ds, .bool nt, .string ps] := by rw [← hX]; exact (Blk.new w _ _).alloc _
      exact ⟨h0.lt, hb, HE.out.below hb, (h0.cl 1 _ rfl).1, (h0.cl 2 _ rfl).1⟩
    clear HE
    have HMX := HM X.drew (HX.out.2.2.1.below (below_dr0 X))
    clear HM
    rw [hX]
    clear hX
    refine wp_region_held_drew (S := (fun w' => w'.cell? ⟨w.heap.size, 1, none⟩ = some (.bool nt) ∧ w'.cell? ⟨w.heap.size, 2, none⟩ = some (.string ps))) (by kernel_rfl) (⟨HX.out.2.2.2.1, HX.out.2.2.2.2⟩) (fun hHeld => ?_)
    refine take_d (i := 0) (d := 18) (v := .pointer (some ⟨w.heap.size, 2, none⟩)) rfl rfl (by kernel_rfl) (by kernel_rfl) (by kernel_rfl) (fun _ _ _ h => h) (Or.inl ⟨by kernel_rfl, ?_⟩) (by assumption) ?_
    · intro wS hSw
      obtain ⟨hS0, hS1⟩ := hSw
      go_simp
    simp only [Act.put, List.setIfInBounds_toArray, List.set_cons_zero, List.set_cons_succ]
    refine take_d (i := 1) (d := 19) (v := .string ps) rfl rfl (by kernel_rfl) (by kernel_rfl) (by kernel_rfl) (fun _ _ _ h => h) (Or.inl ⟨by kernel_rfl, ?_⟩) (by assumption) ?_
    · intro wS hSw
      obtain ⟨hS0, hS1⟩ := hSw
      go_simp
    simp only [Act.put, List.setIfInBounds_toArray, List.set_cons_zero, List.set_cons_succ]
    refine take_d (i := 2) (d := 20) (v := .string m) rfl rfl (by kernel_rfl) (by kernel_rfl) (by kernel_rfl) (fun _ _ _ h => h) (Or.inl ⟨by kernel_rfl, ?_⟩) (by assumption) ?_
    · intro wS hSw
      obtain ⟨hS0, hS1⟩ := hSw
      go_simp
    simp only [Act.put, List.setIfInBounds_toArray, List.set_cons_zero, List.set_cons_succ]
    refine take_d (i := 4) (d := 22) (v := .pointer (some ⟨w.heap.size, 1, none⟩)) rfl rfl (by kernel_rfl) (by kernel_rfl) (by kernel_rfl) (fun _ _ _ h => h) (Or.inl ⟨by kernel_rfl, ?_⟩) (by assumption) ?_
    · intro wS hSw
      obtain ⟨hS0, hS1⟩ := hSw
      go_simp
    simp only [Act.put, List.setIfInBounds_toArray, List.set_cons_zero, List.set_cons_succ]
    refine take_d (i := 5) (d := 23) (v := .bool nt) rfl rfl (by kernel_rfl) (by kernel_rfl) (by kernel_rfl) (fun _ _ _ h => h) (Or.inl ⟨by kernel_rfl, ?_⟩) (by assumption) ?_
    · intro wS hSw
      obtain ⟨hS0, hS1⟩ := hSw
      go_simp
    simp only [Act.put, List.setIfInBounds_toArray, List.set_cons_zero, List.set_cons_succ]
    refine wpAnyH_ready (rs := [3]) (by kernel_rfl) (by simp) ?_
    refine AllReadyH.cons rfl (fun K hK => ?_) ?_
    · go_simp
      go_wp2_with (go_at_call 47; refine HMX.out.mono ?_; rintro e w4 ⟨rfl, hb4⟩)
      have HB4 : Hid (Below X.heap.size X w4) := below_undrH hb4
      clear hb4
      refine hK.out _ _ ?_ (fun hHeld => ?_)
      · exact ⟨(HB4.out.cell (p := ⟨w.heap.size, 1, none⟩) HX.out.1).trans HX.out.2.2.2.1, (HB4.out.cell (p := ⟨w.heap.size, 2, none⟩) HX.out.1).trans HX.out.2.2.2.2⟩
      clear hK K
      refine take_d (i := 6) (d := 24) (v := .bool (!(r == nt))) rfl rfl (by kernel_rfl) (by kernel_rfl) (by kernel_rfl) (fun _ _ _ h => h) (Or.inl ⟨by kernel_rfl, ?_⟩) (by assumption) ?_
      · intro wS hSw
        obtain ⟨hS0, hS1⟩ := hSw
        go_simp
      simp only [Act.put, List.setIfInBounds_toArray, List.set_cons_zero, List.set_cons_succ]
      refine take_d (i := 7) (d := 4) (v := .bool (!(r == nt))) rfl rfl (by kernel_rfl) (by kernel_rfl) (by kernel_rfl) (fun _ _ _ h => h) (Or.inl ⟨by kernel_rfl, ?_⟩) (by assumption) ?_
      · intro wS hSw
        obtain ⟨hS0, hS1⟩ := hSw
        go_simp
      simp only [Act.put, List.setIfInBounds_toArray, List.set_cons_zero, List.set_cons_succ]
      refine wpAnyH_done (by kernel_rfl) ?_ _
      go_wp2
      go_ret
      exact ⟨by cases r <;> cases nt <;> rfl, below_step HX.out.2.1 (Nat.le_refl _) HB4.out⟩
    exact AllReadyH.nil
  | false =>
    have hv' : g0 = vs := hv
    subst hv'
    go_enter Tryz.func20, Tryz.ntmps20
    have hb0 : Below w.heap.size w ((w.alloc (.cells #[.string ds, .bool nt, .string ps] 49)).alloc (.cells #[.string m, .slice a len cap] 52)) := ((Below.refl _ w).alloc (Nat.le_refl _) _).alloc (by simp) _
    have HG1 := HG ((w.alloc (.cells #[.string ds, .bool nt, .string ps] 49)).alloc (.cells #[.string m, .slice a len cap] 52)) (by
      rcases HI.out.below hb0 with h | ⟨b, o, e, h1, h2⟩
      · exact .inl h
      · exact .inr ⟨b, o, e, Nat.lt_of_lt_of_le h1 hb0.size, h2⟩)
    have HB0 := Lib.hid hb0
    have H00 : Hid (Blk ((w.alloc (.cells #[.string ds, .bool nt, .string ps] 49)).alloc (.cells #[.string m, .slice a len cap] 52)) w.heap.size 49 #[.string ds, .bool nt, .string ps]) := (Blk.new w _ _).alloc _
    clear hb0 HG
    go_wp2_with fail
    refine HG1.out.mono ?_
    rintro e X ⟨rfl, hb⟩
    have HX : Hid (w.heap.size < X.heap.size ∧ Below w.heap.size w X ∧ EnvC X ∧ X.cell? ⟨w.heap.size, 1, none⟩ = some (.bool nt) ∧ X.cell? ⟨w.heap.size, 2, none⟩ = some (.string ps)) := by
      have hbx := below_step HB0.out (Nat.le_refl _) hb
      have h0 := H00.out.below hb H00.out.lt
      exact ⟨h0.lt, hbx, HE.out.below hbx, (h0.cl 1 _ rfl).1, (h0.cl 2 _ rfl).1⟩
    have HMX := HM X.drew (HX.out.2.2.1.below (below_dr0 X))
    clear HM HE HI HB0 H00 HG1 hb
    go_wp2
    refine wp_region_held_drew (S := (fun w' => w'.cell? ⟨w.heap.size, 1, none⟩ = some (.bool nt) ∧ w'.cell? ⟨w.heap.size, 2, none⟩ = some (.string ps))) (by kernel_rfl) (⟨HX.out.2.2.2.1, HX.out.2.2.2.2⟩) (fun hHeld => ?_)
    refine take_d (i := 0) (d := 18) (v := .pointer (some ⟨w.heap.size, 2, none⟩)) rfl rfl (by kernel_rfl) (by kernel_rfl) (by kernel_rfl) (fun _ _ _ h => h) (Or.inl ⟨by kernel_rfl, ?_⟩) (by assumption) ?_
    · intro wS hSw
      obtain ⟨hS0, hS1⟩ := hSw
      go_simp
    simp only [Act.put, List.setIfInBounds_toArray, List.set_cons_zero, List.set_cons_succ]
    refine take_d (i := 1) (d := 19) (v := .string ps) rfl rfl (by kernel_rfl) (by kernel_rfl) (by kernel_rfl) (fun _ _ _ h => h) (Or.inl ⟨by kernel_rfl, ?_⟩) (by assumption) ?_
    · intro wS hSw
      obtain ⟨hS0, hS1⟩ := hSw
      go_simp
    simp only [Act.put, List.setIfInBounds_toArray, List.set_cons_zero, List.set_cons_succ]
    refine take_d (i := 2) (d := 20) (v := .string g0) rfl rfl (by kernel_rfl) (by kernel_rfl) (by kernel_rfl) (fun _ _ _ h => h) (Or.inl ⟨by kernel_rfl, ?_⟩) (by assumption) ?_
    · intro wS hSw
      obtain ⟨hS0, hS1⟩ := hSw
      go_simp
    simp only [Act.put, List.setIfInBounds_toArray, List.set_cons_zero, List.set_cons_succ]
    refine take_d (i := 4) (d := 22) (v := .pointer (some ⟨w.heap.size, 1, none⟩)) rfl rfl (by kernel_rfl) (by kernel_rfl) (by kernel_rfl) (fun _ _ _ h => h) (Or.inl ⟨by kernel_rfl, ?_⟩) (by assumption) ?_
    · intro wS hSw
      obtain ⟨hS0, hS1⟩ := hSw
      go_simp
    simp only [Act.put, List.setIfInBounds_toArray, List.set_cons_zero, List.set_cons_succ]
    refine take_d (i := 5) (d := 23) (v := .bool nt) rfl rfl (by kernel_rfl) (by kernel_rfl) (by kernel_rfl) (fun _ _ _ h => h) (Or.inl ⟨by kernel_rfl, ?_⟩) (by assumption) ?_
    · intro wS hSw
      obtain ⟨hS0, hS1⟩ := hSw
      go_simp
    simp only [Act.put, List.setIfInBounds_toArray, List.set_cons_zero, List.set_cons_succ]
    refine wpAnyH_ready (rs := [3]) (by kernel_rfl) (by simp) ?_
    refine AllReadyH.cons rfl (fun K hK => ?_) ?_
    · go_simp
      go_wp2_with (go_at_call 47; refine HMX.out.mono ?_; rintro e w4 ⟨rfl, hb4⟩)
      have HB4 : Hid (Below X.heap.size X w4) := below_undrH hb4
      clear hb4
      refine hK.out _ _ ?_ (fun hHeld => ?_)
      · exact ⟨(HB4.out.cell (p := ⟨w.heap.size, 1, none⟩) HX.out.1).trans HX.out.2.2.2.1, (HB4.out.cell (p := ⟨w.heap.size, 2, none⟩) HX.out.1).trans HX.out.2.2.2.2⟩
      clear hK K
      refine take_d (i := 6) (d := 24) (v := .bool (!(r == nt))) rfl rfl (by kernel_rfl) (by kernel_rfl) (by kernel_rfl) (fun _ _ _ h => h) (Or.inl ⟨by kernel_rfl, ?_⟩) (by assumption) ?_
      · intro wS hSw
        obtain ⟨hS0, hS1⟩ := hSw
        go_simp
      simp only [Act.put, List.setIfInBounds_toArray, List.set_cons_zero, List.set_cons_succ]
      refine take_d (i := 7) (d := 4) (v := .bool (!(r == nt))) rfl rfl (by kernel_rfl) (by kernel_rfl) (by kernel_rfl) (fun _ _ _ h => h) (Or.inl ⟨by kernel_rfl, ?_⟩) (by assumption) ?_
      · intro wS hSw
        obtain ⟨hS0, hS1⟩ := hSw
        go_simp
      simp only [Act.put, List.setIfInBounds_toArray, List.set_cons_zero, List.set_cons_succ]
      refine wpAnyH_done (by kernel_rfl) ?_ _
      go_wp2
      go_ret
      exact ⟨by cases r <;> cases nt <;> rfl, below_step HX.out.2.1 (Nat.le_refl _) HB4.out⟩
    exact AllReadyH.nil
end Ru
end Go.Proofs.YtiahelekgjdjlaaGreatDoor
namespace Go.Proofs.YtiahelekgjdjlaaGreatDoor
open Go.RowKit Go.Shelf
open Dp Gb
attribute [local go_sem] Oper.semAt_some
namespace Ru
/-- the value of the last label of a name -/
def lastV (s d : ByteArray) (L : List Tg.Lab) : ByteArray := L.foldl (fun acc x => if x.1.toList == d.toList then x.2 else acc) s
theorem lastV_snoc (s d : ByteArray) (L : List Tg.Lab) (x : Tg.Lab) : lastV s d (L ++ [x]) = if x.1.toList == d.toList then x.2 else lastV s d L := by
  simp [lastV, List.foldl_append]
def refSeen (d : List UInt8) (m : ByteArray) (L : List Tg.Lab) : ByteArray := lastV (if d == [46] then m else ⟨#[]⟩) (B d) L
set_option maxRecDepth 100000 in
set_option maxHeartbeats 4000000 in
theorem refHolds_any (d : List UInt8) (nt : Bool) (p : List UInt8) (m : ByteArray) (a : Option Addr) (len cap : Nat) (f : Nat → Y2.Tg.LabM) (hlm : len ≤ maxLen) (w : World) (hp : p.length ≤ 100) (hI : Y2.LabsAt (·.1) w.heap.size w a len f)
    (v : List UInt8) (hv : refSeen d m (Y2.Tg.labs (Y2.Tg.upto f len)) = B v) (hvl : v.length ≤ 1000) :
    Calls Tryz.prog 21 #[.agg #[.string (B d), .bool nt, .string (B p)], .agg #[.string m, .slice a len cap]] w fun e w' => e = .returned (.bool (MM (rtok p) v != nt)) ∧ Below w.heap.size w w' := by
  have HM := fun W => Lib.hid (refMatch_any p v W hp hvl)
  have HI := Lib.hid hI
  have hdot := eq_lit d [46]
  unfold refSeen at hv
  generalize (d == [46]) = e0 at hv hdot
  obtain ⟨ds, hds⟩ : ∃ ds, B d = ds := ⟨_, rfl⟩
  obtain ⟨ps, hps⟩ : ∃ ps, B p = ps := ⟨_, rfl⟩
  obtain ⟨vs, hvs⟩ : ∃ vs, B v = vs := ⟨_, rfl⟩
  obtain ⟨r, hr⟩ : ∃ r, MM (rtok p) v = r := ⟨_, rfl⟩
  rw [hvs] at hv
  simp only [hds, hps, hvs, hr] at HM hdot hv ⊢
  clear hp hI hvl hds hps hvs hr
  have hb0 : Below w.heap.size w ((w.alloc (.cells #[.string ds, .bool nt, .string ps] 56)).alloc (.cells #[.string m, .slice a len cap] 52)) := ((Below.refl _ w).alloc (Nat.le_refl _) _).alloc (by simp) _
  have HX0 : Hid (w.heap.size < ((w.alloc (.cells #[.string ds, .bool nt, .string ps] 56)).alloc (.cells #[.string m, .slice a len cap] 52)).heap.size ∧ Below w.heap.size w ((w.alloc (.cells #[.string ds, .bool nt, .string ps] 56)).alloc (.cells #[.string m, .slice a len cap] 52)) ∧ ((w.alloc (.cells #[.string ds, .bool nt, .string ps] 56)).alloc (.cells #[.string m, .slice a len cap] 52)).cell? ⟨w.heap.size, 1, none⟩ = some (.bool nt) ∧ ((w.alloc (.cells #[.string ds, .bool nt, .string ps] 56)).alloc (.cells #[.string m, .slice a len cap] 52)).cell? ⟨w.heap.size, 2, none⟩ = some (.string ps)) := by
    have h0 : Blk ((w.alloc (.cells #[.string ds, .bool nt, .string ps] 56)).alloc (.cells #[.string m, .slice a len cap] 52)) w.heap.size 56 #[.string ds, .bool nt, .string ps] := (Blk.new w _ _).alloc _
    exact ⟨h0.lt, hb0, (h0.cl 1 _ rfl).1, (h0.cl 2 _ rfl).1⟩
  have HI0 : Hid (Y2.LabsAt (·.1) w.heap.size ((w.alloc (.cells #[.string ds, .bool nt, .string ps] 56)).alloc (.cells #[.string m, .slice a len cap] 52)) a len f) := HI.out.below hb0
  clear hb0 HI
  cases e0 with
  | true =>
    have hv' : lastV m ds (Y2.Tg.labs (Y2.Tg.upto f len)) = vs := hv
    have HV := Lib.hid hv'
    unfold maxLen at hlm
    clear hv hv'
    go_enter Tryz.func21, Tryz.ntmps21
    go_wp2
    go_loopw [15, 5] (fun i x wr => ∃ k : Nat, k ≤ len ∧ i = .int .i64 (k : Int) ∧ x = .string (lastV m ds (Y2.Tg.labs (Y2.Tg.upto f k))) ∧ Hid (Dw ((w.alloc (.cells #[.string ds, .bool nt, .string ps] 56)).alloc (.cells #[.string m, .slice a len cap] 52)) wr)) (fun i _ _ => len - (intOf i).toNat)
    case atStart => exact ⟨0, Nat.zero_le _, rfl, rfl, Dw.refl _⟩
    case round =>
      obtain ⟨k, hk, rfl, rfl, HD⟩ := hrel
      by_cases hlt : k < len
      · obtain ⟨b, o, rfl, hbl, hc⟩ := HI0.out.resolve_left (by omega)
        have p1 : wr.cell? ⟨b, o + k * 2, none⟩ = some (.string (f k).1.1) := (HD.out.cell _).trans (hc k hlt).1
        have p2 : wr.cell? ⟨b, o + k * 2 + 1, none⟩ = some (.string (f k).1.2) := (HD.out.cell _).trans (hc k hlt).2
        have s1 : wr.cell? ⟨w.heap.size + 1, 1, none⟩ = some (.slice (some ⟨b, o, none⟩) len cap) := (HD.out.cell _).trans (by
          have h := Blk.new (w.alloc (.cells #[.string ds, .bool nt, .string ps] 56)) 52 #[.string m, .slice (some ⟨b, o, none⟩) len cap]
          rw [World.size_alloc] at h
          exact (h.cl 1 _ rfl).1)
        have s0 : wr.cell? ⟨w.heap.size, 0, none⟩ = some (.string ds) := (HD.out.cell _).trans (by
          have h0 : Blk ((w.alloc (.cells #[.string ds, .bool nt, .string ps] 56)).alloc (.cells #[.string m, .slice (some ⟨b, o, none⟩) len cap] 52)) w.heap.size 56 #[.string ds, .bool nt, .string ps] := (Blk.new w _ _).alloc _
          exact (h0.cl 0 _ rfl).1)
        have hkn : (k : Int) < (len : Int) := by omega
        have HN : Hid (lastV m ds (Y2.Tg.labs (Y2.Tg.upto f (k + 1))) = if (f k).1.1.toList == ds.toList then (f k).1.2 else lastV m ds (Y2.Tg.labs (Y2.Tg.upto f k))) := by
          show _ = _
          rw [Y2.Tg.upto_succ, Y2.Tg.labs_snoc, lastV_snoc]
        generalize (f k).1.1 = x1 at p1 HN
        generalize (f k).1.2 = x2 at p2 HN
        obtain ⟨lv, hlv⟩ : ∃ lv, lastV m ds (Y2.Tg.labs (Y2.Tg.upto f k)) = lv := ⟨_, rfl⟩
        rw [hlv] at HN ⊢
        generalize he : (x1.toList == ds.toList) = e1 at HN
        clear HI0 hbl hc hlv HX0 HM HV
        cases e1 with
        | true =>
          have HN' := HN
          go_wp2
          go_quiet (fail)
          go_wp2
          go_roundw
          case rel => exact ⟨k + 1, hlt, by go_num, by rw [HN'.out]; rfl, HD.out.more _⟩
          case measure => simp [intOf]; omega
        | false =>
          have HN' := HN
          go_wp2
          go_quiet (fail)
          go_wp2
          go_roundw
          case rel => exact ⟨k + 1, hlt, by go_num, by rw [HN'.out]; rfl, HD.out.more _⟩
          case measure => simp [intOf]; omega
      · obtain rfl : k = len := by omega
        have hlv := HV.out
        rw [hlv]
        have HX : Hid (w.heap.size < wr.heap.size ∧ Below w.heap.size w wr ∧ wr.cell? ⟨w.heap.size, 1, none⟩ = some (.bool nt) ∧ wr.cell? ⟨w.heap.size, 2, none⟩ = some (.string ps)) := by
          have hbx := below_step HX0.out.2.1 (Nat.le_refl _) HD.out.below
          exact ⟨Nat.lt_of_lt_of_le HX0.out.1 HD.out.below.size, hbx, (HD.out.cell _).trans HX0.out.2.2.1, (HD.out.cell _).trans HX0.out.2.2.2⟩
        have HMX := HM wr.drew
        clear HM HX0 HI0 HD HV hlv
        go_wp2
        refine wp_region_held_drew (S := (fun w' => w'.cell? ⟨w.heap.size, 1, none⟩ = some (.bool nt) ∧ w'.cell? ⟨w.heap.size, 2, none⟩ = some (.string ps))) (by kernel_rfl) (⟨HX.out.2.2.1, HX.out.2.2.2⟩) (fun hHeld => ?_)
        refine take_d (i := 0) (d := 34) (v := .pointer (some ⟨w.heap.size, 2, none⟩)) rfl rfl (by kernel_rfl) (by kernel_rfl) (by kernel_rfl) (fun _ _ _ h => h) (Or.inl ⟨by kernel_rfl, ?_⟩) (by assumption) ?_
        · intro wS hSw
          obtain ⟨hS0, hS1⟩ := hSw
          go_simp
        simp only [Act.put, List.setIfInBounds_toArray, List.set_cons_zero, List.set_cons_succ]
        refine take_d (i := 1) (d := 35) (v := .string ps) rfl rfl (by kernel_rfl) (by kernel_rfl) (by kernel_rfl) (fun _ _ _ h => h) (Or.inl ⟨by kernel_rfl, ?_⟩) (by assumption) ?_
        · intro wS hSw
          obtain ⟨hS0, hS1⟩ := hSw
          go_simp
        simp only [Act.put, List.setIfInBounds_toArray, List.set_cons_zero, List.set_cons_succ]
        refine take_d (i := 2) (d := 36) (v := .string vs) rfl rfl (by kernel_rfl) (by kernel_rfl) (by kernel_rfl) (fun _ _ _ h => h) (Or.inl ⟨by kernel_rfl, ?_⟩) (by assumption) ?_
        · intro wS hSw
          obtain ⟨hS0, hS1⟩ := hSw
          go_simp
        simp only [Act.put, List.setIfInBounds_toArray, List.set_cons_zero, List.set_cons_succ]
        refine take_d (i := 4) (d := 38) (v := .pointer (some ⟨w.heap.size, 1, none⟩)) rfl rfl (by kernel_rfl) (by kernel_rfl) (by kernel_rfl) (fun _ _ _ h => h) (Or.inl ⟨by kernel_rfl, ?_⟩) (by assumption) ?_
        · intro wS hSw
          obtain ⟨hS0, hS1⟩ := hSw
          go_simp
        simp only [Act.put, List.setIfInBounds_toArray, List.set_cons_zero, List.set_cons_succ]
        refine take_d (i := 5) (d := 39) (v := .bool nt) rfl rfl (by kernel_rfl) (by kernel_rfl) (by kernel_rfl) (fun _ _ _ h => h) (Or.inl ⟨by kernel_rfl, ?_⟩) (by assumption) ?_
        · intro wS hSw
          obtain ⟨hS0, hS1⟩ := hSw
          go_simp
        simp only [Act.put, List.setIfInBounds_toArray, List.set_cons_zero, List.set_cons_succ]
        refine wpAnyH_ready (rs := [3]) (by kernel_rfl) (by simp) ?_
        refine AllReadyH.cons rfl (fun K hK => ?_) ?_
        · go_simp
          go_wp2_with (go_at_call 48; refine HMX.out.mono ?_; rintro e w4 ⟨rfl, hb4⟩)
          have HB4 : Hid (Below wr.heap.size wr w4) := below_undrH hb4
          clear hb4
          refine hK.out _ _ ?_ (fun hHeld => ?_)
          · exact ⟨(HB4.out.cell (p := ⟨w.heap.size, 1, none⟩) HX.out.1).trans HX.out.2.2.1, (HB4.out.cell (p := ⟨w.heap.size, 2, none⟩) HX.out.1).trans HX.out.2.2.2⟩
          clear hK K
          refine take_d (i := 6) (d := 40) (v := .bool (!(r == nt))) rfl rfl (by kernel_rfl) (by kernel_rfl) (by kernel_rfl) (fun _ _ _ h => h) (Or.inl ⟨by kernel_rfl, ?_⟩) (by assumption) ?_
          · intro wS hSw
            obtain ⟨hS0, hS1⟩ := hSw
            go_simp
          simp only [Act.put, List.setIfInBounds_toArray, List.set_cons_zero, List.set_cons_succ]
          refine take_d (i := 7) (d := 4) (v := .bool (!(r == nt))) rfl rfl (by kernel_rfl) (by kernel_rfl) (by kernel_rfl) (fun _ _ _ h => h) (Or.inl ⟨by kernel_rfl, ?_⟩) (by assumption) ?_
          · intro wS hSw
            obtain ⟨hS0, hS1⟩ := hSw
            go_simp
          simp only [Act.put, List.setIfInBounds_toArray, List.set_cons_zero, List.set_cons_succ]
          refine wpAnyH_done (by kernel_rfl) ?_ _
          go_wp2
          go_ret
          exact ⟨by cases r <;> cases nt <;> rfl, below_step HX.out.2.1 (Nat.le_refl _) HB4.out⟩
        exact AllReadyH.nil
  | false =>
    have hv' : lastV ⟨#[]⟩ ds (Y2.Tg.labs (Y2.Tg.upto f len)) = vs := hv
    have HV := Lib.hid hv'
    unfold maxLen at hlm
    clear hv hv'
    go_enter Tryz.func21, Tryz.ntmps21
    go_wp2
    go_loopw [15, 5] (fun i x wr => ∃ k : Nat, k ≤ len ∧ i = .int .i64 (k : Int) ∧ x = .string (lastV ⟨#[]⟩ ds (Y2.Tg.labs (Y2.Tg.upto f k))) ∧ Hid (Dw ((w.alloc (.cells #[.string ds, .bool nt, .string ps] 56)).alloc (.cells #[.string m, .slice a len cap] 52)) wr)) (fun i _ _ => len - (intOf i).toNat)
    case atStart => exact ⟨0, Nat.zero_le _, rfl, rfl, Dw.refl _⟩
    case round =>
      obtain ⟨k, hk, rfl, rfl, HD⟩ := hrel
      by_cases hlt : k < len
      · obtain ⟨b, o, rfl, hbl, hc⟩ := HI0.out.resolve_left (by omega)
        have p1 : wr.cell? ⟨b, o + k * 2, none⟩ = some (.string (f k).1.1) := (HD.out.cell _).trans (hc k hlt).1
        have p2 : wr.cell? ⟨b, o + k * 2 + 1, none⟩ = some (.string (f k).1.2) := (HD.out.cell _).trans (hc k hlt).2
        have s1 : wr.cell? ⟨w.heap.size + 1, 1, none⟩ = some (.slice (some ⟨b, o, none⟩) len cap) := (HD.out.cell _).trans (by
          have h := Blk.new (w.alloc (.cells #[.string ds, .bool nt, .string ps] 56)) 52 #[.string m, .slice (some ⟨b, o, none⟩) len cap]
          rw [World.size_alloc] at h
          exact (h.cl 1 _ rfl).1)
        have s0 : wr.cell? ⟨w.heap.size, 0, none⟩ = some (.string ds) := (HD.out.cell _).trans (by
          have h0 : Blk ((w.alloc (.cells #[.string ds, .bool nt, .string ps] 56)).alloc (.cells #[.string m, .slice (some ⟨b, o, none⟩) len cap] 52)) w.heap.size 56 #[.string ds, .bool nt, .string ps] := (Blk.new w _ _).alloc _
          exact (h0.cl 0 _ rfl).1)
        have hkn : (k : Int) < (len : Int) := by omega
        have HN : Hid (lastV ⟨#[]⟩ ds (Y2.Tg.labs (Y2.Tg.upto f (k + 1))) = if (f k).1.1.toList == ds.toList then (f k).1.2 else lastV ⟨#[]⟩ ds (Y2.Tg.labs (Y2.Tg.upto f k))) := by
          show _ = _
          rw [Y2.Tg.upto_succ, Y2.Tg.labs_snoc, lastV_snoc]
        generalize (f k).1.1 = x1 at p1 HN
        generalize (f k).1.2 = x2 at p2 HN
        obtain ⟨lv, hlv⟩ : ∃ lv, lastV ⟨#[]⟩ ds (Y2.Tg.labs (Y2.Tg.upto f k)) = lv := ⟨_, rfl⟩
        rw [hlv] at HN ⊢
        generalize he : (x1.toList == ds.toList) = e1 at HN
        clear HI0 hbl hc hlv HX0 HM HV
        cases e1 with
        | true =>
          have HN' := HN
          go_wp2
          go_quiet (fail)
          go_wp2
          go_roundw
          case rel => exact ⟨k + 1, hlt, by go_num, by rw [HN'.out]; rfl, HD.out.more _⟩
          case measure => simp [intOf]; omega
        | false =>
          have HN' := HN
          go_wp2
          go_quiet (fail)
          go_wp2
          go_roundw
          case rel => exact ⟨k + 1, hlt, by go_num, by rw [HN'.out]; rfl, HD.out.more _⟩
          case measure => simp [intOf]; omega
      · obtain rfl : k = len := by omega
        have hlv := HV.out
        rw [hlv]
        have HX : Hid (w.heap.size < wr.heap.size ∧ Below w.heap.size w wr ∧ wr.cell? ⟨w.heap.size, 1, none⟩ = some (.bool nt) ∧ wr.cell? ⟨w.heap.size, 2, none⟩ = some (.string ps)) := by
          have hbx := below_step HX0.out.2.1 (Nat.le_refl _) HD.out.below
          exact ⟨Nat.lt_of_lt_of_le HX0.out.1 HD.out.below.size, hbx, (HD.out.cell _).trans HX0.out.2.2.1, (HD.out.cell _).trans HX0.out.2.2.2⟩
        have HMX := HM wr.drew
        clear HM HX0 HI0 HD HV hlv
        go_wp2
        refine wp_region_held_drew (S := (fun w' => w'.cell? ⟨w.heap.size, 1, none⟩ = some (.bool nt) ∧ w'.cell? ⟨w.heap.size, 2, none⟩ = some (.string ps))) (by kernel_rfl) (⟨HX.out.2.2.1, HX.out.2.2.2⟩) (fun hHeld => ?_)
        refine take_d (i := 0) (d := 34) (v := .pointer (some ⟨w.heap.size, 2, none⟩)) rfl rfl (by kernel_rfl) (by kernel_rfl) (by kernel_rfl) (fun _ _ _ h => h) (Or.inl ⟨by kernel_rfl, ?_⟩) (by assumption) ?_
        · intro wS hSw
          obtain ⟨hS0, hS1⟩ := hSw
          go_simp
        simp only [Act.put, List.setIfInBounds_toArray, List.set_cons_zero, List.set_cons_succ]
        refine take_d (i := 1) (d := 35) (v := .string ps) rfl rfl (by kernel_rfl) (by kernel_rfl) (by kernel_rfl) (fun _ _ _ h => h) (Or.inl ⟨by kernel_rfl, ?_⟩) (by assumption) ?_
        · intro wS hSw
          obtain ⟨hS0, hS1⟩ := hSw
          go_simp
        simp only [Act.put, List.setIfInBounds_toArray, List.set_cons_zero, List.set_cons_succ]
        refine take_d (i := 2) (d := 36) (v := .string vs) rfl rfl (by kernel_rfl) (by kernel_rfl) (by kernel_rfl) (fun _ _ _ h => h) (Or.inl ⟨by kernel_rfl, ?_⟩) (by assumption) ?_
        · intro wS hSw
          obtain ⟨hS0, hS1⟩ := hSw
          go_simp
        simp only [Act.put, List.setIfInBounds_toArray, List.set_cons_zero, List.set_cons_succ]
        refine take_d (i := 4) (d := 38) (v := .pointer (some ⟨w.heap.size, 1, none⟩)) rfl rfl (by kernel_rfl) (by kernel_rfl) (by kernel_rfl) (fun _ _ _ h => h) (Or.inl ⟨by kernel_rfl, ?_⟩) (by assumption) ?_
        · intro wS hSw
          obtain ⟨hS0, hS1⟩ := hSw
          go_simp
        simp only [Act.put, List.setIfInBounds_toArray, List.set_cons_zero, List.set_cons_succ]
        refine take_d (i := 5) (d := 39) (v := .bool nt) rfl rfl (by kernel_rfl) (by kernel_rfl) (by kernel_rfl) (fun _ _ _ h => h) (Or.inl ⟨by kernel_rfl, ?_⟩) (by assumption) ?_
        · intro wS hSw
          obtain ⟨hS0, hS1⟩ := hSw
          go_simp
        simp only [Act.put, List.setIfInBounds_toArray, List.set_cons_zero, List.set_cons_succ]
        refine wpAnyH_ready (rs := [3]) (by kernel_rfl) (by simp) ?_
        refine AllReadyH.cons rfl (fun K hK => ?_) ?_
        · go_simp
          go_wp2_with (go_at_call 48; refine HMX.out.mono ?_; rintro e w4 ⟨rfl, hb4⟩)
          have HB4 : Hid (Below wr.heap.size wr w4) := below_undrH hb4
          clear hb4
          refine hK.out _ _ ?_ (fun hHeld => ?_)
          · exact ⟨(HB4.out.cell (p := ⟨w.heap.size, 1, none⟩) HX.out.1).trans HX.out.2.2.1, (HB4.out.cell (p := ⟨w.heap.size, 2, none⟩) HX.out.1).trans HX.out.2.2.2⟩
          clear hK K
          refine take_d (i := 6) (d := 40) (v := .bool (!(r == nt))) rfl rfl (by kernel_rfl) (by kernel_rfl) (by kernel_rfl) (fun _ _ _ h => h) (Or.inl ⟨by kernel_rfl, ?_⟩) (by assumption) ?_
          · intro wS hSw
            obtain ⟨hS0, hS1⟩ := hSw
            go_simp
          simp only [Act.put, List.setIfInBounds_toArray, List.set_cons_zero, List.set_cons_succ]
          refine take_d (i := 7) (d := 4) (v := .bool (!(r == nt))) rfl rfl (by kernel_rfl) (by kernel_rfl) (by kernel_rfl) (fun _ _ _ h => h) (Or.inl ⟨by kernel_rfl, ?_⟩) (by assumption) ?_
          · intro wS hSw
            obtain ⟨hS0, hS1⟩ := hSw
            go_simp
          simp only [Act.put, List.setIfInBounds_toArray, List.set_cons_zero, List.set_cons_succ]
          refine wpAnyH_done (by kernel_rfl) ?_ _
          go_wp2
          go_ret
          exact ⟨by cases r <;> cases nt <;> rfl, below_step HX.out.2.1 (Nat.le_refl _) HB4.out⟩
        exact AllReadyH.nil

end Ru
end Go.Proofs.YtiahelekgjdjlaaGreatDoor
