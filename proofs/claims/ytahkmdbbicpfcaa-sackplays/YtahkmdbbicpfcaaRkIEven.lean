
/- Trees of int,int: even. -/
import Derived.Test.YtahkmdbbicpfcaaRkIOver
namespace Go.Proofs.Ytahkmdbbicpfcaa
open Go.RowKit
namespace Rk
/-- over, in whatever world that only grew -/
theorem over_I' {w : World} (b : Nat) (k : Int) (v : Int) (l r : Tr Int Int) (pl pr : Option Addr) (hc : l.cnt + r.cnt ≤ 1000000) (hkv : KvI w b k v) (w' : World) (hb : Below w.heap.size w w') (hl : InI w' l pl) (hr : InI w' r pr) :
    Calls Try.prog 51 #[.pointer (some ⟨b, 0, none⟩), .pointer pl, .pointer pr] w' (TreeI (.node k v l r) w') := over_I b k v l r pl pr hc w' (hkv.below hb) hl hr
set_option maxRecDepth 100000 in
set_option maxHeartbeats 4000000 in
theorem evL1_I (b bh : Nat) (k hk : Int) (v hv : Int) (a m r : Tr Int Int) (pa pm pr : Option Addr) (hc : a.cnt + m.cnt + r.cnt ≤ 100000) (w : World) (hkv : KvI w b k v) (hb : Blk w bh 76 #[.int .i64 hk, .int .i64 hv, .pointer pa, .pointer pm, .int .i64 ((a.cnt + 1 + m.cnt : Nat) : Int), .int .i64 ((1 + max a.ht m.ht : Nat) : Int)]) (ha : InI w a pa) (hm : InI w m pm) (ho : InI w r pr) (hh : 1 + max a.ht m.ht = r.ht + 2) (hs : ¬ a.ht < m.ht) :
    Calls Try.prog 46 #[.pointer (some ⟨b, 0, none⟩), .pointer (some ⟨bh, 0, none⟩), .pointer pr] w (TreeI (Tr.evL k v r (.node hk hv a m)) w) := by
  have he : Tr.evL k v r (.node hk hv a m) = .node hk hv a (.node k v m r) := by unfold Tr.evL; dsimp only; rw [if_neg hs]
  rw [he]
  have hin : InI w (.node hk hv a m) (some ⟨bh, 0, none⟩) := ⟨bh, pa, pm, rfl, hb, ha, hm⟩
  have HHI := Lib.hid (levels_I (.node hk hv a m) (some ⟨bh, 0, none⟩) w hin)
  have HLO := Lib.hid (levels_I r pr w ho)
  have HLA := Lib.hid (levels_I a pa w.drew (ha.below (below_dr0 w)))
  have HLM := Lib.hid (levels_I m pm w.drew (hm.below (below_dr0 w)))
  have hta := a.ht_cnt
  have htm := m.ht_cnt
  have hto := r.ht_cnt
  have hcA : w.cell? ⟨bh, 2, none⟩ = some (.pointer pa) := (hb.cl 2 _ rfl).1
  have hcM : w.cell? ⟨bh, 3, none⟩ = some (.pointer pm) := (hb.cl 3 _ rfl).1
  have hkh := InI.kv hb
  have hlt := hb.lt
  have HN1 : Hid (∀ w', Below w.heap.size w w' → Calls Try.prog 51 #[.pointer (some ⟨b, 0, none⟩), .pointer pm, .pointer pr] w' (TreeI (.node k v m r) w')) := fun w' hb' => over_I' b k v m r pm pr (by omega) hkv w' hb' (hm.below hb') (ho.below hb')
  have HN2 : Hid (∀ w' p1, Below w.heap.size w w' → InI w' (.node k v m r) p1 → Calls Try.prog 51 #[.pointer (some ⟨bh, 0, none⟩), .pointer pa, .pointer p1] w' (TreeI (.node hk hv a (.node k v m r)) w')) := fun w' p1 hb' h1 => over_I' bh hk hv a (.node k v m r) pa p1 (by simp only [Tr.cnt]; omega) hkh w' hb' (ha.below hb') h1
  have HC : Hid (∀ w', Below w.heap.size w w' → w'.cell? ⟨bh, 2, none⟩ = some (.pointer pa) ∧ w'.cell? ⟨bh, 3, none⟩ = some (.pointer pm)) := fun w' hb' => ⟨(hb'.cell hlt).trans hcA, (hb'.cell hlt).trans hcM⟩
  have HLT := Lib.hid hlt
  obtain ⟨th, hth⟩ : ∃ n, Tr.ht (.node hk hv a m) = n := ⟨_, rfl⟩
  obtain ⟨ta, hta'⟩ : ∃ n, a.ht = n := ⟨_, rfl⟩
  obtain ⟨tm, htm'⟩ : ∃ n, m.ht = n := ⟨_, rfl⟩
  obtain ⟨to, hto'⟩ : ∃ n, r.ht = n := ⟨_, rfl⟩
  rw [hth] at HHI
  rw [hto'] at HLO
  rw [hta'] at HLA
  rw [htm'] at HLM
  have hth2 : th = to + 2 := by simp only [Tr.ht] at hth hh; omega
  have hd : (th : Int) - (to : Int) = 2 := by omega
  have hbd : (th : Int) ≤ 1000000 ∧ (to : Int) ≤ 1000000 := by omega
  have hdd : ¬ (ta : Int) < tm := by omega
  clear hin hb ha hm ho hc hh hth hta' htm' hto' hs he hta htm hto hth2 hkh hlt hkv
  go_enter Try.func46, Try.ntmps46
  go_wp2_with fail
  refine HHI.out.mono ?_
  rintro e w1 ⟨rfl, rfl⟩
  go_wp2_with fail
  refine HLO.out.mono ?_
  rintro e w1 ⟨rfl, rfl⟩
  go_wp2_with fail
  go_region_held3 (fun w' => w'.cell? ⟨bh, 2, none⟩ = some (.pointer pa) ∧ w'.cell? ⟨bh, 3, none⟩ = some (.pointer pm)) (first | go_keep)
    (first
      | (go_at_call_of 50 (Value.pointer pa); refine HLA.out.mono ?_; rintro e wE ⟨rfl, rfl⟩)
      | (go_at_call_of 50 (Value.pointer pm); refine HLM.out.mono ?_; rintro e wE ⟨rfl, rfl⟩))
  go_wp2_with fail
  go_region_held3 (fun w' => w'.cell? ⟨bh, 2, none⟩ = some (.pointer pa) ∧ w'.cell? ⟨bh, 3, none⟩ = some (.pointer pm)) (first | go_keep | exact HC.out _ B1 | exact HC.out _ B2)
    (first
      | (go_at_call 51; refine (HN2.out _ p1 B1 I1).mono ?_; rintro e wB ⟨p2, rfl, I2, B2'⟩; have B2 := below_step B1 (Nat.le_refl _) B2')
      | (go_at_call 51; refine (HN1.out _ (below_dr (below_dr0 _))).mono ?_; rintro e wA ⟨p1, rfl, I1, B1'⟩; have B1 := below_step (below_dr (below_dr0 _)) (Nat.le_refl _) B1'))
  go_wp2
  go_ret
  exact ⟨p2, rfl, I2, B2⟩
set_option maxRecDepth 100000 in
set_option maxHeartbeats 4000000 in
theorem evL2_I (b bh bi : Nat) (k hk ik : Int) (v hv iv : Int) (a il ir r : Tr Int Int) (pa pil pir pr : Option Addr) (hc : a.cnt + (Tr.node ik iv il ir).cnt + r.cnt ≤ 100000) (w : World) (hkv : KvI w b k v) (hb : Blk w bh 76 #[.int .i64 hk, .int .i64 hv, .pointer pa, .pointer (some ⟨bi, 0, none⟩), .int .i64 ((a.cnt + 1 + (Tr.node ik iv il ir).cnt : Nat) : Int), .int .i64 ((1 + max a.ht (Tr.node ik iv il ir).ht : Nat) : Int)]) (ha : InI w a pa) (hbi : Blk w bi 76 #[.int .i64 ik, .int .i64 iv, .pointer pil, .pointer pir, .int .i64 ((il.cnt + 1 + ir.cnt : Nat) : Int), .int .i64 ((1 + max il.ht ir.ht : Nat) : Int)]) (hil : InI w il pil) (hir : InI w ir pir) (ho : InI w r pr) (hh : 1 + max a.ht (Tr.node ik iv il ir).ht = r.ht + 2) (hs : a.ht < (Tr.node ik iv il ir).ht) :
    Calls Try.prog 46 #[.pointer (some ⟨b, 0, none⟩), .pointer (some ⟨bh, 0, none⟩), .pointer pr] w (TreeI (Tr.evL k v r (.node hk hv a (.node ik iv il ir))) w) := by
  have he : Tr.evL k v r (.node hk hv a (.node ik iv il ir)) = .node ik iv (.node hk hv a il) (.node k v ir r) := by unfold Tr.evL; dsimp only; rw [if_pos hs]
  rw [he]
  have hm : InI w (.node ik iv il ir) (some ⟨bi, 0, none⟩) := ⟨bi, pil, pir, rfl, hbi, hil, hir⟩
  have hki := InI.kv hbi
  have hlti := hbi.lt
  have hcL : w.cell? ⟨bi, 2, none⟩ = some (.pointer pil) := (hbi.cl 2 _ rfl).1
  have hcR : w.cell? ⟨bi, 3, none⟩ = some (.pointer pir) := (hbi.cl 3 _ rfl).1
  have hin : InI w (.node hk hv a (.node ik iv il ir)) (some ⟨bh, 0, none⟩) := ⟨bh, pa, (some ⟨bi, 0, none⟩), rfl, hb, ha, hm⟩
  have HHI := Lib.hid (levels_I (.node hk hv a (.node ik iv il ir)) (some ⟨bh, 0, none⟩) w hin)
  have HLO := Lib.hid (levels_I r pr w ho)
  have HLA := Lib.hid (levels_I a pa w.drew (ha.below (below_dr0 w)))
  have HLM := Lib.hid (levels_I (.node ik iv il ir) (some ⟨bi, 0, none⟩) w.drew (hm.below (below_dr0 w)))
  have hta := a.ht_cnt
  have htm := (Tr.node ik iv il ir).ht_cnt
  have hto := r.ht_cnt
  have hcA : w.cell? ⟨bh, 2, none⟩ = some (.pointer pa) := (hb.cl 2 _ rfl).1
  have hcM : w.cell? ⟨bh, 3, none⟩ = some (.pointer (some ⟨bi, 0, none⟩)) := (hb.cl 3 _ rfl).1
  have hkh := InI.kv hb
  have hlt := hb.lt
  have hcm : (Tr.node ik iv il ir).cnt = il.cnt + 1 + ir.cnt := rfl
  have HN1 : Hid (∀ w', Below w.heap.size w w' → Calls Try.prog 51 #[.pointer (some ⟨bh, 0, none⟩), .pointer pa, .pointer pil] w' (TreeI (.node hk hv a il) w')) := fun w' hb' => over_I' bh hk hv a il pa pil (by omega) hkh w' hb' (ha.below hb') (hil.below hb')
  have HN2 : Hid (∀ w', Below w.heap.size w w' → Calls Try.prog 51 #[.pointer (some ⟨b, 0, none⟩), .pointer pir, .pointer pr] w' (TreeI (.node k v ir r) w')) := fun w' hb' => over_I' b k v ir r pir pr (by omega) hkv w' hb' (hir.below hb') (ho.below hb')
  have HN3 : Hid (∀ w' p1 p2, Below w.heap.size w w' → InI w' (.node hk hv a il) p1 → InI w' (.node k v ir r) p2 → Calls Try.prog 51 #[.pointer (some ⟨bi, 0, none⟩), .pointer p1, .pointer p2] w' (TreeI (.node ik iv (.node hk hv a il) (.node k v ir r)) w')) := fun w' p1 p2 hb' h1 h2 => over_I' bi ik iv (.node hk hv a il) (.node k v ir r) p1 p2 (by simp only [Tr.cnt]; omega) hki w' hb' h1 h2
  have HC : Hid (∀ w', Below w.heap.size w w' → w'.cell? ⟨bh, 2, none⟩ = some (.pointer pa) ∧ w'.cell? ⟨bi, 2, none⟩ = some (.pointer pil) ∧ w'.cell? ⟨bi, 3, none⟩ = some (.pointer pir)) := fun w' hb' => ⟨(hb'.cell hlt).trans hcA, (hb'.cell hlti).trans hcL, (hb'.cell hlti).trans hcR⟩
  have HLT := Lib.hid hlt
  obtain ⟨th, hth⟩ : ∃ n, Tr.ht (.node hk hv a (.node ik iv il ir)) = n := ⟨_, rfl⟩
  obtain ⟨ta, hta'⟩ : ∃ n, a.ht = n := ⟨_, rfl⟩
  obtain ⟨tm, htm'⟩ : ∃ n, (Tr.node ik iv il ir).ht = n := ⟨_, rfl⟩
  obtain ⟨to, hto'⟩ : ∃ n, r.ht = n := ⟨_, rfl⟩
  rw [hth] at HHI
  rw [hto'] at HLO
  rw [hta'] at HLA
  rw [htm'] at HLM
  have hth2 : th = to + 2 := by simp only [Tr.ht] at hth hh; omega
  have hd : (th : Int) - (to : Int) = 2 := by omega
  have hbd : (th : Int) ≤ 1000000 ∧ (to : Int) ≤ 1000000 := by omega
  have hdd : (ta : Int) < tm := by omega
  clear hin hb ha hm ho hc hh hth hta' htm' hto' hs he hta htm hto hth2 hkh hlt hkv hbi hil hir hki hlti hcm
  go_enter Try.func46, Try.ntmps46
  go_wp2_with fail
  refine HHI.out.mono ?_
  rintro e w1 ⟨rfl, rfl⟩
  go_wp2_with fail
  refine HLO.out.mono ?_
  rintro e w1 ⟨rfl, rfl⟩
  go_wp2_with fail
  go_region_held3 (fun w' => w'.cell? ⟨bh, 2, none⟩ = some (.pointer pa) ∧ w'.cell? ⟨bh, 3, none⟩ = some (.pointer (some ⟨bi, 0, none⟩))) (first | go_keep)
    (first
      | (go_at_call_of 50 (Value.pointer pa); refine HLA.out.mono ?_; rintro e wE ⟨rfl, rfl⟩)
      | (go_at_call_of 50 (Value.pointer (some ⟨bi, 0, none⟩)); refine HLM.out.mono ?_; rintro e wE ⟨rfl, rfl⟩))
  go_wp2_with fail
  go_region_held3 (fun w' => w'.cell? ⟨bh, 2, none⟩ = some (.pointer pa) ∧ w'.cell? ⟨bi, 2, none⟩ = some (.pointer pil) ∧ w'.cell? ⟨bi, 3, none⟩ = some (.pointer pir)) (first | go_keep | exact HC.out _ B1 | exact HC.out _ B2 | exact HC.out _ B3)
    (first
      | (go_at_call 51; refine (HN3.out _ p1 p2 B2 (I1.below B2') I2).mono ?_; rintro e wC ⟨p3, rfl, I3, B3'⟩; have B3 := below_step B2 (Nat.le_refl _) B3')
      | (go_at_call 51; refine (HN2.out _ B1).mono ?_; rintro e wB ⟨p2, rfl, I2, B2'⟩; have B2 := below_step B1 (Nat.le_refl _) B2')
      | (go_at_call 51; refine (HN1.out _ (below_dr (below_dr0 _))).mono ?_; rintro e wA ⟨p1, rfl, I1, B1'⟩; have B1 := below_step (below_dr (below_dr0 _)) (Nat.le_refl _) B1'))
  all_goals
    go_wp2
    go_ret
    exact ⟨p3, rfl, I3, B3⟩
set_option maxRecDepth 100000 in
set_option maxHeartbeats 4000000 in
theorem evR1_I (b bh : Nat) (k hk : Int) (v hv : Int) (a m l : Tr Int Int) (pa pm pl : Option Addr) (hc : a.cnt + m.cnt + l.cnt ≤ 100000) (w : World) (hkv : KvI w b k v) (hb : Blk w bh 76 #[.int .i64 hk, .int .i64 hv, .pointer pm, .pointer pa, .int .i64 ((m.cnt + 1 + a.cnt : Nat) : Int), .int .i64 ((1 + max m.ht a.ht : Nat) : Int)]) (ha : InI w a pa) (hm : InI w m pm) (ho : InI w l pl) (hh : 1 + max a.ht m.ht = l.ht + 2) (hs : ¬ a.ht < m.ht) :
    Calls Try.prog 46 #[.pointer (some ⟨b, 0, none⟩), .pointer pl, .pointer (some ⟨bh, 0, none⟩)] w (TreeI (Tr.evR k v l (.node hk hv m a)) w) := by
  have he : Tr.evR k v l (.node hk hv m a) = .node hk hv (.node k v l m) a := by unfold Tr.evR; dsimp only; rw [if_neg hs]
  rw [he]
  have hin : InI w (.node hk hv m a) (some ⟨bh, 0, none⟩) := ⟨bh, pm, pa, rfl, hb, hm, ha⟩
  have HHI := Lib.hid (levels_I (.node hk hv m a) (some ⟨bh, 0, none⟩) w hin)
  have HLO := Lib.hid (levels_I l pl w ho)
  have HLA := Lib.hid (levels_I a pa w.drew (ha.below (below_dr0 w)))
  have HLM := Lib.hid (levels_I m pm w.drew (hm.below (below_dr0 w)))
  have hta := a.ht_cnt
  have htm := m.ht_cnt
  have hto := l.ht_cnt
  have hcA : w.cell? ⟨bh, 3, none⟩ = some (.pointer pa) := (hb.cl 3 _ rfl).1
  have hcM : w.cell? ⟨bh, 2, none⟩ = some (.pointer pm) := (hb.cl 2 _ rfl).1
  have hkh := InI.kv hb
  have hlt := hb.lt
  have HN1 : Hid (∀ w', Below w.heap.size w w' → Calls Try.prog 51 #[.pointer (some ⟨b, 0, none⟩), .pointer pl, .pointer pm] w' (TreeI (.node k v l m) w')) := fun w' hb' => over_I' b k v l m pl pm (by omega) hkv w' hb' (ho.below hb') (hm.below hb')
  have HN2 : Hid (∀ w' p1, Below w.heap.size w w' → InI w' (.node k v l m) p1 → Calls Try.prog 51 #[.pointer (some ⟨bh, 0, none⟩), .pointer p1, .pointer pa] w' (TreeI (.node hk hv (.node k v l m) a) w')) := fun w' p1 hb' h1 => over_I' bh hk hv (.node k v l m) a p1 pa (by simp only [Tr.cnt]; omega) hkh w' hb' h1 (ha.below hb')
  have HC : Hid (∀ w', Below w.heap.size w w' → w'.cell? ⟨bh, 3, none⟩ = some (.pointer pa) ∧ w'.cell? ⟨bh, 2, none⟩ = some (.pointer pm)) := fun w' hb' => ⟨(hb'.cell hlt).trans hcA, (hb'.cell hlt).trans hcM⟩
  have HLT := Lib.hid hlt
  obtain ⟨th, hth⟩ : ∃ n, Tr.ht (.node hk hv m a) = n := ⟨_, rfl⟩
  obtain ⟨ta, hta'⟩ : ∃ n, a.ht = n := ⟨_, rfl⟩
  obtain ⟨tm, htm'⟩ : ∃ n, m.ht = n := ⟨_, rfl⟩
  obtain ⟨to, hto'⟩ : ∃ n, l.ht = n := ⟨_, rfl⟩
  rw [hth] at HHI
  rw [hto'] at HLO
  rw [hta'] at HLA
  rw [htm'] at HLM
  have hth2 : th = to + 2 := by simp only [Tr.ht] at hth hh; omega
  have hd : (to : Int) - (th : Int) = -2 := by omega
  have hbd : (th : Int) ≤ 1000000 ∧ (to : Int) ≤ 1000000 := by omega
  have hdd : ¬ (ta : Int) < tm := by omega
  clear hin hb ha hm ho hc hh hth hta' htm' hto' hs he hta htm hto hth2 hkh hlt hkv
  go_enter Try.func46, Try.ntmps46
  go_wp2_with fail
  refine HLO.out.mono ?_
  rintro e w1 ⟨rfl, rfl⟩
  go_wp2_with fail
  refine HHI.out.mono ?_
  rintro e w1 ⟨rfl, rfl⟩
  go_wp2_with fail
  go_region_held3 (fun w' => w'.cell? ⟨bh, 3, none⟩ = some (.pointer pa) ∧ w'.cell? ⟨bh, 2, none⟩ = some (.pointer pm)) (first | go_keep)
    (first
      | (go_at_call_of 50 (Value.pointer pa); refine HLA.out.mono ?_; rintro e wE ⟨rfl, rfl⟩)
      | (go_at_call_of 50 (Value.pointer pm); refine HLM.out.mono ?_; rintro e wE ⟨rfl, rfl⟩))
  go_wp2_with fail
  go_region_held3 (fun w' => w'.cell? ⟨bh, 3, none⟩ = some (.pointer pa) ∧ w'.cell? ⟨bh, 2, none⟩ = some (.pointer pm)) (first | go_keep | exact HC.out _ B1 | exact HC.out _ B2)
    (first
      | (go_at_call 51; refine (HN2.out _ p1 B1 I1).mono ?_; rintro e wB ⟨p2, rfl, I2, B2'⟩; have B2 := below_step B1 (Nat.le_refl _) B2')
      | (go_at_call 51; refine (HN1.out _ (below_dr (below_dr0 _))).mono ?_; rintro e wA ⟨p1, rfl, I1, B1'⟩; have B1 := below_step (below_dr (below_dr0 _)) (Nat.le_refl _) B1'))
  go_wp2
  go_ret
  exact ⟨p2, rfl, I2, B2⟩
set_option maxRecDepth 100000 in
set_option maxHeartbeats 4000000 in
theorem evR2_I (b bh bi : Nat) (k hk ik : Int) (v hv iv : Int) (a il ir l : Tr Int Int) (pa pil pir pl : Option Addr) (hc : a.cnt + (Tr.node ik iv il ir).cnt + l.cnt ≤ 100000) (w : World) (hkv : KvI w b k v) (hb : Blk w bh 76 #[.int .i64 hk, .int .i64 hv, .pointer (some ⟨bi, 0, none⟩), .pointer pa, .int .i64 (((Tr.node ik iv il ir).cnt + 1 + a.cnt : Nat) : Int), .int .i64 ((1 + max (Tr.node ik iv il ir).ht a.ht : Nat) : Int)]) (ha : InI w a pa) (hbi : Blk w bi 76 #[.int .i64 ik, .int .i64 iv, .pointer pil, .pointer pir, .int .i64 ((il.cnt + 1 + ir.cnt : Nat) : Int), .int .i64 ((1 + max il.ht ir.ht : Nat) : Int)]) (hil : InI w il pil) (hir : InI w ir pir) (ho : InI w l pl) (hh : 1 + max a.ht (Tr.node ik iv il ir).ht = l.ht + 2) (hs : a.ht < (Tr.node ik iv il ir).ht) :
    Calls Try.prog 46 #[.pointer (some ⟨b, 0, none⟩), .pointer pl, .pointer (some ⟨bh, 0, none⟩)] w (TreeI (Tr.evR k v l (.node hk hv (.node ik iv il ir) a)) w) := by
  have he : Tr.evR k v l (.node hk hv (.node ik iv il ir) a) = .node ik iv (.node k v l il) (.node hk hv ir a) := by unfold Tr.evR; dsimp only; rw [if_pos hs]
  rw [he]
  have hm : InI w (.node ik iv il ir) (some ⟨bi, 0, none⟩) := ⟨bi, pil, pir, rfl, hbi, hil, hir⟩
  have hki := InI.kv hbi
  have hlti := hbi.lt
  have hcL : w.cell? ⟨bi, 2, none⟩ = some (.pointer pil) := (hbi.cl 2 _ rfl).1
  have hcR : w.cell? ⟨bi, 3, none⟩ = some (.pointer pir) := (hbi.cl 3 _ rfl).1
  have hin : InI w (.node hk hv (.node ik iv il ir) a) (some ⟨bh, 0, none⟩) := ⟨bh, (some ⟨bi, 0, none⟩), pa, rfl, hb, hm, ha⟩
  have HHI := Lib.hid (levels_I (.node hk hv (.node ik iv il ir) a) (some ⟨bh, 0, none⟩) w hin)
  have HLO := Lib.hid (levels_I l pl w ho)
  have HLA := Lib.hid (levels_I a pa w.drew (ha.below (below_dr0 w)))
  have HLM := Lib.hid (levels_I (.node ik iv il ir) (some ⟨bi, 0, none⟩) w.drew (hm.below (below_dr0 w)))
  have hta := a.ht_cnt
  have htm := (Tr.node ik iv il ir).ht_cnt
  have hto := l.ht_cnt
  have hcA : w.cell? ⟨bh, 3, none⟩ = some (.pointer pa) := (hb.cl 3 _ rfl).1
  have hcM : w.cell? ⟨bh, 2, none⟩ = some (.pointer (some ⟨bi, 0, none⟩)) := (hb.cl 2 _ rfl).1
  have hkh := InI.kv hb
  have hlt := hb.lt
  have hcm : (Tr.node ik iv il ir).cnt = il.cnt + 1 + ir.cnt := rfl
  have HN1 : Hid (∀ w', Below w.heap.size w w' → Calls Try.prog 51 #[.pointer (some ⟨b, 0, none⟩), .pointer pl, .pointer pil] w' (TreeI (.node k v l il) w')) := fun w' hb' => over_I' b k v l il pl pil (by omega) hkv w' hb' (ho.below hb') (hil.below hb')
  have HN2 : Hid (∀ w', Below w.heap.size w w' → Calls Try.prog 51 #[.pointer (some ⟨bh, 0, none⟩), .pointer pir, .pointer pa] w' (TreeI (.node hk hv ir a) w')) := fun w' hb' => over_I' bh hk hv ir a pir pa (by omega) hkh w' hb' (hir.below hb') (ha.below hb')
  have HN3 : Hid (∀ w' p1 p2, Below w.heap.size w w' → InI w' (.node k v l il) p1 → InI w' (.node hk hv ir a) p2 → Calls Try.prog 51 #[.pointer (some ⟨bi, 0, none⟩), .pointer p1, .pointer p2] w' (TreeI (.node ik iv (.node k v l il) (.node hk hv ir a)) w')) := fun w' p1 p2 hb' h1 h2 => over_I' bi ik iv (.node k v l il) (.node hk hv ir a) p1 p2 (by simp only [Tr.cnt]; omega) hki w' hb' h1 h2
  have HC : Hid (∀ w', Below w.heap.size w w' → w'.cell? ⟨bh, 3, none⟩ = some (.pointer pa) ∧ w'.cell? ⟨bi, 2, none⟩ = some (.pointer pil) ∧ w'.cell? ⟨bi, 3, none⟩ = some (.pointer pir)) := fun w' hb' => ⟨(hb'.cell hlt).trans hcA, (hb'.cell hlti).trans hcL, (hb'.cell hlti).trans hcR⟩
  have HLT := Lib.hid hlt
  obtain ⟨th, hth⟩ : ∃ n, Tr.ht (.node hk hv (.node ik iv il ir) a) = n := ⟨_, rfl⟩
  obtain ⟨ta, hta'⟩ : ∃ n, a.ht = n := ⟨_, rfl⟩
  obtain ⟨tm, htm'⟩ : ∃ n, (Tr.node ik iv il ir).ht = n := ⟨_, rfl⟩
  obtain ⟨to, hto'⟩ : ∃ n, l.ht = n := ⟨_, rfl⟩
  rw [hth] at HHI
  rw [hto'] at HLO
  rw [hta'] at HLA
  rw [htm'] at HLM
  have hth2 : th = to + 2 := by simp only [Tr.ht] at hth hh; omega
  have hd : (to : Int) - (th : Int) = -2 := by omega
  have hbd : (th : Int) ≤ 1000000 ∧ (to : Int) ≤ 1000000 := by omega
  have hdd : (ta : Int) < tm := by omega
  clear hin hb ha hm ho hc hh hth hta' htm' hto' hs he hta htm hto hth2 hkh hlt hkv hbi hil hir hki hlti hcm
  go_enter Try.func46, Try.ntmps46
  go_wp2_with fail
  refine HLO.out.mono ?_
  rintro e w1 ⟨rfl, rfl⟩
  go_wp2_with fail
  refine HHI.out.mono ?_
  rintro e w1 ⟨rfl, rfl⟩
  go_wp2_with fail
  go_region_held3 (fun w' => w'.cell? ⟨bh, 3, none⟩ = some (.pointer pa) ∧ w'.cell? ⟨bh, 2, none⟩ = some (.pointer (some ⟨bi, 0, none⟩))) (first | go_keep)
    (first
      | (go_at_call_of 50 (Value.pointer pa); refine HLA.out.mono ?_; rintro e wE ⟨rfl, rfl⟩)
      | (go_at_call_of 50 (Value.pointer (some ⟨bi, 0, none⟩)); refine HLM.out.mono ?_; rintro e wE ⟨rfl, rfl⟩))
  go_wp2_with fail
  go_region_held3 (fun w' => w'.cell? ⟨bh, 3, none⟩ = some (.pointer pa) ∧ w'.cell? ⟨bi, 2, none⟩ = some (.pointer pil) ∧ w'.cell? ⟨bi, 3, none⟩ = some (.pointer pir)) (first | go_keep | exact HC.out _ B1 | exact HC.out _ B2 | exact HC.out _ B3)
    (first
      | (go_at_call 51; refine (HN3.out _ p1 p2 B2 (I1.below B2') I2).mono ?_; rintro e wC ⟨p3, rfl, I3, B3'⟩; have B3 := below_step B2 (Nat.le_refl _) B3')
      | (go_at_call 51; refine (HN2.out _ B1).mono ?_; rintro e wB ⟨p2, rfl, I2, B2'⟩; have B2 := below_step B1 (Nat.le_refl _) B2')
      | (go_at_call 51; refine (HN1.out _ (below_dr (below_dr0 _))).mono ?_; rintro e wA ⟨p1, rfl, I1, B1'⟩; have B1 := below_step (below_dr (below_dr0 _)) (Nat.le_refl _) B1'))
  all_goals
    go_wp2
    go_ret
    exact ⟨p3, rfl, I3, B3⟩
set_option maxRecDepth 100000 in
set_option maxHeartbeats 2000000 in
theorem even0_I (b : Nat) (k : Int) (v : Int) (l r : Tr Int Int) (pl pr : Option Addr) (hc : l.cnt + r.cnt ≤ 100000) (w : World) (hkv : KvI w b k v) (hl : InI w l pl) (hr : InI w r pr) (h1 : l.ht ≠ r.ht + 2) (h2 : r.ht ≠ l.ht + 2) :
    Calls Try.prog 46 #[.pointer (some ⟨b, 0, none⟩), .pointer pl, .pointer pr] w (TreeI (.node k v l r) w) := by
  have HHI := Lib.hid (levels_I l pl w hl)
  have HLO := Lib.hid (levels_I r pr w hr)
  have HOV := Lib.hid (over_I b k v l r pl pr (by omega) w hkv hl hr)
  have hhl := l.ht_cnt
  have hhr := r.ht_cnt
  obtain ⟨tl, htl⟩ : ∃ n, l.ht = n := ⟨_, rfl⟩
  obtain ⟨tr, htr⟩ : ∃ n, r.ht = n := ⟨_, rfl⟩
  rw [htl] at HHI hhl h1 h2
  rw [htr] at HLO hhr h1 h2
  have hd1 : ¬ (tl : Int) - (tr : Int) = 2 := by omega
  have hd2 : ¬ (tl : Int) - (tr : Int) = -2 := by omega
  have hbd : (tl : Int) ≤ 1000000 ∧ (tr : Int) ≤ 1000000 := by omega
  clear hkv hl hr h1 h2 hc hhl hhr htl htr
  go_enter Try.func46, Try.ntmps46
  go_wp2_with fail
  refine HHI.out.mono ?_
  rintro e w1 ⟨rfl, rfl⟩
  go_wp2_with fail
  refine HLO.out.mono ?_
  rintro e w1 ⟨rfl, rfl⟩
  go_wp2_with fail
  refine HOV.out.mono ?_
  rintro e w1 ⟨p1, rfl, hp, hb1⟩
  go_wp2
  go_ret
  exact ⟨p1, rfl, hp, hb1⟩
theorem even_I (b : Nat) (k : Int) (v : Int) (l r : Tr Int Int) (pl pr : Option Addr) (hc : l.cnt + r.cnt ≤ 90000) (w : World) (hkv : KvI w b k v) (hl : InI w l pl) (hr : InI w r pr) :
    Calls Try.prog 46 #[.pointer (some ⟨b, 0, none⟩), .pointer pl, .pointer pr] w (TreeI (.even k v l r) w) := by
  unfold Tr.even
  split
  · rename_i h
    cases l with
    | nil => simp [Tr.ht] at h
    | node hk hv a m =>
      obtain ⟨bh, pa, pm, rfl, hb, ha, hm⟩ := hl.open
      have hc2 : (Tr.node hk hv a m).cnt = a.cnt + 1 + m.cnt := rfl
      by_cases hs : a.ht < m.ht
      · cases m with
        | nil => simp [Tr.ht] at hs
        | node ik iv il ir =>
          obtain ⟨bi, pil, pir, rfl, hbi, hil, hir⟩ := hm.open
          exact evL2_I b bh bi k hk ik v hv iv a il ir r pa pil pir pr (by omega) w hkv hb ha hbi hil hir hr h hs
      · exact evL1_I b bh k hk v hv a m r pa pm pr (by omega) w hkv hb ha hm hr h hs
  · rename_i h1
    split
    · rename_i h
      cases r with
      | nil => simp [Tr.ht] at h
      | node hk hv m a =>
        obtain ⟨bh, pm, pa, rfl, hb, hm, ha⟩ := hr.open
        have hc2 : (Tr.node hk hv m a).cnt = m.cnt + 1 + a.cnt := rfl
        have h' : 1 + max a.ht m.ht = l.ht + 2 := by rw [← h, Nat.max_comm]; rfl
        by_cases hs : a.ht < m.ht
        · cases m with
          | nil => simp [Tr.ht] at hs
          | node ik iv il ir =>
            obtain ⟨bi, pil, pir, rfl, hbi, hil, hir⟩ := hm.open
            exact evR2_I b bh bi k hk ik v hv iv a il ir l pa pil pir pl (by omega) w hkv hb ha hbi hil hir hl h' hs
        · exact evR1_I b bh k hk v hv a m l pa pm pl (by omega) w hkv hb ha hm hl h' hs
    · rename_i h2
      exact even0_I b k v l r pl pr (by omega) w hkv hl hr h1 h2
end Rk
end Go.Proofs.Ytahkmdbbicpfcaa
