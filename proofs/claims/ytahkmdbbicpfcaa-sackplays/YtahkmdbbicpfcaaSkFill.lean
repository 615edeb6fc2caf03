
/- The laws' fill, missing; Clone. -/
import Derived.Test.YtahkmdbbicpfcaaSkRef2
import Derived.Test.YtahkmdbbicpfcaaSkMerge
namespace Go.Proofs.Ytahkmdbbicpfcaa
open Go.RowKit
namespace Sk
open Rk
/-- the numbers of a slice that stays -/
def ArgN (W : World) (a : Option Addr) (l : List Int) : Prop := l.length = 0 ∨ ∃ b o, a = some ⟨b, o, none⟩ ∧ b < W.heap.size ∧ ∀ (j : Nat) (hj : j < l.length), W.cell? ⟨b, o + j, none⟩ = some (.int .i64 l[j])
theorem ArgN.below {W W' : World} {a : Option Addr} {l : List Int} (h : ArgN W a l) (hb : Below W.heap.size W W') : ArgN W' a l := by
  rcases h with h | ⟨b, o, rfl, hlt, hc⟩
  · exact .inl h
  · exact .inr ⟨b, o, rfl, Nat.lt_of_lt_of_le hlt hb.size, fun j hj => (hb.cell hlt).trans (hc j hj)⟩
theorem es_arg {W : World} {a : Option Addr} {n c : Nat} {l : List Int} (h : EsN W (.slice a n c) l) : ArgN W a l := by
  by_cases h0 : l.length = 0
  · exact .inl h0
  · obtain ⟨-, -, hn⟩ := es_nums h
    obtain ⟨b, o, rfl, hc⟩ := hn (by omega)
    exact .inr ⟨b, o, rfl, World.block_lt_of_cell? W _ (hc 0 (by omega)), hc⟩
theorem put_sorted {l : List Int} (h : srt l) : put [] l = l := srt_ext _ _ (put_srt l [] List.Pairwise.nil) h (fun y => by rw [put_count]; simp)
theorem put_take {l : List Int} {j : Nat} (h : j < l.length) (m : List Int) : put m (l.take (j + 1)) = ins l[j] (put m (l.take j)) := by rw [take_succ' h, put_app]; rfl
/-- a list of numbers lets a sack's call be -/
theorem es_only {w w' : World} {s R : Nat} {room : Int} {m : List Int} (hs : Sak w s R room m) (ho : Only [R, s] w w') {v : Value} {l : List Int} (h : EsN w v l) : EsN w' v l :=
  h.keep fun b cs hb => by
    obtain ⟨cs2, hr⟩ := hs.rack
    refine ho.blk hb (fun hk => ?_)
    rcases List.mem_cons.1 hk with hk | hk
    · exact hb.apart hr (by decide) hk
    · rw [List.mem_singleton] at hk; exact hb.apart hs.blk (by decide) hk
/-- a sack of numbers, and they in order, of a call's own -/
structure Full (w : World) (room : Int) (l : List Int) (s R : Nat) (v : Value) (W : World) : Prop where
  sak : Sak W s R room (put [] l)
  es : EsN W v (put [] l)
  s0 : w.heap.size ≤ s
  r0 : w.heap.size ≤ R
  below : Below w.heap.size w W
theorem Full.step {w W W2 W3 : World} {room : Int} {l : List Int} {s R : Nat} {v v' : Value} (h : Full w room l s R v W) {m : List Int} {l' : List Int} (h2 : Sak W2 s R room m) (ho : Only [R, s] W W2) (h3 : EsN W3 v' m) (hb : Below W2.heap.size W2 W3) (he : m = put [] l') : Full w room l' s R v' W3 := by
  subst he
  have hb2 : Below w.heap.size w W2 := h.below.trans (ho.drop h.below.size (fun k hk => by
    rcases List.mem_cons.1 hk with rfl | hk
    · exact h.r0
    · rw [List.mem_singleton] at hk; subst hk; exact h.s0))
  exact ⟨h2.below hb, h3, h.s0, h.r0, hb2.trans (hb.mono hb2.size)⟩
set_option maxRecDepth 100000 in
set_option maxHeartbeats 4000000 in
theorem fill_any (a : Option Addr) (n c : Nat) (l : List Int) (room : Int) (w : World) (hn : n = l.length) (hl : (l.length : Int) ≤ room) (hr : room ≤ 1000) (hfit : Fit l) (h : ArgN w a l) :
    Calls Try.prog 20 #[.slice a n c, .int .i64 room] w fun e w' => ∃ s R v, e = .returned (.tuple #[.pointer (some ⟨s, 0, none⟩), v, .bool true]) ∧ Full w room l s R v w' := by
  have HN := Lib.hid (new_yes room (by omega) hr w)
  have HNL := Lib.hid hn
  have HL := Lib.hid hl
  have HFI := Lib.hid hfit
  have HA := Lib.hid h
  have hn2 : n ≤ 1000 := by omega
  clear h hn hl hr hfit
  go_enter Try.func20, Try.ntmps20
  go_wp2_with fail
  refine HN.out.mono ?_
  rintro e w1 ⟨s, R, rfl, hs, hs0, hR0, hb1⟩
  have HST : Hid (Full w room (l.take 0) s R (.slice none 0 0) w1) := ⟨hs, Vec.Es.nil _ _ _, hs0, hR0, hb1⟩
  clear hs hs0 hR0 hb1
  go_wp2
  go_loopw [25, 9] (fun iv ov wr => ∃ (j : Nat) (a1 : Option Addr) (n1 c1 : Nat), j ≤ n ∧ iv = .int .i64 (j : Int) ∧ ov = .slice a1 n1 c1 ∧ Hid (Full w room (l.take j) s R (.slice a1 n1 c1) wr)) (fun iv _ _ => n - (intOf iv).toNat)
  case atStart => exact ⟨0, none, 0, 0, Nat.zero_le _, rfl, rfl, HST⟩
  case round =>
    obtain ⟨j, a1, n1, c1, hjn, rfl, rfl, HFU⟩ := hrel
    by_cases hj : j < n
    · have hjl : j < l.length := by have := HNL.out; omega
      have hAr := HA.out
      have hfu := HFU.out
      rcases hAr with h0 | ⟨b, o, rfl, hlt, hcs⟩
      · omega
      have hc : wr.cell? ⟨b, o + j, none⟩ = some (.int .i64 l[j]) := (hfu.below.cell (p := ⟨b, o + j, none⟩) hlt).trans (hcs j hjl)
      have hlen : ((put [] (l.take j)).length : Int) < room := by
        rw [put_len, List.length_nil, List.length_take]
        have := HL.out; omega
      have HAD := Lib.hid (Add_yes hfu.sak l[j] (HFI.out _ (List.getElem_mem hjl)) hlen)
      have HRA : Hid (∀ w2, Sak w2 s R room (ins l[j] (put [] (l.take j))) → Only [R, s] wr w2 → Calls Try.prog 9 #[.slice a1 n1 c1, .int .i64 l[j]] w2 fun e w3 => ∃ v', e = .returned v' ∧ Full w room (l.take (j + 1)) s R v' w3) := fun w2 k1 k2 =>
        (refAdd_any a1 n1 c1 _ l[j] w2 (by rw [put_len, List.length_nil, List.length_take]; omega) (es_only hfu.sak k2 hfu.es)).mono fun e w3 ⟨v', q1, q2, q3⟩ => ⟨v', q1, hfu.step k1 k2 q2 q3 (put_take hjl []).symm⟩
      obtain ⟨x, hx⟩ : ∃ x, l[j] = x := ⟨_, rfl⟩
      rw [hx] at hc HAD HRA
      clear hfu hcs hlt hx hlen hjl
      go_wp2_with fail
      refine HAD.out.mono ?_
      rintro e w2 ⟨rfl, k1, k2⟩
      have HRB := Lib.hid (HRA.out w2 k1 k2)
      clear k1 k2
      go_wp2_with fail
      refine HRB.out.mono ?_
      rintro e w3 ⟨v', rfl, k3⟩
      obtain ⟨a2, c2, rfl⟩ := es_slice k3.es
      have HK := Lib.hid k3
      clear k3
      generalize (put [] (l.take (j + 1))).length = n2 at HK
      go_wp2
      go_roundw
      case rel => exact ⟨j + 1, a2, n2, c2, by omega, by simp, rfl, HK⟩
      case measure => simp [intOf]; omega
    · obtain rfl : j = n := by omega
      have HFZ : Hid (Full w room l s R (.slice a1 n1 c1) wr) := by
        have := HFU.out
        rwa [HNL.out, List.take_length] at this
      go_wp2
      go_ret3
      exact ⟨s, R, _, rfl, HFZ.out⟩
set_option maxRecDepth 100000 in
theorem missing_any (a : Option Addr) (n c : Nat) (l : List Int) (x : Int) (w : World) (hl : l.length ≤ 10000) (h : EsN w (.slice a n c) l) :
    Calls Try.prog 24 #[.slice a n c, .int .i64 x] w fun e w' => e = .returned (.int .i64 (if l.count x = 0 then 5 else 0)) ∧ w = w' := by
  have HM := Lib.hid (refMany_any a n c l x w hl h)
  obtain ⟨m, hm⟩ : ∃ m, l.count x = m := ⟨_, rfl⟩
  rw [hm] at HM ⊢
  clear h hl hm
  by_cases h0 : m = 0
  · subst h0
    go_enter Try.func24, Try.ntmps24
    go_wp2_with fail
    refine HM.out.mono ?_
    rintro e w1 ⟨rfl, rfl⟩
    go_wp2
    go_ret
    exact ⟨rfl, rfl⟩
  · rw [if_neg h0]
    have hd : ((m : Int) == 0) = false := by simp; omega
    go_enter Try.func24, Try.ntmps24
    go_wp2_with fail
    refine HM.out.mono ?_
    rintro e w1 ⟨rfl, rfl⟩
    go_wp2
    go_ret
    exact ⟨rfl, rfl⟩
set_option maxRecDepth 100000 in
set_option maxHeartbeats 2000000 in
theorem Clone_any {w : World} {s R : Nat} {room : Int} {l : List Int} (h : Sak w s R room l) : Calls Try.prog 23 #[.pointer (some ⟨s, 0, none⟩)] w fun e w' => ∃ s' R', e = .returned (.pointer (some ⟨s', 0, none⟩)) ∧ Sak w' s' R' room l ∧ w.heap.size ≤ s' ∧ w.heap.size ≤ R' ∧ Below w.heap.size w w' := by
  have h0 : w.cell? ⟨s, 0, none⟩ = some (.int .i64 room) := (h.blk.cl 0 _ rfl).1
  have hln := h.len
  have HE := Lib.hid (empty_any room (by omega) h.room w)
  have HM : Hid (∀ w1 s' R', Sak w1 s' R' room [] → w.heap.size ≤ s' → w.heap.size ≤ R' → Below w.heap.size w w1 → Calls Try.prog 14 #[.pointer (some ⟨s', 0, none⟩), .pointer (some ⟨s, 0, none⟩)] w1 fun e w' => e = .returned (.int .i64 0) ∧ Sak w' s' R' room l ∧ w.heap.size ≤ s' ∧ w.heap.size ≤ R' ∧ Below w.heap.size w w') := fun w1 s' R' k1 k2 k3 k4 =>
    (Merge_yes k1 (h.below k4) (by simp; omega)).mono fun e w' ⟨q1, q2, q3⟩ => ⟨q1, by rwa [put_sorted h.srt] at q2, k2, k3, k4.trans (q3.drop k4.size (fun k hk => by
      rcases List.mem_cons.1 hk with rfl | hk
      · exact k3
      · rw [List.mem_singleton] at hk; subst hk; exact k2))⟩
  clear h hln
  go_enter Try.func23, Try.ntmps23
  go_wp2_with fail
  refine HE.out.mono ?_
  rintro e w1 ⟨s', R', rfl, k1, k2, k3, k4⟩
  have HM1 := Lib.hid (HM.out w1 s' R' k1 k2 k3 k4)
  clear k1 k2 k3 k4
  go_wp2_with fail
  refine HM1.out.mono ?_
  rintro e w2 ⟨rfl, H⟩
  have HH := Lib.hid H
  clear H
  go_wp2
  go_ret
  exact ⟨s', R', rfl, HH.out⟩
end Sk
end Go.Proofs.Ytahkmdbbicpfcaa
