
/- What package glob's stands answers: of each token a function that tells how many bytes it may stand for. -/
import Derived.Test.YtljcnnigpfclkaaDoorGbSizes
import Derived.Shelf.Strings.SlTrimAscii
namespace Go.Proofs.YtljcnnigpfclkaaDoor
open Go.RowKit Go.Shelf
open Dp
attribute [local go_sem] Oper.semAt_some
namespace Gb
/-! ### Plain -/
theorem trim_mid {a : List UInt8} {cs : List UInt8} (h : ∀ c ∈ a, cs.contains c = false) (h0 : a ≠ []) (x y : List UInt8) (hx : ∀ c ∈ x, cs.contains c = true) (hy : ∀ c ∈ y, cs.contains c = true) : Lib.trimS (x ++ a ++ y) cs = a := by
  have drop : ∀ (z b : List UInt8), (∀ c ∈ z, cs.contains c = true) → (∀ c ∈ b.head?, cs.contains c = false) → (z ++ b).dropWhile (cs.contains ·) = b := by
    intro z
    induction z with
    | nil =>
      intro b _ hb
      cases b with
      | nil => rfl
      | cons c b =>
        have := hb c (by simp)
        simp only [List.nil_append, List.dropWhile_cons, this, Bool.false_eq_true, if_false]
    | cons c z ih =>
      intro b hz hb
      rw [List.cons_append, List.dropWhile_cons, if_pos (hz c (by simp))]
      exact ih b (fun d hd => hz d (by simp [hd])) hb
  have h1 : Lib.trimRightS (x ++ a ++ y) cs = x ++ a := by
    unfold Lib.trimRightS
    rw [List.reverse_append, drop y.reverse (x ++ a).reverse (fun c hc => hy c (by simpa using hc)) ?_, List.reverse_reverse]
    intro c hc
    rw [List.reverse_append] at hc
    refine h c ?_
    cases hr : a.reverse with
    | nil => exact absurd (by simpa using hr) h0
    | cons d l =>
      rw [hr] at hc
      have hcd : c = d := by simpa using hc.symm
      have : d ∈ a.reverse := by rw [hr]; simp
      rw [hcd]
      simpa using this
  unfold Lib.trimS
  rw [h1]
  unfold Lib.trimLeftS
  refine drop x a hx fun c hc => h c ?_
  cases a with
  | nil => exact absurd rfl h0
  | cons d l =>
    have : d = c := by simpa using hc
    rw [this]; simp
theorem trim_tok {t : List UInt8} (h : Tok t) (h1 : t ≠ [42]) (h2 : t ≠ [63]) : spl 44 (Lib.trimS t [123, 125]) = prts t := by
  rcases h with rfl | rfl | ⟨c, rfl, hc⟩ | ⟨a, rfl, ha⟩
  · exact absurd rfl h1
  · exact absurd rfl h2
  · have hn : ∀ d ∈ [c], ([123, 125] : List UInt8).contains d = false := by
      intro d hd
      rw [List.mem_singleton.1 hd]
      have n1 := plainC_ne hc (d := 123) (by decide)
      have n2 := plainC_ne hc (d := 125) (by decide)
      simp [n1, n2]
    have := trim_mid hn (by simp) [] [] (by simp) (by simp)
    rw [List.nil_append, List.append_nil] at this
    rw [this, spl_not (by rw [List.mem_singleton]; exact (plainC_ne hc (d := 44) (by decide)).symm)]
    rfl
  · have hn : ∀ d ∈ a, ([123, 125] : List UInt8).contains d = false := by
      intro d hd
      have n1 : d ≠ 123 := fun e => ch_no ha (d := 123) (by decide) (by decide) (e ▸ hd)
      have n2 : d ≠ 125 := fun e => ch_no ha (d := 125) (by decide) (by decide) (e ▸ hd)
      simp [n1, n2]
    have := trim_mid hn (ch_ne ha) [123] [125] (by decide) (by decide)
    rw [List.cons_append, List.nil_append] at this
    have hl : (123 :: a ++ [125]).length ≠ 1 := by simp
    rw [this]
    unfold prts
    rw [if_neg hl, inner_ch]
theorem szs_parts {t : List UInt8} (h1 : t ≠ [42]) (h2 : t ≠ [63]) (r : List UInt8) : szs t r = ofP (prts t) r := by
  unfold szs ofP
  rw [if_neg h1, if_neg h2]
theorem trim_le (l cs : List UInt8) : (Lib.trimS l cs).length ≤ l.length := by
  unfold Lib.trimS Lib.trimLeftS Lib.trimRightS
  refine Nat.le_trans (List.dropWhile_sublist _).length_le ?_
  rw [List.length_reverse]
  refine Nat.le_trans (List.dropWhile_sublist _).length_le ?_
  rw [List.length_reverse]
  exact Nat.le_refl _
/-! ### The program -/
theorem anyBytes_any (s : ByteArray) (w : World) :
    Calls Tryd.prog 54 #[.string s] w fun e w' => e = .returned (.func (.func 66) #[] #[.pointer (some ⟨w.heap.size, 0, none⟩)]) ∧ w.alloc (.cells #[.string s] 9) = w' := by
  go_enter Tryd.func54, Tryd.ntmps54
  go_wp2
  go_ret
  exact ⟨rfl, rfl⟩
theorem anyByte_any (s : ByteArray) (w : World) :
    Calls Tryd.prog 55 #[.string s] w fun e w' => e = .returned (.func (.func 67) #[] #[.pointer (some ⟨w.heap.size, 0, none⟩)]) ∧ w.alloc (.cells #[.string s] 9) = w' := by
  go_enter Tryd.func55, Tryd.ntmps55
  go_wp2
  go_ret
  exact ⟨rfl, rfl⟩
theorem oneOf_any (a : Option Addr) (n c : Nat) (w : World) :
    Calls Tryd.prog 56 #[.slice a n c] w fun e w' => e = .returned (.func (.func 68) #[] #[.pointer (some ⟨w.heap.size, 0, none⟩)]) ∧ w.alloc (.cells #[.slice a n c] 25) = w' := by
  go_enter Tryd.func56, Tryd.ntmps56
  go_wp2
  go_ret
  exact ⟨rfl, rfl⟩
theorem oneOf1_any (s : ByteArray) (b : Nat) (w : World) :
    Calls Tryd.prog 68 #[.string s, .pointer (some ⟨b, 0, none⟩)] w fun e w' => e = .returned (.func (.func 69) #[] #[.pointer (some ⟨b, 0, none⟩), .pointer (some ⟨w.heap.size, 0, none⟩)]) ∧ w.alloc (.cells #[.string s] 9) = w' := by
  go_enter Tryd.func68, Tryd.ntmps68
  go_wp2
  go_ret
  exact ⟨rfl, rfl⟩
theorem anyBytes_enters : ∀ args w, (callFunc 54 args).run Tryd.prog w = .ok (.enter 54 args) w := enters_of Tryd.func54 (by kernel_rfl) rfl
theorem anyByte_enters : ∀ args w, (callFunc 55 args).run Tryd.prog w = .ok (.enter 55 args) w := enters_of Tryd.func55 (by kernel_rfl) rfl
theorem oneOf1_enters : ∀ args w, (callFunc 68 args).run Tryd.prog w = .ok (.enter 68 args) w := enters_of Tryd.func68 (by kernel_rfl) rfl
theorem anyBytes1_enters : ∀ args w, (callFunc 66 args).run Tryd.prog w = .ok (.enter 66 args) w := enters_of Tryd.func66 (by kernel_rfl) rfl
theorem anyByte1_enters : ∀ args w, (callFunc 67 args).run Tryd.prog w = .ok (.enter 67 args) w := enters_of Tryd.func67 (by kernel_rfl) rfl
theorem oneOf11_enters : ∀ args w, (callFunc 69 args).run Tryd.prog w = .ok (.enter 69 args) w := enters_of Tryd.func69 (by kernel_rfl) rfl
/-- f tells of a token, and of what is left, how many bytes it may stand for; wherever texts stay -/
def Sizer (W : World) (f : Value) (t : List UInt8) : Prop := ∃ g lb, f = .func (.func g) #[] lb ∧ (∀ args w, (callFunc g args).run Tryd.prog w = .ok (.enter g args) w) ∧
  ∀ (r : List UInt8) (V : World), r.length ≤ 100000 → KpS W V → Calls Tryd.prog g (#[.string (B r)] ++ lb) V fun e V' => ∃ g2 lb2, e = .returned (.func (.func g2) #[] lb2) ∧ (∀ args w, (callFunc g2 args).run Tryd.prog w = .ok (.enter g2 args) w) ∧
    Below V.heap.size V V' ∧ SeqR Tryd.prog KpS encK V' g2 lb2 (szs t r)
theorem sizer_star (W : World) : Sizer W (.func (.func 54) #[] #[]) [42] :=
  ⟨_, _, rfl, anyBytes_enters, fun r V hr _ => (anyBytes_any (B r) V).mono fun e V' ⟨h1, h2⟩ => ⟨_, _, h1, anyBytes1_enters, by rw [← h2]; exact (Below.refl _ V).alloc (Nat.le_refl _) _, fun lp cont J Jx _ hY W' hW' hJ => by
    have hb : Blk V' V.heap.size 9 #[strV r] := by rw [← h2]; exact Blk.new V _ _
    rw [szs_star] at hJ ⊢
    exact anyBytes1_any r hr V.heap.size lp cont J Jx hY W' (hb.below hW' hb.lt) hJ⟩⟩
theorem sizer_one (W : World) : Sizer W (.func (.func 55) #[] #[]) [63] :=
  ⟨_, _, rfl, anyByte_enters, fun r V _ _ => (anyByte_any (B r) V).mono fun e V' ⟨h1, h2⟩ => ⟨_, _, h1, anyByte1_enters, by rw [← h2]; exact (Below.refl _ V).alloc (Nat.le_refl _) _, fun lp cont J Jx _ hY W' hW' hJ => by
    have hb : Blk V' V.heap.size 9 #[strV r] := by rw [← h2]; exact Blk.new V _ _
    rw [szs_one] at hJ ⊢
    exact anyByte1_any r V.heap.size lp cont J Jx hY W' (hb.below hW' hb.lt) hJ⟩⟩
theorem sizer_parts {t : List UInt8} (h1 : t ≠ [42]) (h2 : t ≠ [63]) (hP : (prts t).length ≤ 100000) (hl : ∀ p ∈ prts t, p.length ≤ 100000) (W : World) (b : Nat) (sv : Value) (hB : Blk W b 25 #[sv]) (hE : EsT W sv (prts t)) :
    Sizer W (.func (.func 68) #[] #[.pointer (some ⟨b, 0, none⟩)]) t :=
  ⟨_, _, rfl, oneOf1_enters, fun r V _ hK => (oneOf1_any (B r) b V).mono fun e V' ⟨e1, e2⟩ => ⟨_, _, e1, oneOf11_enters, by rw [← e2]; exact (Below.refl _ V).alloc (Nat.le_refl _) _, fun lp cont J Jx _ hY W' hW' hJ => by
    have hb : Blk V' V.heap.size 9 #[strV r] := by rw [← e2]; exact Blk.new V _ _
    have hb0 := hK.2 _ _ hB
    have hbV : Below V.heap.size V V' := by rw [← e2]; exact (Below.refl _ V).alloc (Nat.le_refl _) _
    have hbW : Below V.heap.size V W' := hbV.trans (hW'.mono hbV.size)
    rw [szs_parts h1 h2] at hJ ⊢
    exact oneOf11_any (prts t) r sv hP hl b V.heap.size lp cont J Jx hY W' (hb0.below hbW hb0.lt) (hb.below hW' hb.lt) ((hK.es hE).below hbW) hJ⟩⟩
theorem trim_any (l : List UInt8) (w : World) (hl : l.length ≤ 100000) :
    Calls Tryd.prog 58 #[.string (B l), .string ⟨#[123, 125]⟩] w fun e w' => e = .returned (.string (B (Lib.trimS l [123, 125]))) ∧ Below w.heap.size w w' :=
  Any.strings_Trim_laid Tryd.lays160 (by kernel_rfl) (B l) ⟨#[123, 125]⟩ w (by rw [B_size]; omega) (by decide) (ascii_of_all (by decide))
theorem splitLib_any (l : List UInt8) (w : World) (hE : EnvC w) (hl : l.length ≤ 100000) :
    Calls Tryd.prog 57 #[.string (B l), .string ⟨#[44]⟩] w fun e w' => ∃ v n, e = .returned v ∧ v = Value.slice (some ⟨w.heap.size, 0, none⟩) n n ∧ n = (spl 44 l).length ∧ EsT w' v (spl 44 l) ∧ Below w.heap.size w w' := by
  obtain ⟨m, hm⟩ := hE
  refine (Tryd.strings_Split (B l) ⟨#[44]⟩ m w (by rw [B_size]; omega) hm (by decide)).mono ?_
  rintro e w' ⟨rfl, rfl⟩
  rw [countB_eq, splitB_B]
  refine ⟨_, _, rfl, rfl, rfl, ⟨_, _, rfl, Nat.le_refl _, fun _ => ⟨w.heap.size, 0, _, rfl, Blk.new w _ _, fun j u hu => ?_⟩⟩, (Below.refl _ _).alloc (Nat.le_refl _) _⟩
  rw [cellsT] at hu
  rw [Nat.zero_add, List.map_map, List.getElem?_toArray]
  exact hu
theorem prts_le {t : List UInt8} (ht : t.length ≤ 40) : (prts t).length ≤ 100000 ∧ ∀ p ∈ prts t, p.length ≤ 100000 := by
  unfold prts
  split
  · exact ⟨by simp, fun p hp => by rw [List.mem_singleton.1 hp]; omega⟩
  · have hi : (inner t).length ≤ 40 := by unfold inner; rw [List.length_take, List.length_drop]; omega
    have := spl_many 44 (inner t)
    exact ⟨by omega, fun p hp => by have := spl_le hp; omega⟩
set_option maxRecDepth 100000 in
set_option maxHeartbeats 1000000 in
theorem stands_any (t : List UInt8) (w : World) (hE : EnvC w) (ht : Tok t) (hl : t.length ≤ 40) :
    Calls Tryd.prog 45 #[.string (B t)] w fun e w' => ∃ g lb, e = .returned (.func g #[] lb) ∧ Sizer w' (.func g #[] lb) t ∧ Below w.heap.size w w' := by
  have q1 := eq_lit t [42]
  have q2 := eq_lit t [63]
  by_cases h1 : t = [42]
  · have HS := Lib.hid (sizer_star w)
    subst h1
    clear ht hl hE q1 q2
    go_enter Tryd.func45, Tryd.ntmps45
    go_wp2
    go_ret
    exact ⟨_, _, rfl, HS.out, Below.refl _ _⟩
  · by_cases h2 : t = [63]
    · have HS := Lib.hid (sizer_one w)
      subst h2
      clear ht hl hE h1 q1 q2
      go_enter Tryd.func45, Tryd.ntmps45
      go_wp2
      go_ret
      exact ⟨_, _, rfl, HS.out, Below.refl _ _⟩
    · have HT := Lib.hid (trim_any t w (by omega))
      have HSP := fun W hE => Lib.hid (splitLib_any (Lib.trimS t [123, 125]) W hE (by have := trim_le t [123, 125]; omega))
      rw [trim_tok ht h1 h2] at HSP
      have HPL := Lib.hid (prts_le hl)
      have HZ := fun W b sv hB hE => Lib.hid (sizer_parts h1 h2 HPL.out.1 HPL.out.2 W b sv hB hE)
      have HEC := Lib.hid hE
      rw [beq_eq_false_iff_ne.2 h1] at q1
      rw [beq_eq_false_iff_ne.2 h2] at q2
      obtain ⟨s, hs⟩ : ∃ s, B t = s := ⟨_, rfl⟩
      rw [hs] at HT q1 q2 ⊢
      obtain ⟨tr, htr⟩ : ∃ tr, Lib.trimS t [123, 125] = tr := ⟨_, rfl⟩
      rw [htr] at HT HSP
      have q1' : (s.toList == [42]) = false := q1
      have q2' : (s.toList == [63]) = false := q2
      clear hs htr hE ht hl q1 q2
      go_enter Tryd.func45, Tryd.ntmps45
      go_wp2_with fail
      refine HT.out.mono ?_
      rintro e w1 ⟨rfl, hb1⟩
      have HE1 := Lib.hid (HEC.out.below hb1)
      have HB1 := Lib.hid hb1
      clear hb1
      go_wp2_with fail
      refine (HSP _ HE1.out).out.mono ?_
      rintro e w2 ⟨v, n, rfl, rfl, hn, hes, hb2⟩
      have HB2 := Lib.hid (below_step HB1.out (Nat.le_refl _) hb2)
      have HES := Lib.hid hes
      have HO := Lib.hid (oneOf_any (some ⟨w1.heap.size, 0, none⟩) n n w2)
      clear hes hb2 hn
      go_wp2_with fail
      refine HO.out.mono ?_
      rintro e w3 ⟨rfl, hw3⟩
      have hb3 : Below w2.heap.size w2 w3 := by rw [← hw3]; exact (Below.refl _ w2).alloc (Nat.le_refl _) _
      have hk3 : Blk w3 w2.heap.size 25 #[.slice (some ⟨w1.heap.size, 0, none⟩) n n] := by rw [← hw3]; exact Blk.new w2 _ _
      have HFIN := Lib.hid (HZ w3 w2.heap.size _ hk3 (Vec.Es.below HES.out hb3)).out
      have HB3 := Lib.hid (below_step HB2.out (Nat.le_refl _) hb3)
      clear hb3 hk3 hw3
      go_wp2
      go_ret
      exact ⟨_, _, rfl, HFIN.out, HB3.out⟩
end Gb
end Go.Proofs.YtljcnnigpfclkaaDoor
