/- pfor.PutInts and pfor.TakeInts; the document's Ints and TakeInts. -/
import Derived.Test.YtcknijkjacgnkaaInts
namespace Go.Proofs.Ytcknijkjacgnkaa
open Go.RowKit

set_option maxHeartbeats 2000000 in
theorem putInts_any (A1 A2 : Option Addr) (n1 c1 n2 c2 : Nat) (b : List UInt8) (l : List Int) (w : World) (hl1 : b.length = n1) (hl2 : l.length = n2) (hn1 : n1 ≤ 1000000) (hn2 : n2 ≤ 1000000) (hf : Fits64 l)
    (hb1 : Bytes w w.heap.size A1 b) (hb2 : Ints w w.heap.size A2 l) :
    Calls Try.prog 22 #[.slice A1 n1 c1, .slice A2 n2 c2] w (MadeIn w.heap.size w (b ++ Pfor.list (foldL l)).length (b ++ Pfor.list (foldL l))) := by
  have hmk := run_make_nums n2 (by omega) w
  have ho0 := own_nums w n2 (by simp only [maxLen]; omega)
  have hbel0 : Below w.heap.size w (w.alloc (.cells (madeCells #[.int .u64 0] n2) 50)) := (Below.refl _ _).alloc (Nat.le_refl _) _
  generalize w.alloc (.cells (madeCells #[.int .u64 0] n2) 50) = w0 at *
  have hFl : (foldL l).length = n2 := by rw [foldL_length, hl2]
  have HP := Lib.hid (fun (g : Nat) (wr : World) (hbel : Below w.heap.size w wr) (ho : NOwn wr w.heap.size (some ⟨g, 0, none⟩) n2 n2 (foldL l)) => putList_any A1 (some ⟨g, 0, none⟩) n1 c1 n2 n2 b (foldL l) wr hl1 hFl hn1 hn2 (Nat.le_refl _) ((hb1.below hbel).wide hbel.size) ho.row)
  have HFl := Lib.hid hFl
  have Hl := Lib.hid hl2
  generalize b ++ Pfor.list (foldL l) = T at *
  obtain ⟨g, hg⟩ : ∃ g, g = w.heap.size := ⟨_, rfl⟩
  rw [← hg] at hmk ho0 hbel0 hb2 HP ⊢
  have Hg := Lib.hid hg
  clear hFl hl1 hl2 hb1 hg
  go_enter Try.func22, Try.ntmps22
  go_wp2
  go_loopw [13] (fun i wr => ∃ (k : Nat), k ≤ n2 ∧ i = .int .i64 k ∧ NOwn wr g (some ⟨g, 0, none⟩) n2 n2 ((foldL l).take k ++ List.replicate (n2 - k) 0) ∧ Below g w wr) (fun i _ => n2 - (intOf i).toNat)
  case atStart => exact ⟨0, by omega, rfl, by simpa using ho0, hbel0⟩
  case round =>
    clear ho0 hbel0 hmk
    obtain ⟨k, hk, rfl, ho, hbel⟩ := hrel
    have hbr := hb2.below hbel
    by_cases hlt : k < n2
    · have hk' : k < l.length := by have := Hl.out; omega
      obtain ⟨ad, rfl, hlt', hcell⟩ := hbr.get hk'
      simp only [ival] at hcell
      have hz := hf l[k] (List.getElem_mem hk')
      have HF := fold_any l[k] wr hz.1 hz.2
      have hu := uval_fold hz
      obtain ⟨hg1, hg2⟩ := fill_get (0 : UInt64) HFl.out hlt
      have hold := ho.cell hg1
      rw [hg2] at hold
      have hold' : wr.cell? ⟨g, k, none⟩ = some (.int .u64 0) := hold
      have hfree := ho.free k
      have hst := ho.store k ((foldL l)[k]'(by rw [HFl.out]; exact hlt))
      rw [fill_set (0 : UInt64) HFl.out hlt, foldL_get hk', hu] at hst
      have hb3 := hbel.setCell (p := ⟨g, k, none⟩) (Nat.le_refl _) (.int .u64 ((Num.fold l[k] : Nat) : Int))
      generalize ((Num.fold l[k] : Nat) : Int) = f at hst HF hb3
      generalize l[k] = z at hcell HF
      replace HF := Lib.hid HF
      have Hst := Lib.hid hst
      have Hbl := Lib.hid hb3
      clear hst hu hold hg1 hg2 ho hz hb3
      go_wp2_with fail
      refine HF.out.mono ?_
      rintro e w1 ⟨rfl, rfl⟩
      clear HF
      go_wp2
      go_roundw
      case rel => exact ⟨k + 1, by omega, by go_num, Hst.out, Hbl.out⟩
      case measure => simp [intOf]; omega
    · obtain rfl : k = n2 := by omega
      rw [Nat.sub_self, List.replicate_zero, List.append_nil, List.take_of_length_le (by rw [HFl.out]; exact Nat.le_refl _)] at ho
      have C1 := Lib.hid (HP.out g wr hbel ho)
      clear HP
      have hgs : g ≤ wr.heap.size := ho.size
      go_wp2_with fail
      refine C1.out.mono ?_
      rintro e w2 ⟨g2, c2', rfl, ho2, hb2'⟩
      clear C1
      go_wp2
      go_ret
      exact ⟨g2, c2', rfl, ho2.low hgs, hbel.trans (hb2'.mono hgs)⟩

/-- what TakeInts answers -/
def TakesIPost (w : World) (r : List Int × Nat × Nat) (e : Ending) (w' : World) : Prop :=
  ∃ A c, e = .returned (.tuple #[.slice A r.1.length c, .int .i64 (r.2.1 : Int), .int .i64 (r.2.2 : Int)]) ∧ IOwn w' w.heap.size A r.1.length c r.1 ∧ Below w.heap.size w w'
noncomputable def Pfor.takeInts (b : List UInt8) (z : Int) : List Int × Nat × Nat := (unfoldL (Pfor.takeList b z).1, (Pfor.takeList b z).2.1, (Pfor.takeList b z).2.2)

theorem takeBlocks_bad (b : List UInt8) (v : Nat) : ∀ (acc : List UInt64) (at_ : Nat), (Pfor.takeBlocks b v acc at_).2.2 ≠ 0 → (Pfor.takeBlocks b v acc at_).1 = [] ∧ (Pfor.takeBlocks b v acc at_).2.1 = 0 := by
  induction v using Nat.strongRecOn with
  | ind v ih =>
    intro acc at_ h
    rcases Nat.eq_zero_or_pos v with h0 | h0
    · subst h0
      rw [Pfor.takeBlocks_zero] at h
      exact absurd rfl h
    · rw [Pfor.takeBlocks_pos b h0] at h ⊢
      split at h
      · rename_i hok
        rw [if_pos hok]
        exact ih (v - 32) (by omega) _ _ h
      · rename_i hok
        rw [if_neg hok]
        exact ⟨rfl, rfl⟩
theorem takeList_bad (b : List UInt8) (z : Int) (h : (Pfor.takeList b z).2.2 ≠ 0) : (Pfor.takeList b z).1 = [] ∧ (Pfor.takeList b z).2.1 = 0 := by
  unfold Pfor.takeList at h ⊢
  split
  · exact ⟨rfl, rfl⟩
  · rename_i h1
    rw [if_neg h1] at h
    split
    · exact ⟨rfl, rfl⟩
    · rename_i h2
      rw [if_neg h2] at h
      split
      · exact ⟨rfl, rfl⟩
      · rename_i h3
        rw [if_neg h3] at h
        exact takeBlocks_bad b _ _ _ h

set_option maxHeartbeats 2000000 in
theorem takeInts_any (A : Option Addr) (n cap : Nat) (b : List UInt8) (z : Int) (w : World) (hl : b.length = n) (hcap : n ≤ cap) (hm : n ≤ 10000) (hb : Bytes w w.heap.size A b)
    (hz0 : -9223372036854775808 ≤ z) (hz1 : z ≤ 9223372036854775807) (hlen : (Pfor.takeList b z).1.length ≤ 1000000) :
    Calls Try.prog 23 #[.slice A n cap, .int .i64 z] w (TakesIPost w (Pfor.takeInts b z)) := by
  have H0 := takeList_any A n cap b z w hl hcap (by omega) hb hz0 hz1 (.inr hm)
  have hbad := takeList_bad b z
  unfold Pfor.takeInts
  unfold TakesPost at H0
  generalize Pfor.takeList b z = R at *
  obtain ⟨L, k, E⟩ := R
  simp only at H0 hbad hlen ⊢
  by_cases hE : E = 0
  · subst hE
    simp only [Int.natCast_zero] at H0
    have hUl : (unfoldL L).length = L.length := unfoldL_length L
    have HUl := Lib.hid hUl
    unfold TakesIPost
    simp only [hUl]
    have hmk := fun w' => run_make_ints L.length (by omega) w'
    have hoi := fun w' => own_ints w' L.length (by simp only [maxLen]; omega)
    obtain ⟨q, hq⟩ : ∃ q, q = L.length := ⟨_, rfl⟩
    rw [← hq] at H0 hlen hmk HUl
    simp only [← hq] at hoi ⊢
    have Hq := Lib.hid hq
    replace H0 := Lib.hid H0
    clear hUl hbad hq hb
    go_enter Try.func23, Try.ntmps23
    go_wp2_with fail
    refine H0.out.mono ?_
    rintro e w1 ⟨A1, c1, rfl, ho1, hb1⟩
    clear H0
    have hmk1 := hmk w1
    have ho0 := hoi w1
    have hbel0 : Below w1.heap.size w1 (w1.alloc (.cells (madeCells #[.int .i64 0] q) 3)) := (Below.refl _ _).alloc (Nat.le_refl _) _
    generalize w1.alloc (.cells (madeCells #[.int .i64 0] q) 3) = w0 at *
    have hrow := ho1.row
    obtain ⟨g, hg⟩ : ∃ g, g = w1.heap.size := ⟨_, rfl⟩
    rw [← hg] at hmk1 ho0 hbel0 hrow
    have hgw : w.heap.size ≤ g := by rw [hg]; exact hb1.size
    clear hmk hoi ho1 hg
    go_wp2
    go_loopw [28] (fun i wr => ∃ (k : Nat), k ≤ q ∧ i = .int .i64 k ∧ IOwn wr g (some ⟨g, 0, none⟩) q q ((unfoldL L).take k ++ List.replicate (q - k) 0) ∧ Below g w1 wr) (fun i _ => q - (intOf i).toNat)
    case atStart => exact ⟨0, by omega, rfl, by simpa using ho0, hbel0⟩
    case round =>
      clear ho0 hbel0 hmk1
      obtain ⟨j, hj, rfl, ho, hbel⟩ := hrel
      have hbr := hrow.below hbel
      by_cases hlt : j < q
      · have hj' : j < L.length := by have := Hq.out; omega
        obtain ⟨ad, rfl, hlt', hcell⟩ := hbr.get hj'
        simp only [uval] at hcell
        have HF := unfold_any L[j].toNat wr (Bits.u64_lt _)
        obtain ⟨hg1, hg2⟩ := fill_get (0 : Int) HUl.out hlt
        have hold := ho.cell hg1
        rw [hg2] at hold
        have hold' : wr.cell? ⟨g, j, none⟩ = some (.int .i64 0) := hold
        have hfree := ho.free j
        have hst := ho.store j ((unfoldL L)[j]'(by rw [HUl.out]; exact hlt))
        rw [fill_set (0 : Int) HUl.out hlt, unfoldL_get hj'] at hst
        have hb3 := hbel.setCell (p := ⟨g, j, none⟩) (Nat.le_refl _) (.int .i64 (Num.unfold L[j].toNat))
        simp only [ival] at hst
        generalize Num.unfold L[j].toNat = f at hst HF hb3
        generalize (L[j].toNat : Int) = y at hcell HF
        replace HF := Lib.hid HF
        have Hst := Lib.hid hst
        have Hbl := Lib.hid hb3
        clear hst hold hg1 hg2 ho hb3
        go_wp2_with fail
        refine HF.out.mono ?_
        rintro e w2 ⟨rfl, rfl⟩
        clear HF
        go_wp2
        go_roundw
        case rel => exact ⟨j + 1, by omega, by go_num, Hst.out, Hbl.out⟩
        case measure => simp [intOf]; omega
      · obtain rfl : j = q := by omega
        rw [Nat.sub_self, List.replicate_zero, List.append_nil, List.take_of_length_le (by rw [HUl.out]; exact Nat.le_refl _)] at ho
        go_wp2
        go_ret3
        exact ⟨some ⟨g, 0, none⟩, j, rfl, ho.low hgw, hb1.trans (hbel.mono hgw)⟩
  · obtain ⟨rfl, rfl⟩ := hbad hE
    have hE' : ¬ ((E : Int) = 0) := by omega
    simp only [List.length_nil, Int.natCast_zero] at H0
    replace H0 := Lib.hid H0
    clear hb hE hbad hlen
    go_enter Try.func23, Try.ntmps23
    go_wp2_with fail
    refine H0.out.mono ?_
    rintro e w1 ⟨A1, c1, rfl, ho1, hb1⟩
    clear H0
    go_wp2
    go_ret3
    exact ⟨none, 0, rfl, iown_none _ _, hb1⟩

theorem refInts_any (A : Option Addr) (n cap B : Nat) (l : List Int) (w : World) (hl : l.length = n) (hn : n ≤ 1000000) (hf : Fits64 l) (hb : Ints w B A l) (hB : B ≤ w.heap.size) :
    Calls Try.prog 25 #[.slice A n cap] w (MadeIn w.heap.size w (Pfor.list (foldL l)).length (Pfor.list (foldL l))) := by
  have H1 := Lib.hid (folded_any A n cap B l w hl hn hf hb hB)
  have H2 := Lib.hid (fun A2 c2 w' hb hc => refList_any A2 n c2 _ (foldL l) w' (by rw [foldL_length, hl]) hn hc hb (Nat.le_refl _))
  generalize Pfor.list (foldL l) = T at *
  clear hb hl
  go_enter Try.func25, Try.ntmps25
  go_wp2_with fail
  refine H1.out.mono ?_
  rintro e w1 ⟨A1, c1, rfl, ho1, hb1⟩
  clear H1
  go_wp2_with fail
  refine (H2.out A1 c1 w1 ho1.row (by exact ho1.cap)).mono ?_
  rintro e w2 ⟨g2, c2, rfl, ho2, hb2⟩
  clear H2
  go_wp2
  go_ret
  exact ⟨g2, c2, rfl, ho2.low hb1.size, hb1.trans (hb2.mono hb1.size)⟩

theorem refTakeInts_any (A : Option Addr) (n cap B : Nat) (b : List UInt8) (z : Int) (w : World) (hl : b.length = n) (hcap : n ≤ cap) (hm : n ≤ 10000) (hb : Bytes w B A b) (hB : B ≤ w.heap.size) (hz1 : z ≤ 9223372036854775807) (hlen : (Pfor.takeList b z).1.length ≤ 1000000) :
    Calls Try.prog 24 #[.slice A n cap, .int .i64 z] w (TakesIPost w (Pfor.takeInts b z)) := by
  have H0 := refTakeList_any A n cap B b z w hl hcap hm hb hB hz1
  unfold Pfor.takeInts
  unfold TakesPost at H0
  generalize Pfor.takeList b z = R at *
  obtain ⟨L, k, E⟩ := R
  simp only at H0 hlen ⊢
  have H1 := fun A2 c2 w' hb => unfolded_any A2 L.length c2 _ L w' rfl hlen hb (Nat.le_refl _)
  unfold TakesIPost
  simp only [unfoldL_length]
  generalize unfoldL L = U at *
  generalize L.length = q at *
  generalize (k : Int) = κ at *
  generalize (E : Int) = ε at *
  replace H0 := Lib.hid H0
  replace H1 := Lib.hid H1
  clear hb hl
  go_enter Try.func24, Try.ntmps24
  go_wp2_with fail
  refine H0.out.mono ?_
  rintro e w1 ⟨A1, c1, rfl, ho1, hb1⟩
  clear H0
  go_wp2_with fail
  refine (H1.out A1 c1 w1 ho1.row).mono ?_
  rintro e w2 ⟨A2, c2, rfl, ho2, hb2⟩
  clear H1
  go_wp2
  go_ret3
  exact ⟨A2, c2, rfl, ho2.low hb1.size, hb1.trans (hb2.mono hb1.size)⟩
end Go.Proofs.Ytcknijkjacgnkaa
