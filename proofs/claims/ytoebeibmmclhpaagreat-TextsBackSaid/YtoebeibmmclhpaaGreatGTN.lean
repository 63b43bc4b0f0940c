/- Texts of several layers, one behind the other: TxtCut TxtTakeAll TxtMean TxtRefTake TxtPoke ListsSame TxtBack AppWide. -/
import Derived.Test.YtoebeibmmclhpaaGreatGTA
import Derived.Test.YtoebeibmmclhpaaGreatGTC
import Derived.Test.YtoebeibmmclhpaaGreatGTD
import Derived.Test.YtoebeibmmclhpaaGreatGTF
import Derived.Test.YtoebeibmmclhpaaGreatGTH
import Derived.Test.YtoebeibmmclhpaaGreatGTI
import Derived.Test.YtoebeibmmclhpaaGreatGTK
import Derived.Test.YtoebeibmmclhpaaGreatGTL
import Derived.Test.YtoebeibmmclhpaaGreatGTM
import Derived.Lib.Hide
import Derived.Deep.QuietTactic
import Derived.BigQuiet
import Derived.RegionTactic
import Derived.Deep.DeepAppendWide
/- texts.cut: a text cut into lines, each in memory of its own. -/
namespace Go.Proofs.YtoebeibmmclhpaaGreat
open Go.ChangeShapes Go.WideShapes Go.ChangeAt Go.RowKit
set_option maxRecDepth 100000
theorem run_cut_h64 (A : Option Addr) (n cap hi : Nat) (h2 : hi ≤ cap) (W : World) :
    (Instr.slice 22 (.slice A n cap) none (some (.int .u64 (hi : Int))) none).run Tryz.prog W = .ok (.slice A hi cap) W := by
  rw [run_slice_h (P := Tryz.prog) (w := W) (kh := .u64) (h := (hi : Int)) (h0 := by omega) (h2 := by omega) (ht := by rw [elem22]; exact Tryz.underlying22)]
  rw [elem22, size8]
  by_cases hc : cap = 0 <;> cases A <;> simp [Result.andThen, sliced, Addr.add]
theorem run_cut_l64 (A : Option Addr) (n cap lo m : Nat) (h1 : n = lo + m) (W : World) :
    (Instr.slice 22 (.slice A n cap) (some (.int .u64 (lo : Int))) none none).run Tryz.prog W = .ok (.slice (cutAt A cap lo) m (cap - lo)) W := by
  rw [run_slice_l (P := Tryz.prog) (w := W) (kl := .u64) (l := (lo : Int)) (h0 := by omega) (h1 := by omega) (ht := by rw [elem22]; exact Tryz.underlying22)]
  rw [elem22, size8]
  simp [Result.andThen, sliced, cutAt]
  omega
theorem run_make_lists (n : Nat) (hn : n ≤ 1000000) (w : World) :
    (Instr.makeSlice 23 (.int .i64 (n : Int)) (.int .i64 (n : Int))).run Tryz.prog w = .ok (.slice (some ⟨w.heap.size, 0, none⟩) n n) (w.alloc (.cells (madeCells #[.slice none 0 0] n) 22)) :=
  run_make_row' 23 22 (.slice none 0 0) 24 Tryz.underlying23 list_info rfl .i64 .i64 n (by omega) (by omega) w
/-- a list of which the first k lines are laid -/
def ListPart (w : World) (base g n k : Nat) (ls : List (List UInt8)) : Prop :=
  ∃ vs : List Value, w.ownsRow base 22 1 (.slice (some ⟨g, 0, none⟩) n n) n vs ∧ ls.length = n ∧
    ∀ i, (h : i < ls.length) → i < k → ∃ Ai ci, vs[i]? = some (.slice Ai ls[i].length ci) ∧ Own w base Ai ls[i].length ci ls[i]
namespace ListPart
variable {w w' : World} {base g n k : Nat} {ls : List (List UInt8)}
theorem start (w : World) (n : Nat) (ls : List (List UInt8)) (hl : ls.length = n) (hn : n ≤ maxLen) : ListPart (w.alloc (.cells (madeCells #[.slice none 0 0] n) 22)) w.heap.size w.heap.size n 0 ls := by
  have h := World.ownsRow_lit (e := 22) (size := 1) w (madeCells #[.slice none 0 0] n) n (Nat.le_refl _) hn (by rw [size_madeCells]; omega)
  exact ⟨_, h, hl, fun i _ h0 => by omega⟩
theorem below (h : ListPart w base g n k ls) (hb : Below w.heap.size w w') : ListPart w' base g n k ls := by
  obtain ⟨vs, h1, h2, h3⟩ := h
  refine ⟨vs, ownsRow_below h1 hb, h2, fun i hi hik => ?_⟩
  obtain ⟨Ai, ci, e1, e2⟩ := h3 i hi hik
  exact ⟨Ai, ci, e1, e2.below hb⟩
theorem cell (h : ListPart w base g n k ls) (hk : k < n) : (∃ v, w.cell? ⟨g, k, none⟩ = some v) ∧ w.frozen? ⟨g, k, none⟩ = false := by
  obtain ⟨vs, h1, h2, h3⟩ := h
  have hv : k < vs.length := by have := h1.1; omega
  exact ⟨⟨vs[k], (World.ownsRow.cellAt h1 k (by omega)).trans (List.getElem?_eq_getElem hv)⟩, World.ownsRow.frozenAt h1 k⟩
theorem put (h : ListPart w base g n k ls) (hk : k < n) {Ac : Option Addr} {m cc : Nat} {x : List UInt8} (hx : Own w base Ac m cc x) (he : ls[k]? = some x) (hm : x.length = m) :
    ListPart (w.setCell ⟨g, k, none⟩ (.slice Ac m cc)) base g n (k + 1) ls := by
  obtain ⟨vs, h1, h2, h3⟩ := h
  obtain ⟨hs, hg⟩ := World.ownsRow.stored h1 k (.slice Ac m cc)
  have hvl : vs.length = n := by have := h1.1; omega
  have hkeep' : ∀ {Ai : Option Addr} {m' ci : Nat} {x : List UInt8}, Own w base Ai m' ci x → Own (w.setCell ⟨g, k, none⟩ (.slice Ac m cc)) base Ai m' ci x := by
    intro Ai m' ci x' ho
    refine ho.kept (row := some g) hg ?_
    have := rows_apart ho h1 (by decide)
    rwa [ownBlock_eq, ownBlock_eq] at this
  refine ⟨_, hs, h2, fun i hi hik => ?_⟩
  by_cases e : i = k
  · subst e
    rw [List.getElem?_eq_getElem hi] at he
    injection he with he
    rw [he, hm]
    exact ⟨Ac, cc, by rw [List.getElem?_set_self (by omega)], hkeep' hx⟩
  · obtain ⟨Ai, ci, e1, e2⟩ := h3 i hi (by omega)
    exact ⟨Ai, ci, by rw [List.getElem?_set_ne (by omega)]; exact e1, hkeep' e2⟩
theorem own (h : ListPart w base g n n ls) : ListOwn w base (some ⟨g, 0, none⟩) n n ls := by
  obtain ⟨vs, h1, h2, h3⟩ := h
  exact ⟨vs, h1, h2, fun i hi => h3 i hi (by omega)⟩
end ListPart
set_option maxHeartbeats 1000000 in
theorem cut_any (A A2 : Option Addr) (n cap q c2 : Nat) (t : List UInt8) (L : List UInt64) (w : World) (hl : t.length = n) (hcap : n ≤ cap) (hn : n ≤ 100000000) (hq : L.length = q) (hq16 : q ≤ 1000) (hT : Texts.total L = n) (hb : Bytes w w.heap.size A t) (hL : Nums w w.heap.size A2 L) :
    Calls Tryz.prog 33 #[.slice A n cap, .slice A2 q c2] w fun e w' => ∃ A' c, e = .returned (.slice A' q c) ∧ ListOwn w' w.heap.size A' q c (Texts.cut t L) ∧ Below w.heap.size w w' := by
  have hmk := run_make_lists q (by omega) w
  have hp0 := ListPart.start w q (Texts.cut t L) (by rw [Texts.cut_length, hq]) (by simp only [maxLen]; omega)
  have hbel0 : Below w.heap.size w (w.alloc (.cells (madeCells #[.slice none 0 0] q) 22)) := (Below.refl _ _).alloc (Nat.le_refl _) _
  have hb0 := hb.below hbel0
  generalize w.alloc (.cells (madeCells #[.slice none 0 0] q) 22) = w0 at *
  have Hq := Lib.hid hq
  have Hl := Lib.hid hl
  have HT := Lib.hid (fun k => hT ▸ Texts.total_take_le L k)
  clear hq hl hb hT
  obtain ⟨g, hg⟩ : ∃ g, g = w.heap.size := ⟨_, rfl⟩
  rw [← hg] at hmk hp0 hbel0 hb0 hL ⊢
  have Hg := Lib.hid hg
  clear hg
  go_enter Tryz.func33, Tryz.ntmps33
  go_wp2
  go_loopw [0, 13] (fun s i wr => ∃ (k : Nat) (At : Option Addr) (m ct : Nat), k ≤ q ∧ i = .int .i64 k ∧ s = .slice At m ct ∧ m ≤ ct ∧ n = Texts.total (L.take k) + m ∧ Bytes wr g At (t.drop (Texts.total (L.take k))) ∧ ListPart wr g g q k (Texts.cut t L) ∧ Below g w wr) (fun _ i _ => q - (intOf i).toNat)
  case atStart => exact ⟨0, A, n, cap, Nat.zero_le _, rfl, rfl, hcap, by simp [Texts.total], by simpa [Texts.total] using hb0, hp0, hbel0⟩
  case round =>
    obtain ⟨k, At, m, ct, hk, rfl, rfl, hct, hnm, hbt, hp, hbel⟩ := hrel
    have hgr : g ≤ wr.heap.size := by rw [Hg.out]; exact hbel.size
    by_cases hlt : k < q
    · have hk' : k < L.length := by have := Hq.out; omega
      obtain ⟨ad, rfl, _, hcell⟩ := (hL.below hbel).get hk'
      simp only [uval] at hcell
      have htk := Texts.total_take hk'
      have htn := HT.out (k + 1)
      have hcg := Texts.cut_get t L k hk'
      have hcl : k < (Texts.cut t L).length := by rw [Texts.cut_length]; exact hk'
      have he : (Texts.cut t L)[k]? = some ((t.drop (Texts.total (L.take k))).take L[k].toNat) := by rw [List.getElem?_eq_getElem hcl, hcg]
      rw [htk] at htn
      have Htk := Lib.hid htk
      generalize L[k].toNat = z at *
      have hlen : ((t.drop (Texts.total (L.take k))).take z).length = z := by rw [List.length_take, List.length_drop, Hl.out]; omega
      obtain ⟨m', hm'⟩ : ∃ m', m = z + m' := ⟨m - z, by omega⟩
      have hs1 := run_cut_h64 At m ct z (by omega)
      have hs2 := run_cut_l64 At m ct z m' hm'
      have C := Lib.hid (clone_all At z ct g _ wr hlen (by omega) (hbt.take z) hgr)
      have HC : Hid (∀ w', Bytes w' g At (t.drop (Texts.total (L.take k))) → Bytes w' g (cutAt At ct z) (t.drop (Texts.total (L.take k) + z))) := Lib.hid fun w' h => by
        have := h.cut (k := z) (cap := ct) (by rw [List.length_drop, Hl.out]; omega) (by rw [List.length_drop, Hl.out]; omega)
        rwa [List.drop_drop] at this
      have He := Lib.hid he
      have Hlen := Lib.hid hlen
      have hnm' : n = Texts.total (L.take k) + z + m' := by omega
      have hct' : m' ≤ ct - z := by omega
      have Hnm := Lib.hid hnm'
      generalize t.drop (Texts.total (L.take k)) = d at *
      generalize Texts.total (L.take k) = T at *
      clear he hlen hcg hcl htk htn hnm hnm'
      have i1 : (k : Int) < (q : Int) := by omega
      have i0 : (0 : Int) ≤ (k : Int) := by omega
      have z0 : (0 : Int) ≤ (z : Int) := by omega
      go_wp2_with (first | (go_at_call 58; refine C.out.mono ?_; rintro e w2 ⟨Ac, cc, rfl, hoc, hbc⟩; have hp2 := hp.below hbc; obtain ⟨⟨vold, hcg⟩, hfr⟩ := hp2.cell hlt; have hput := Lib.hid (hp2.put hlt (hoc.low hgr) He.out Hlen.out); have hb2 := Lib.hid ((hbel.trans (hbc.mono hgr)).setCell (p := ⟨g, k, none⟩) (Nat.le_refl _) (.slice Ac z cc)); have hbx := Lib.hid (HC.out _ (hbt.below ((hbc.mono hgr).setCell (p := ⟨g, k, none⟩) (Nat.le_refl _) (.slice Ac z cc)))); clear hp hbel hbt hoc hbc hp2 C HC))
      go_roundw
      case rel => exact ⟨k + 1, cutAt At ct z, m', ct - z, by omega, by go_num, rfl, hct', by rw [Htk.out]; exact Hnm.out, by rw [Htk.out]; exact hbx.out, hput.out, hb2.out⟩
      case measure => simp [intOf]; omega
    · obtain rfl : k = q := by omega
      have hown := hp.own
      go_wp2
      go_ret
      rw [Hg.out] at hown hbel ⊢
      exact ⟨some ⟨w.heap.size, 0, none⟩, k, rfl, hown, hbel⟩
end Go.Proofs.YtoebeibmmclhpaaGreat

/- texts.Take. -/
namespace Go.Proofs.YtoebeibmmclhpaaGreat
open Go.RowKit
set_option maxRecDepth 100000
namespace Texts
/-- what the code comes to -/
noncomputable def takeC (k : UInt8) (r : List UInt8) : List (List UInt8) × Nat × Nat :=
  if good (Pfor.takeList r 16) = false then ([], 0, 2) else
  if (Num.takeRow ((k :: r).drop (1 + (Pfor.takeList r 16).2.1)) ((k :: r).length : Int)).2.2 ≠ 0 then ([], 0, 2) else
  if (unpack k (Num.takeRow ((k :: r).drop (1 + (Pfor.takeList r 16).2.1)) ((k :: r).length : Int)).1 (total (Pfor.takeList r 16).1 : Int)).2 ≠ 0 ∨
    (unpack k (Num.takeRow ((k :: r).drop (1 + (Pfor.takeList r 16).2.1)) ((k :: r).length : Int)).1 (total (Pfor.takeList r 16).1 : Int)).1.length ≠ total (Pfor.takeList r 16).1 then ([], 0, 2) else
  (cut (unpack k (Num.takeRow ((k :: r).drop (1 + (Pfor.takeList r 16).2.1)) ((k :: r).length : Int)).1 (total (Pfor.takeList r 16).1 : Int)).1 (Pfor.takeList r 16).1,
    1 + (Pfor.takeList r 16).2.1 + (Num.takeRow ((k :: r).drop (1 + (Pfor.takeList r 16).2.1)) ((k :: r).length : Int)).2.1, 0)
theorem take_eq (k : UInt8) (r : List UInt8) : take (k :: r) = takeC k r := by
  unfold take takeC unpack
  simp only
  by_cases hk : k ≠ 1 ∧ k ≠ 2
  · rw [if_pos hk]
    simp only [if_pos hk]
    split
    · rfl
    · split
      · rfl
      · rw [if_pos (.inl (by decide))]
  · rw [if_neg hk]
    simp only [if_neg hk]
end Texts
def TxTakePost (w : World) (R : List (List UInt8) × Nat × Nat) (e : Ending) (w' : World) : Prop :=
  ∃ A c, e = .returned (.tuple #[.slice A R.1.length c, .int .i64 (R.2.1 : Int), .int .i64 (R.2.2 : Int)]) ∧ ListOwn w' w.heap.size A R.1.length c R.1 ∧ Below w.heap.size w w'
theorem TxTakePost.bad {w w' : World} {R : List (List UInt8) × Nat × Nat} (h : R = ([], 0, 2)) (hb : Below w.heap.size w w') : TxTakePost w R (.returned (.tuple #[.slice none 0 0, .int .i64 0, .int .i64 2])) w' := by
  subst h
  exact ⟨none, 0, rfl, ListOwn.nil _ _, hb⟩
theorem ListOwn.low {w : World} {b b' : Nat} {A : Option Addr} {n c : Nat} {ls : List (List UInt8)} (h : ListOwn w b A n c ls) (hb : b' ≤ b) : ListOwn w b' A n c ls := by
  obtain ⟨vs, h1, h2, h3⟩ := h
  refine ⟨vs, ⟨h1.1, ?_⟩, h2, fun i hi => ?_⟩
  · rcases h1.2 with h | ⟨g, cap, cur, e1, e2, r⟩
    · exact .inl h
    · exact .inr ⟨g, cap, cur, e1, Nat.le_trans hb e2, r⟩
  · obtain ⟨Ai, ci, e1, e2⟩ := h3 i hi
    exact ⟨Ai, ci, e1, e2.low hb⟩
set_option maxHeartbeats 4000000 in
theorem txTake_any (A : Option Addr) (n cap : Nat) (b : List UInt8) (w : World) (hl : b.length = n) (hcap : n ≤ cap) (hm : n ≤ 281474976710656) (hb : Bytes w w.heap.size A b)
    (hP : ∀ k r, b = k :: r → (Num.takeRow (b.drop (1 + (Pfor.takeList r 16).2.1)) (n : Int)).1.length ≤ 1000000000) :
    Calls Tryz.prog 13 #[.slice A n cap] w (TxTakePost w (Texts.take b)) := by
  rcases b with _ | ⟨x, r⟩
  · obtain rfl : 0 = n := hl
    clear hb hP
    go_enter Tryz.func13, Tryz.ntmps13
    go_wp2
    go_ret3
    exact TxTakePost.bad rfl (Below.refl _ _)
  · have hP := hP x r rfl
    obtain ⟨ad, rfl, hadb, hat⟩ := hb (by simp)
    have hc0 : w.cell? ad = some (.int .u8 (x.toNat : Int)) := by
      have := hat 0 (by simp)
      rw [show ad.add 0 = ad from by unfold Addr.add; simp] at this
      exact this
    rw [Texts.take_eq]
    obtain ⟨m, hnm⟩ : ∃ m, n = 1 + m := ⟨n - 1, by simp at hl; omega⟩
    have hrl : r.length = m := by simp at hl; omega
    have hn1 : (0 : Int) < (n : Int) := by omega
    have hn0 : ((n : Int) == 0) = false := beq_eq_false_iff_ne.2 (by omega)
    have hs1 := run_cut_from (some ad) n cap 1 m hnm
    rw [show ((1 : Nat) : Int) = 1 from rfl] at hs1
    have hb1 : Bytes w w.heap.size (cutAt (some ad) cap 1) r := by
      have := hb.cut (k := 1) (cap := cap) (by simp) (by rw [hl]; omega)
      simpa using this
    have H1 := takeLengths_any (cutAt (some ad) cap 1) m (cap - 1) r w hrl (by omega) (by omega) hb1
    have hcs := Pfor.takeList_cases r
    unfold Texts.takeC
    rw [hl]
    unfold LensPost Texts.lensOf at H1
    generalize hR : Pfor.takeList r 16 = R at *
    rcases hg : Texts.good R with _ | _
    · rw [hg] at H1
      simp only [Bool.false_eq_true, if_false, List.length_nil, Int.natCast_zero] at H1
      rw [if_pos rfl]
      replace H1 := Lib.hid H1
      clear hP hb hb1 hat hl hR hcs hg hrl hnm hm
      generalize cutAt (some ad) cap 1 = A1 at *
      go_enter Tryz.func13, Tryz.ntmps13
      go_wp2_with fail
      refine H1.out.mono ?_
      rintro e w1 ⟨A2, c2, rfl, _, hb2⟩
      clear H1
      go_wp2
      go_ret3
      exact TxTakePost.bad rfl hb2
    · rcases hcs with ⟨L, s, rfl, hL16, hs⟩ | ⟨e, rfl, he⟩
      · rw [hg] at H1
        simp only [if_true] at H1
        rw [if_neg (by simp)]
        simp only at hP ⊢
        have hall := (Texts.good_total hg).2.2
        have htot := Texts.total_le L hall
        simp only at hall
        rw [hrl] at hs
        obtain ⟨m2, hm2⟩ : ∃ m2, n = 1 + s + m2 := ⟨n - (1 + s), by omega⟩
        have hs2 := run_cut_from (some ad) n cap (1 + s) m2 hm2
        rw [show ((1 + s : Nat) : Int) = 1 + (s : Int) from by omega] at hs2
        have hb2 : Bytes w w.heap.size (cutAt (some ad) cap (1 + s)) ((x :: r).drop (1 + s)) := hb.cut (by rw [hl]; omega) (by rw [hl]; omega)
        have hdl : ((x :: r).drop (1 + s)).length = m2 := by rw [List.length_drop, hl]; omega
        have H2 := fun (w1 : World) (h : Bytes w1 w1.heap.size (cutAt (some ad) cap (1 + s)) ((x :: r).drop (1 + s))) => takeRow_wide (cutAt (some ad) cap (1 + s)) m2 (cap - (1 + s)) w1.heap.size _ (n : Int) w1 hdl (by omega) (by omega) (by omega) h (Nat.le_refl _) (by omega) (by omega)
        unfold RowPost at H2
        rcases Num.takeRow_cases2 ((x :: r).drop (1 + s)) (n : Int) with ⟨p, kz, hrow, hpl, hkl⟩ | ⟨e, hrow, he⟩
        · rw [hrow] at H2 hP ⊢
          simp only [Int.natCast_zero] at H2 hP ⊢
          rw [if_neg (by simp)]
          have hcap3 : Hid (∀ A c w1, Own w1 w.heap.size A p.length c p → p.length ≤ c) := Lib.hid fun A c w1 ho => ho.cap
          have H3 := fun (A3 : Option Addr) (c3 : Nat) (w1 : World) (hc : p.length ≤ c3) (h : Bytes w1 w1.heap.size A3 p) => txUnpack_any x A3 p.length c3 w1.heap.size p (Texts.total L) w1 rfl hc (by omega) (by omega) h (Nat.le_refl _)
          unfold PairPost at H3
          generalize hT : Texts.unpack x p (Texts.total L : Int) = T at *
          have H4 := fun (A4 A5 : Option Addr) (c4 c5 : Nat) (w1 : World) (ht : T.1.length = Texts.total L) (hc : Texts.total L ≤ c4) (h1 : Bytes w1 w1.heap.size A4 T.1) (h2 : Nums w1 w1.heap.size A5 L) => cut_any A4 A5 (Texts.total L) c4 L.length c5 T.1 L w1 ht hc (by omega) rfl (by omega) rfl h1 h2
          have Hb2 := Lib.hid hb2
          replace H1 := Lib.hid H1
          replace H2 := Lib.hid H2
          replace H3 := Lib.hid H3
          replace H4 := Lib.hid H4
          have hadc : Hid (∀ w1, Below w.heap.size w w1 → w1.cell? ad = some (.int .u8 (x.toNat : Int))) := Lib.hid fun w1 h => (h.cell (p := ad) hadb).trans hc0
          have hL0 : Hid (L.length = L.length) := Lib.hid rfl
          have hkz : kz ≤ 281474976710656 := by omega
          have hsb : s ≤ 281474976710656 := by omega
          have htb : Texts.total L ≤ 100000000 := by omega
          obtain ⟨E, hE⟩ : ∃ E, T.2 = E := ⟨_, rfl⟩
          rw [hE] at H3 ⊢
          obtain ⟨y, hy⟩ : ∃ y, T.1.length = y := ⟨_, rfl⟩
          rw [hy] at H3 H4 ⊢
          have hcl := Texts.cut_length T.1 L
          have Hcap4 : Hid (∀ A c w1 b, Own w1 b A y c T.1 → y ≤ c) := Lib.hid fun A c w1 b ho => ho.cap
          generalize Texts.total L = tl at *
          generalize cutAt (some ad) cap 1 = A1 at *
          generalize cutAt (some ad) cap (1 + s) = A1' at *
          generalize (x :: r).drop (1 + s) = d at *
          generalize Texts.cut T.1 L = CL at *
          generalize T.1 = TX at *
          have HCL := Lib.hid hcl
          clear hcl hL0 hnm hm2 hb hb1 hb2 hat hl hT hrow hg hall hP hrl hs hkl hdl hpl hR hc0 hm htot hE hy
          generalize p.length = pn at *
          generalize L.length = q at *
          by_cases hE0 : E = 0
          · subst hE0
            by_cases hyt : y = tl
            · subst hyt
              rw [if_neg (by simp)]
              have hyy : ((y : Int) != (y : Int)) = false := by simp
              simp only [Int.natCast_zero] at H3
              go_enter Tryz.func13, Tryz.ntmps13
              go_wp2_with fail
              refine H1.out.mono ?_
              rintro e w1 ⟨A2, c2, rfl, ho2, hbx1⟩
              have d1 := (Hb2.out.below hbx1).wide hbx1.size
              have C2 := Lib.hid (H2.out w1 d1)
              clear H1 H2 d1 Hb2
              go_wp2_with fail
              refine C2.out.mono ?_
              rintro e w2 ⟨A3, c3, rfl, ho3, hbx2⟩
              have bel2 := hbx1.trans (hbx2.mono hbx1.size)
              clear C2
              have o2 := ho2.below hbx2
              have hca := hadc.out w2 bel2
              have C3 := Lib.hid (H3.out A3 c3 w2 (hcap3.out _ _ _ (ho3.low hbx1.size)) ho3.bytes)
              clear H3 hcap3 ho2 ho3 hadc
              go_wp2_with fail
              refine C3.out.mono ?_
              rintro e w3 ⟨A4, c4, rfl, ho4, hbx3⟩
              have bel3 := bel2.trans (hbx3.mono bel2.size)
              clear C3
              have o3 := o2.below hbx3
              have C4 := Lib.hid (H4.out A4 A2 c4 c2 w3 (by first | rfl | trivial) (Hcap4.out _ _ _ _ ho4) ho4.bytes o3.row)
              clear H4 Hcap4 ho4 o3 o2
              go_wp2_with fail
              refine C4.out.mono ?_
              rintro e w4 ⟨A5, c5, rfl, ho5, hbx4⟩
              clear C4
              go_wp2
              go_ret3
              refine ⟨A5, c5, ?_, ?_, bel3.trans (hbx4.mono bel3.size)⟩
              · simp only [HCL.out]; rfl
              · simp only [HCL.out]; exact ho5.low bel3.size
            · rw [if_pos (.inr hyt)]
              have hyt' : ((y : Int) != (tl : Int)) = true := bne_iff_ne.2 (by omega)
              simp only [Int.natCast_zero] at H3
              clear H4 Hcap4 hyt
              go_enter Tryz.func13, Tryz.ntmps13
              go_wp2_with fail
              refine H1.out.mono ?_
              rintro e w1 ⟨A2, c2, rfl, ho2, hbx1⟩
              have d1 := (Hb2.out.below hbx1).wide hbx1.size
              have C2 := Lib.hid (H2.out w1 d1)
              clear H1 H2 d1 Hb2
              go_wp2_with fail
              refine C2.out.mono ?_
              rintro e w2 ⟨A3, c3, rfl, ho3, hbx2⟩
              have bel2 := hbx1.trans (hbx2.mono hbx1.size)
              clear C2
              have o2 := ho2.below hbx2
              have hca := hadc.out w2 bel2
              have C3 := Lib.hid (H3.out A3 c3 w2 (hcap3.out _ _ _ (ho3.low hbx1.size)) ho3.bytes)
              clear H3 hcap3 ho2 ho3 hadc
              go_wp2_with fail
              refine C3.out.mono ?_
              rintro e w3 ⟨A4, c4, rfl, ho4, hbx3⟩
              have bel3 := bel2.trans (hbx3.mono bel2.size)
              clear C3
              go_wp2
              go_ret3
              exact TxTakePost.bad rfl bel3
          · rw [if_pos (.inl hE0)]
            have hE' : ((E : Int) != 0) = true := bne_iff_ne.2 (by omega)
            clear H4 Hcap4 hE0
            go_enter Tryz.func13, Tryz.ntmps13
            go_wp2_with fail
            refine H1.out.mono ?_
            rintro e w1 ⟨A2, c2, rfl, ho2, hbx1⟩
            have d1 := (Hb2.out.below hbx1).wide hbx1.size
            have C2 := Lib.hid (H2.out w1 d1)
            clear H1 H2 d1 Hb2
            go_wp2_with fail
            refine C2.out.mono ?_
            rintro e w2 ⟨A3, c3, rfl, ho3, hbx2⟩
            have bel2 := hbx1.trans (hbx2.mono hbx1.size)
            clear C2
            have o2 := ho2.below hbx2
            have hca := hadc.out w2 bel2
            have C3 := Lib.hid (H3.out A3 c3 w2 (hcap3.out _ _ _ (ho3.low hbx1.size)) ho3.bytes)
            clear H3 hcap3 ho2 ho3 hadc
            go_wp2_with fail
            refine C3.out.mono ?_
            rintro e w3 ⟨A4, c4, rfl, ho4, hbx3⟩
            have bel3 := bel2.trans (hbx3.mono bel2.size)
            clear C3
            go_wp2
            go_ret3
            exact TxTakePost.bad rfl bel3
        · rw [hrow] at H2 ⊢
          rw [if_pos he]
          simp only [List.length_nil, Int.natCast_zero] at H2
          have he' : ((e : Int) != 0) = true := bne_iff_ne.2 (by omega)
          have hsb : s ≤ 281474976710656 := by omega
          have Hb2 := Lib.hid hb2
          replace H1 := Lib.hid H1
          replace H2 := Lib.hid H2
          generalize Texts.total L = tl at *
          generalize cutAt (some ad) cap 1 = A1 at *
          generalize cutAt (some ad) cap (1 + s) = A1' at *
          generalize (x :: r).drop (1 + s) = d at *
          clear hnm hm2 hb hb1 hb2 hat hl hrow hg hall hP hrl hs hdl hR hc0 hm htot he
          generalize L.length = q at *
          go_enter Tryz.func13, Tryz.ntmps13
          go_wp2_with fail
          refine H1.out.mono ?_
          rintro e w1 ⟨A2, c2, rfl, ho2, hbx1⟩
          have d1 := (Hb2.out.below hbx1).wide hbx1.size
          have C2 := Lib.hid (H2.out w1 d1)
          clear H1 H2 d1 Hb2
          go_wp2_with fail
          refine C2.out.mono ?_
          rintro e w2 ⟨A3, c3, rfl, ho3, hbx2⟩
          have bel2 := hbx1.trans (hbx2.mono hbx1.size)
          clear C2
          go_wp2
          go_ret3
          exact TxTakePost.bad rfl bel2
      · exfalso
        have := (Texts.good_total hg).1
        exact he this
end Go.Proofs.YtoebeibmmclhpaaGreat

/- The document's meaning of a payload. -/
namespace Go.Proofs.YtoebeibmmclhpaaGreat
open Go.RowKit
set_option maxRecDepth 100000
set_option maxHeartbeats 1000000 in
theorem meaning_any (k : UInt8) (A : Option Addr) (n cap B : Nat) (p : List UInt8) (most : Nat) (w : World) (hl : p.length = n) (hcap : n ≤ cap) (hm : n ≤ 17592186044416) (hmost : most ≤ 100000000) (hb : Bytes w B A p) (hB : B ≤ w.heap.size) :
    Calls Tryz.prog 36 #[.int .u8 (k.toNat : Int), .slice A n cap, .int .i64 (most : Int)] w (PairPost w (Texts.meaning k p (most : Int))) := by
  have hb := hb.wide hB
  by_cases hk1 : k = 1
  · subst hk1
    have e : Texts.meaning 1 p (most : Int) = Lz.unpack p most := by unfold Texts.meaning; rw [if_pos rfl]
    rw [e]
    have H1 := lzRefUnpack_any A n cap _ p most w hl hcap (by omega) (by omega) hb (Nat.le_refl _)
    unfold UnPost at H1
    unfold PairPost
    generalize Lz.unpack p most = R at *
    replace H1 := Lib.hid H1
    clear hb hl e
    have hk : ((1 : UInt8).toNat : Int) = 1 := rfl
    rw [hk]
    clear hk
    go_enter Tryz.func36, Tryz.ntmps36
    go_wp2_with fail
    refine H1.out.mono ?_
    rintro e w1 ⟨A1, c1, rfl, ho1, hb1⟩
    clear H1
    go_wp2
    go_ret2
    exact ⟨A1, c1, rfl, ho1, hb1⟩
  · have hk1' : ((k.toNat : Int) == 1) = false := beq_eq_false_iff_ne.2 (fun e => hk1 (UInt8.toNat_inj.1 (by show k.toNat = 1; omega)))
    · have H1 := refTakeTable_any A n cap _ p w hl hcap (by omega) hb (Nat.le_refl _)
      unfold TabPost at H1
      rcases Sym.takeTable_cases p with ⟨t, s, ht, hf, hs⟩ | ht
      · rw [ht] at H1
        have e : Texts.meaning k p (most : Int) = Sym.decoded t (p.drop s) (most : Int) := by unfold Texts.meaning; rw [if_neg hk1, ht, if_neg (by simp)]
        rw [e]
        rw [hl] at hs
        obtain ⟨m, hnm⟩ : ∃ m, n = s + m := ⟨n - s, by omega⟩
        have hsl := run_cut_from A n cap s m hnm
        have hmx : ∀ x ∈ t, x.length ≤ maxLen := fun x hx => by have := (hf.2.1 x hx).2; unfold maxLen; omega
        have h32 := hf.1
        have hbd : Bytes w w.heap.size (cutAt A cap s) (p.drop s) := hb.cut (by omega) (by omega)
        have H2 := fun A1 c1 (w1 : World) (hc : t.length ≤ c1) (h1 : Strs w1 w1.heap.size A1 t) (h2 : Bytes w1 w1.heap.size (cutAt A cap s) (p.drop s)) => refDecode_any A1 (cutAt A cap s) t.length m c1 (cap - s) w1.heap.size (most : Int) t (p.drop s) w1 rfl (by omega) (by rw [List.length_drop]; omega) (by omega) (by omega) (by omega) (by omega) h1 hmx h2 (Nat.le_refl _)
        simp only [Int.natCast_zero] at H1
        generalize Sym.decoded t (p.drop s) (most : Int) = R at *
        have Hcap : Hid (∀ A1 c1 w1, SOwn w1 w.heap.size A1 t.length c1 t → t.length ≤ c1) := Lib.hid fun A1 c1 w1 ho => ho.cap
        generalize p.drop s = d at *
        generalize cutAt A cap s = A' at *
        replace H1 := Lib.hid H1
        replace H2 := Lib.hid H2
        clear hb hl e ht hf hs hnm hmx h32
        generalize t.length = q at *
        go_enter Tryz.func36, Tryz.ntmps36
        go_wp2_with fail
        refine H1.out.mono ?_
        rintro e w1 ⟨A1, c1, rfl, ho1, hb1⟩
        clear H1
        have hd1 := (hbd.below hb1).wide hb1.size
        have C2 := Lib.hid (H2.out A1 c1 w1 (Hcap.out _ _ _ ho1) ho1.row hd1)
        clear H2 hbd Hcap hd1 ho1
        go_wp2_with fail
        refine C2.out.mono ?_
        rintro e w2 ⟨A2, c2, rfl, ho2, hb2⟩
        clear C2
        go_wp2
        go_ret2
        exact ⟨A2, c2, rfl, ho2.low hb1.size, hb1.trans (hb2.mono hb1.size)⟩
      · rw [ht] at H1
        have e : Texts.meaning k p (most : Int) = ([], 2) := by unfold Texts.meaning; rw [if_neg hk1, ht, if_pos (by simp)]
        rw [e]
        replace H1 := Lib.hid H1
        clear hb hl e ht
        go_enter Tryz.func36, Tryz.ntmps36
        go_wp2_with fail
        refine H1.out.mono ?_
        rintro e w1 ⟨A1, c1, rfl, _, hb1⟩
        clear H1
        go_wp2
        go_ret2
        exact PairPost.none 2 hb1
end Go.Proofs.YtoebeibmmclhpaaGreat

/- The document's Take of lines. -/
namespace Go.Proofs.YtoebeibmmclhpaaGreat
open Go.RowKit
set_option maxRecDepth 100000
/-- 'list = append(list, p)', the length of p given -/
theorem wpList_append_list' {w : World} {ops : Array Oper} {rest : List Oper} {o : Oper} {a : Act} {Q : Exit → Act → World → Prop} (hw : Region.wanted o (yielded ops a.tmps) = true) (s x : Operand)
    (ho : o.op = .call { callee := .builtin .append, args := #[s, x], argTypes := #[23, 23] })
    (base : Nat) (A : Option Addr) (n c : Nat) (ls : List (List UInt8)) (hs : a.eval s = .slice A n c) (hown : ListOwn w base A n c ls)
    (Ap : Option Addr) (cp m : Nat) (p : List UInt8) (hm : p.length = m) (hx : a.eval x = .slice (some ⟨w.heap.size, 0, none⟩) 1 1) (hp : Own w base Ap m cp p) (hbytes : (n + 1) * 24 ≤ 140737488355328) (hbase : base ≤ w.heap.size)
    (h : ∀ A' c' w', ListOwn w' base A' (n + 1) c' (ls ++ [p]) → Below base w w' → wpList Tryz.prog ops Q rest (a.put o.dst (.slice A' (n + 1) c')) w') :
    wpList Tryz.prog ops Q (o :: rest) a (w.alloc (.cells #[.slice Ap m cp] 22)) := by
  subst hm
  exact wpList_append_list hw s x ho base A n c ls hs hown Ap cp p hx hp hbytes hbase h
/-- what is taken, by the cases of its parts -/
theorem Texts.take_parts (x : UInt8) (r : List UInt8) (hk : x = 1 ∨ x = 2) (L : List UInt64) (s : Nat) (hR : Pfor.takeList r 16 = (L, s, 0)) :
    (Texts.good (L, s, 0) = false → Texts.take (x :: r) = ([], 0, 2)) ∧
    (Texts.good (L, s, 0) = true → ∀ p kz e, Num.takeRow ((x :: r).drop (1 + s)) ((x :: r).length : Int) = (p, kz, e) →
      (e ≠ 0 → Texts.take (x :: r) = ([], 0, 2)) ∧
      (e = 0 → ∀ t f, Texts.meaning x p (Texts.total L : Int) = (t, f) → (f ≠ 0 ∨ t.length ≠ Texts.total L → Texts.take (x :: r) = ([], 0, 2)) ∧ (f = 0 → t.length = Texts.total L → Texts.take (x :: r) = (Texts.cut t L, 1 + s + kz, 0)))) := by
  have hn : ¬ (x ≠ 1 ∧ x ≠ 2) := by rcases hk with rfl | rfl <;> simp
  refine ⟨fun hg => ?_, fun hg p kz e hP => ⟨fun he => ?_, fun he t f hT => ⟨fun hf => ?_, fun hf ht => ?_⟩⟩⟩
  · unfold Texts.take; simp only [if_neg hn, hR, hg, if_true]
  · unfold Texts.take; simp only [if_neg hn, hR, hg, hP, Bool.true_eq_false, if_false]
    rw [if_pos he]
  · unfold Texts.take; simp only [if_neg hn, hR, hg, hP, hT, Bool.true_eq_false, if_false]
    subst he
    rw [if_neg (by simp)]
    rw [if_pos hf]
  · unfold Texts.take; simp only [if_neg hn, hR, hg, hP, hT, Bool.true_eq_false, if_false]
    subst he hf
    rw [if_neg (by simp), if_neg (by simp [ht])]
theorem Texts.take_off (x : UInt8) (r : List UInt8) (e : Nat) (hR : Pfor.takeList r 16 = ([], 0, e)) : Texts.take (x :: r) = ([], 0, 2) := by
  unfold Texts.take
  simp only [hR]
  split
  · rfl
  · rw [if_pos (by unfold Texts.good; simp)]
theorem Texts.take_kind (x : UInt8) (r : List UInt8) (h1 : x ≠ 1) (h2 : x ≠ 2) : Texts.take (x :: r) = ([], 0, 2) := by
  unfold Texts.take
  simp only [if_pos (show x ≠ 1 ∧ x ≠ 2 from ⟨h1, h2⟩)]
set_option maxHeartbeats 8000000 in
theorem txRefTake_any (A : Option Addr) (n cap : Nat) (b : List UInt8) (w : World) (hl : b.length = n) (hcap : n ≤ cap) (hm : n ≤ 5000) (hb : Bytes w w.heap.size A b) :
    Calls Tryz.prog 14 #[.slice A n cap] w (TxTakePost w (Texts.take b)) := by
  rcases b with _ | ⟨x, r⟩
  · obtain rfl : 0 = n := hl
    clear hb
    go_enter Tryz.func14, Tryz.ntmps14
    go_wp2
    go_ret3
    exact TxTakePost.bad rfl (Below.refl _ _)
  · obtain ⟨ad, rfl, hadb, hat⟩ := hb (by simp)
    have hc0 : w.cell? ad = some (.int .u8 (x.toNat : Int)) := by
      have := hat 0 (by simp)
      rw [show ad.add 0 = ad from by unfold Addr.add; simp] at this
      exact this
    obtain ⟨m, hnm⟩ : ∃ m, n = 1 + m := ⟨n - 1, by simp at hl; omega⟩
    have hrl : r.length = m := by simp at hl; omega
    have hn1 : (0 : Int) < (n : Int) := by omega
    have hn0 : ((n : Int) == 0) = false := beq_eq_false_iff_ne.2 (by omega)
    have hx1 : ((x.toNat : Int) != 1) = decide (x ≠ 1) := by
      by_cases h : x = 1
      · subst h; rfl
      · rw [decide_eq_true h]; exact bne_iff_ne.2 (fun e => h (UInt8.toNat_inj.1 (by show x.toNat = 1; omega)))
    have hx2 : ((x.toNat : Int) != 2) = decide (x ≠ 2) := by
      by_cases h : x = 2
      · subst h; rfl
      · rw [decide_eq_true h]; exact bne_iff_ne.2 (fun e => h (UInt8.toNat_inj.1 (by show x.toNat = 2; omega)))
    by_cases hk : x = 1 ∨ x = 2
    · have hs1 := run_cut_from (some ad) n cap 1 m hnm
      rw [show ((1 : Nat) : Int) = 1 from rfl] at hs1
      have hb1 : Bytes w w.heap.size (cutAt (some ad) cap 1) r := by
        have := hb.cut (k := 1) (cap := cap) (by simp) (by rw [hl]; omega)
        simpa using this
      have H1 := refTakeList_any (cutAt (some ad) cap 1) m (cap - 1) _ r 16 w hrl (by omega) (by omega) hb1 (Nat.le_refl _) (by omega)
      unfold TakesPost at H1
      have hcs := Pfor.takeList_cases r
      have hkk : ((x.toNat : Int) != 1) = false ∨ ((x.toNat : Int) != 1) = true ∧ ((x.toNat : Int) != 2) = false := by
        rcases hk with rfl | rfl
        · exact .inl rfl
        · exact .inr ⟨rfl, rfl⟩
      rcases hcs with ⟨L, s, hR, hL16, hs⟩ | ⟨e, hR, he⟩
      · obtain ⟨T0, T1⟩ := Texts.take_parts x r hk L s hR
        have HT0 := Lib.hid T0
        have HT1 := Lib.hid T1
        rw [hR] at H1
        generalize Texts.take (x :: r) = TK at *
        rw [hrl] at hs
        simp only [Int.natCast_zero] at H1
        have hbd := Lib.hid hb
        by_cases h0 : L = []
        · subst h0
          have hTK := HT0.out rfl
          rw [hTK]
          simp only [List.length_nil] at H1
          replace H1 := Lib.hid H1
          clear HT0 HT1 hb hbd hb1 hat hl hR hrl hnm hm hTK hx1 hx2 hk hs
          generalize cutAt (some ad) cap 1 = A1 at *
          generalize (x.toNat : Int) = z at *
          rcases hkk with hkk | ⟨hka, hkb⟩
          all_goals
            go_enter Tryz.func14, Tryz.ntmps14
            go_wp2_with fail
            refine H1.out.mono ?_
            rintro e w1 ⟨A2, c2, rfl, _, hbx⟩
            go_wp2
            go_ret3
            exact TxTakePost.bad rfl hbx
        · have hpos : 0 < L.length := List.length_pos_iff.2 h0
          have Hbadk : Hid (∀ y ∈ L, 65536 < y.toNat → TK = ([], 0, 2)) := Lib.hid fun y hy hb => HT0.out (by
            rcases hg : Texts.good (L, s, 0) with _ | _
            · rfl
            · have := (Texts.good_total hg).2.2 y hy
              omega)
          have Hgood : Hid ((∀ y ∈ L, y.toNat ≤ 65536) → Texts.good (L, s, 0) = true) := Lib.hid fun hall => by
            unfold Texts.good
            rw [Bool.and_eq_true, Bool.and_eq_true]
            exact ⟨⟨rfl, bne_iff_ne.2 (by simp only; omega)⟩, List.all_eq_true.2 fun n hn => decide_eq_true (hall n hn)⟩
          obtain ⟨m2, hm2⟩ : ∃ m2, n = 1 + s + m2 := ⟨n - (1 + s), by omega⟩
          have hs2 := run_cut_from (some ad) n cap (1 + s) m2 hm2
          rw [show ((1 + s : Nat) : Int) = 1 + (s : Int) from by omega] at hs2
          have hb2 : Bytes w w.heap.size (cutAt (some ad) cap (1 + s)) ((x :: r).drop (1 + s)) := hb.cut (by rw [hl]; omega) (by rw [hl]; omega)
          have hdl : ((x :: r).drop (1 + s)).length = m2 := by rw [List.length_drop, hl]; omega
          have H2 := fun (w1 : World) (h : Bytes w1 w1.heap.size (cutAt (some ad) cap (1 + s)) ((x :: r).drop (1 + s))) => refTakeRow_any (cutAt (some ad) cap (1 + s)) m2 (cap - (1 + s)) w1.heap.size _ (n : Int) w1 hdl (by omega) (by omega) h (Nat.le_refl _) (by omega) (by omega)
          unfold RowPost at H2
          have Hdl := Lib.hid hdl
          have Hb2 := Lib.hid hb2
          have hadc : Hid (∀ w1, Below w.heap.size w w1 → w1.cell? ad = some (.int .u8 (x.toNat : Int))) := Lib.hid fun w1 h => (h.cell (p := ad) hadb).trans hc0
          have H3 := Lib.hid fun (A3 : Option Addr) (c3 pn : Nat) (p : List UInt8) (w1 : World) (hp : p.length = pn) (hb : pn ≤ 5000) (ht : Texts.total L ≤ 1048576) (hc : pn ≤ c3) (h : Bytes w1 w1.heap.size A3 p) => meaning_any x A3 pn c3 w1.heap.size p (Texts.total L) w1 hp hc (by omega) (by omega) h (Nat.le_refl _)
          rw [hl] at HT1
          have hm2n : m2 ≤ 5000 := by omega
          have hsb : s ≤ 5000 := by omega
          replace H1 := Lib.hid H1
          replace H2 := Lib.hid H2
          obtain ⟨q, hq⟩ : ∃ q, L.length = q := ⟨_, rfl⟩
          rw [hq] at H1 hpos hL16
          have Hq := Lib.hid hq
          have hq0 : ((q : Int) == 0) = false := beq_eq_false_iff_ne.2 (by omega)
          clear HT0 hb hbd hb1 hb2 hat hl hR hrl hnm hm hm2 hx1 hx2 hk hs hdl h0 hq
          generalize cutAt (some ad) cap 1 = A1 at *
          generalize cutAt (some ad) cap (1 + s) = A1' at *
          generalize (x :: r).drop (1 + s) = d at *
          generalize hz : (x.toNat : Int) = z at *
          rcases hkk with hkk | ⟨hka, hkb⟩
          all_goals
            clear hz
            go_enter Tryz.func14, Tryz.ntmps14
            go_wp2_with fail
            refine H1.out.mono ?_
            rintro e w1 ⟨A2, c2, rfl, ho1, hbx⟩
            have Hob := Lib.hid hbx
            clear H1 hbx
            go_wp2
            go_loopw [8, 9] (fun t i wr => ∃ k : Nat, k ≤ q ∧ i = .int .i64 k ∧ t = .int .i64 ((Texts.total (L.take k) : Nat) : Int) ∧ (∀ n ∈ L.take k, n.toNat ≤ 65536) ∧ w1 = wr) (fun _ i _ => q - (intOf i).toNat)
            case atStart => exact ⟨0, Nat.zero_le _, rfl, by simp [Texts.total], by simp, rfl⟩
            case round =>
              obtain ⟨k, hk, rfl, rfl, hall, rfl⟩ := hrel
              have htl := Texts.total_le (L.take k) hall
              have hlk := List.length_take_le k L
              by_cases hlt : k < q
              · have hk' : k < L.length := by have := Hq.out; omega
                obtain ⟨ad2, rfl, _, hcell⟩ := ho1.row.get hk'
                simp only [uval] at hcell
                have htk := Texts.total_take hk'
                have hmem := List.getElem_mem hk'
                have hsn := List.take_succ_eq_append_getElem hk'
                have hbk := Lib.hid (Hbadk.out L[k] hmem)
                generalize L[k] = y at *
                have Htk := Lib.hid htk
                have Hall : Hid (y.toNat ≤ 65536 → ∀ n ∈ L.take (k + 1), n.toNat ≤ 65536) := Lib.hid fun hx n hn => by
                  rw [hsn] at hn
                  rcases List.mem_append.1 hn with h | h
                  · exact hall n h
                  · rw [List.mem_singleton] at h; rw [h]; exact hx
                clear htk hsn hall hmem H2 H3 HT1 Hb2 hadc
                have i1 : (k : Int) < (q : Int) := by omega
                have i0 : (0 : Int) ≤ (k : Int) := by omega
                generalize Texts.total (L.take k) = T at *
                generalize y.toNat = v at *
                by_cases hbig : 65536 < v
                · have hbi : (65536 : Int) < (v : Int) := by omega
                  have HR := Lib.hid (TxTakePost.bad (hbk.out hbig) Hob.out)
                  go_wp2
                  go_ret3
                  exact HR.out
                · have hbi : ¬ ((65536 : Int) < (v : Int)) := by omega
                  have v0 : (0 : Int) ≤ (v : Int) := by omega
                  go_wp2
                  go_roundw
                  case rel => exact ⟨k + 1, by omega, by go_num, by rw [Htk.out]; go_num, Hall.out (by omega), trivial⟩
                  case measure => simp [intOf]; omega
              · obtain rfl : k = q := by omega
                rw [List.take_of_length_le (by rw [Hq.out]; exact Nat.le_refl _)] at hall htl ⊢
                have ht : Texts.total L ≤ 1048576 := by have := Hq.out; omega
                have P1 := HT1.out (Hgood.out hall)
                have d1 := (Hb2.out.below Hob.out).wide Hob.out.size
                have C2 := H2.out w1 d1
                clear H2 d1 hall htl hlk HT1 Hgood Hbadk Hb2
                rcases Num.takeRow_cases2 d (n : Int) with ⟨p, kz, hrow, hpl, hkl⟩ | ⟨e, hrow, he⟩
                · have P2 := (P1 p kz 0 hrow).2 rfl
                  rw [hrow] at C2
                  simp only [Int.natCast_zero] at C2
                  rw [Hdl.out] at hpl hkl
                  have hp5 : p.length ≤ 5000 := by omega
                  have hk5 : kz ≤ 5000 := by omega
                  have M1 := fun (A3 : Option Addr) (c3 : Nat) (w1 : World) hc h => H3.out A3 c3 p.length p w1 rfl hp5 ht hc h
                  unfold PairPost at M1
                  obtain ⟨tx, f, hT⟩ : ∃ tx f, Texts.meaning x p (Texts.total L : Int) = (tx, f) := ⟨_, _, rfl⟩
                  have P3 := P2 tx f hT
                  rw [hT] at M1
                  simp only at M1
                  have hcap3 : Hid (∀ A c w1, Own w1 w.heap.size A p.length c p → p.length ≤ c) := Lib.hid fun A c w1 ho => ho.cap
                  replace C2 := Lib.hid C2
                  replace M1 := Lib.hid M1
                  have P3a := Lib.hid P3.1
                  have P3b := Lib.hid P3.2
                  clear P1 P2 P3 H3 hT hrow hpl hkl hp5
                  generalize p.length = pn at *
                  go_wp2_with fail
                  refine C2.out.mono ?_
                  rintro e w2 ⟨A3, c3, rfl, ho3, hbx2⟩
                  have bel2 := Hob.out.trans (hbx2.mono Hob.out.size)
                  have o2 := ho1.below hbx2
                  have hca := hadc.out w2 bel2
                  have C3 := Lib.hid (M1.out A3 c3 w2 (hcap3.out _ _ _ (ho3.low Hob.out.size)) ho3.bytes)
                  clear C2 M1 hcap3 ho3 hadc hbx2 ho1
                  go_wp2_with fail
                  refine C3.out.mono ?_
                  rintro e w3 ⟨A4, c4, rfl, ho4, hbx3⟩
                  have bel3 := bel2.trans (hbx3.mono bel2.size)
                  have o3 := o2.below hbx3
                  clear C3 hbx3 bel2 o2
                  obtain ⟨y, hy⟩ : ∃ y, tx.length = y := ⟨_, rfl⟩
                  rw [hy] at ho4 P3a P3b
                  have Hy := Lib.hid hy
                  rw [hy]
                  by_cases hok : f = 0 ∧ y = Texts.total L
                  · obtain ⟨hf, hyt⟩ := hok
                    have hTK := Lib.hid (P3b.out hf hyt)
                    have Hyt := Lib.hid hyt
                    subst hf
                    have hyy : ((y : Int) != ((Texts.total L : Nat) : Int)) = false := by rw [hyt]; simp
                    have hc4 : y ≤ c4 := ho4.cap
                    clear P3a P3b hy hyt
                    have hy5 : y ≤ 1048576 := by have := Hyt.out; omega
                    have HT' := Lib.hid (fun j => (Hyt.out ▸ Texts.total_take_le L j : Texts.total (L.take j) ≤ y))
                    have HCL := Lib.hid ((Texts.cut_length tx L).trans Hq.out)
                    have hL := o3.row
                    have hx4 := ho4.bytes
                    have hw3 := bel3.size
                    have hca' := hca
                    clear hca hca'
                    go_wp2
                    go_loopw [12, 13, 14] (fun s12 s13 i wr => ∃ (j : Nat) (At Al : Option Addr) (mm ct cl : Nat), j ≤ k ∧ i = .int .i64 j ∧ s12 = .slice At mm ct ∧ s13 = .slice Al j cl ∧ mm ≤ ct ∧ y = Texts.total (L.take j) + mm ∧ Bytes wr w3.heap.size At (tx.drop (Texts.total (L.take j))) ∧ ListOwn wr w3.heap.size Al j cl ((Texts.cut tx L).take j) ∧ Below w3.heap.size w3 wr) (fun _ _ i _ => k - (intOf i).toNat)
                    case atStart => exact ⟨0, A4, none, y, c4, 0, Nat.zero_le _, rfl, rfl, rfl, hc4, by simp [Texts.total], by simpa [Texts.total] using hx4, ListOwn.nil _ _, Below.refl _ _⟩
                    case round =>
                      obtain ⟨j, At, Al, mm, ct, cl, hj, rfl, rfl, rfl, hct, hym, hbt, hlo, hbw⟩ := hrel
                      by_cases hjl : j < k
                      · have hj' : j < L.length := by have := Hq.out; omega
                        obtain ⟨ad2, rfl, hadl, hcell⟩ := (hL.below hbw).get hj'
                        have hcw : w3.cell? (ad2.add j) = some (.int .u64 ((L[j].toNat : Nat) : Int)) := by
                          obtain ⟨ad3, e3, _, h3⟩ := hL.get hj'
                          injection e3 with e3
                          rw [e3]
                          exact h3
                        simp only [uval] at hcell
                        have htk := Texts.total_take hj'
                        have htn := HT'.out (j + 1)
                        have hcg := Texts.cut_get tx L j hj'
                        have hcl : j < (Texts.cut tx L).length := by rw [Texts.cut_length]; exact hj'
                        have hts := List.take_succ_eq_append_getElem hcl
                        rw [hcg] at hts
                        rw [htk] at htn
                        have Htk := Lib.hid htk
                        have Hts := Lib.hid hts
                        generalize L[j].toNat = z at *
                        have hlen : ((tx.drop (Texts.total (L.take j))).take z).length = z := by rw [List.length_take, List.length_drop, Hy.out]; omega
                        obtain ⟨m', hm'⟩ : ∃ m', mm = z + m' := ⟨mm - z, by omega⟩
                        have hs3 := run_cut_h64 At mm ct z (by omega)
                        have hs4 := run_cut_l64 At mm ct z m' hm'
                        have hwr := hbw.size
                        have HC : Hid (∀ w', Bytes w' w3.heap.size At (tx.drop (Texts.total (L.take j))) → Bytes w' w3.heap.size (cutAt At ct z) (tx.drop (Texts.total (L.take j) + z))) := Lib.hid fun w' h => by
                          have := h.cut (k := z) (cap := ct) (by rw [List.length_drop, Hy.out]; omega) (by rw [List.length_drop, Hy.out]; omega)
                          rwa [List.drop_drop] at this
                        have HX := Lib.hid hlen
                        have hbx := (hbt.take z)
                        have Hym := Lib.hid (show y = Texts.total (L.take j) + z + m' by omega)
                        have hct' : m' ≤ ct - z := by omega
                        have hadl3 : (ad2.add j).block < w3.heap.size := by rw [addr_add_block]; exact World.block_lt_of_cell? w3 _ hcw |> fun h => by rwa [addr_add_block] at h
                        generalize tx.drop (Texts.total (L.take j)) = dd at *
                        generalize Texts.total (L.take j) = T at *
                        generalize dd.take z = X at *
                        have E0 : Own (wr.alloc (.cells #[] 5)) wr.heap.size (some ⟨wr.heap.size, 0, none⟩) 0 0 [] := own_made wr wr.heap.size #[] 0 (Nat.le_refl _) (by simp only [maxLen]; omega) rfl
                        have hb0 : Below wr.heap.size wr (wr.alloc (.cells #[] 5)) := (Below.refl _ _).alloc (Nat.le_refl _) _
                        have hbx0 := (hbx.wide hwr).below hb0
                        have hcell0 := (hb0.cell (p := ad2.add j) (Nat.lt_of_lt_of_le hadl3 hwr)).trans hcell
                        have hz5 : z ≤ 1048576 := by omega
                        clear hlen hcg hcl hts htk htn hym hbx
                        have i1 : (j : Int) < (k : Int) := by omega
                        have i0 : (0 : Int) ≤ (j : Int) := by omega
                        have z0 : (0 : Int) ≤ (z : Int) := by omega
                        go_wp2_with (first | (at_builtin; refine wpList_append_bytes rfl (.tmp 99) (.tmp 105) rfl wr.heap.size _ 0 0 [] rfl E0 _ At z ct X rfl HX.out hbx0 (by omega) (by simp) ?_; intro A6 c6 w6 ho6 hg6 hat6; rw [Nat.zero_add, List.nil_append] at ho6; have hb6 := hb0.grown hg6 (by simp) (by intro k hk; simp [blk] at hk; omega); have lo6 := hlo.below hb6; have hw6 := hb6.size; clear E0 hb0 hbx0 hg6 hat6 hlo hcell0) | (at_builtin; refine wpList_append_list' rfl (.tmp 98) (.tmp 107) rfl w3.heap.size Al j cl _ rfl lo6 A6 c6 z X HX.out rfl (ho6.low hwr) (by omega) (by omega) ?_; intro A7 c7 w7 ho7 hb7; have hb37 := Below.trans (hb6.mono hwr) hb7; have hbw7 := hbw.trans hb37; have hbt7 := Lib.hid (HC.out _ (hbt.below hb37)); have hcell7 := (hbw7.cell hadl3).trans hcw; have Hbw7 := Lib.hid hbw7; clear lo6 ho6 hb6 hb7 hb37 hbt hbw hbw7 hcell HC))
                        go_roundw
                        case rel => exact ⟨j + 1, cutAt At ct z, A7, m', ct - z, c7, by omega, by go_num, rfl, rfl, hct', by rw [Htk.out]; exact Hym.out, by rw [Htk.out]; exact hbt7.out, by rw [Hts.out]; exact ho7, Hbw7.out⟩
                        case measure => simp [intOf]; omega
                      · obtain rfl : j = k := by omega
                        rw [List.take_of_length_le (by rw [HCL.out]; exact Nat.le_refl _)] at hlo
                        have lo := hlo.low hw3
                        have bel := bel3.trans (hbw.mono hw3)
                        clear hlo hbw hbt hym
                        go_wp2
                        go_ret3
                        refine ⟨Al, cl, ?_, ?_, bel⟩
                        · rw [hTK.out]; simp only [HCL.out]; rfl
                        · rw [hTK.out]; simp only [HCL.out]; exact lo
                  · have hTK := P3a.out (by
                      by_cases hf : f = 0
                      · exact .inr (fun e => hok ⟨hf, e⟩)
                      · exact .inl hf)
                    have HR := Lib.hid (TxTakePost.bad hTK bel3)
                    clear P3a P3b hTK hy
                    by_cases hf : f = 0
                    · subst hf
                      have hyy : ((y : Int) != ((Texts.total L : Nat) : Int)) = true := bne_iff_ne.2 (fun e => hok ⟨rfl, by omega⟩)
                      clear hok
                      go_wp2
                      go_ret3
                      exact HR.out
                    · have hff : ((f : Int) != 0) = true := bne_iff_ne.2 (by omega)
                      clear hok
                      go_wp2
                      go_ret3
                      exact HR.out
                · have hTK := (P1 [] 0 e hrow).1 he
                  rw [hrow] at C2
                  simp only [List.length_nil, Int.natCast_zero] at C2
                  have he' : ((e : Int) != 0) = true := bne_iff_ne.2 (by omega)
                  have HB := Lib.hid fun w' hb => TxTakePost.bad (w := w) (w' := w') hTK hb
                  replace C2 := Lib.hid C2
                  clear P1 H3 hrow hTK he hadc
                  go_wp2_with fail
                  refine C2.out.mono ?_
                  rintro e w2 ⟨A3, c3, rfl, _, hbx2⟩
                  have bel2 := Hob.out.trans (hbx2.mono Hob.out.size)
                  go_wp2
                  go_ret3
                  exact HB.out _ bel2
      · rw [hR] at H1
        have hTK := Texts.take_off x r e hR
        rw [hTK]
        simp only [List.length_nil, Int.natCast_zero] at H1
        have he' : ((e : Int) != 0) = true := bne_iff_ne.2 (by omega)
        replace H1 := Lib.hid H1
        clear hb hb1 hat hl hR hrl hnm hm hTK hx1 hx2 he hk
        generalize cutAt (some ad) cap 1 = A1 at *
        generalize (x.toNat : Int) = z at *
        rcases hkk with hkk | ⟨hka, hkb⟩
        all_goals
          go_enter Tryz.func14, Tryz.ntmps14
          go_wp2_with fail
          refine H1.out.mono ?_
          rintro e w1 ⟨A2, c2, rfl, _, hbx⟩
          go_wp2
          go_ret3
          exact TxTakePost.bad rfl hbx
    · have h1 : x ≠ 1 := fun h => hk (.inl h)
      have h2 : x ≠ 2 := fun h => hk (.inr h)
      rw [Texts.take_kind x r h1 h2]
      rw [decide_eq_true h1] at hx1
      rw [decide_eq_true h2] at hx2
      clear hb hat hl hrl hnm hm hk h1 h2
      generalize (x.toNat : Int) = z at *
      go_enter Tryz.func14, Tryz.ntmps14
      go_wp2
      go_ret3
      exact TxTakePost.bad rfl (Below.refl _ _)
end Go.Proofs.YtoebeibmmclhpaaGreat

/- A byte of a line in a list of one's own, turned. -/
namespace Go.Proofs.YtoebeibmmclhpaaGreat
open Go.ChangeShapes Go.WideShapes Go.ChangeAt Go.RowKit
set_option maxRecDepth 100000
theorem xor_fin : ∀ n : Fin 256, bits .xor .u8 ((n.val : Nat) : Int) 255 = ((255 - n.val : Nat) : Int) := by decide +kernel
theorem xor_byte (v : UInt8) : bits .xor .u8 ((v.toNat : Nat) : Int) 255 = ((255 - v.toNat : Nat) : Int) := xor_fin ⟨v.toNat, v.toNat_lt⟩
theorem bval_turn (v : UInt8) : bval (UInt8.ofNat (255 - v.toNat)) = .int .u8 (bits .xor .u8 ((v.toNat : Nat) : Int) 255) := by
  rw [xor_byte, bval_small (by have := v.toNat_lt; omega)]
/-- a row of bytes when a byte of another row, or its own, is stored -/
theorem own_poke {w : World} {base g ni ci nk ck : Nat} {Ak : Option Addr} {li lk : List UInt8} (hi : Own w base (some ⟨g, 0, none⟩) ni ci li) (hk : Own w base Ak nk ck lk) (j : Nat) (u : UInt8) :
    ∃ x : List UInt8, x.length = lk.length ∧ Own (w.setCell ⟨g, j, none⟩ (bval u)) base Ak nk ck x := by
  have hg := (World.ownsRow.stored hi j (bval u)).2
  rcases hA : blk Ak with _ | g'
  · exact ⟨lk, rfl, hk.kept hg (.inl hA)⟩
  · by_cases e : g' = g
    · subst e
      rcases hk.2 with ⟨hv, _⟩ | ⟨g2, cap, cur, hv, _⟩
      · injection hv with h1
        subst h1
        cases hA
      · injection hv with h1
        subst h1
        injection hA with hA
        have hA' : g2 = g' := hA
        subst hA'
        exact ⟨lk.set j u, by simp, Own.store hk j u⟩
    · exact ⟨lk, rfl, hk.kept hg (.inr (by rw [hA]; intro h; injection h with h; exact e h))⟩
theorem list_of {α : Type} {n : Nat} {P : (i : Nat) → i < n → α → Prop} (h : ∀ i (hi : i < n), ∃ x, P i hi x) : ∃ l : List α, ∃ hl : l.length = n, ∀ i (hi : i < n), P i hi (l[i]'(by omega)) := by
  have hc : ∀ i : Fin n, ∃ x, P i.val i.isLt x := fun i => h i.val i.isLt
  refine ⟨List.ofFn fun i : Fin n => Classical.choose (hc i), by simp, fun i hi => ?_⟩
  rw [List.getElem_ofFn]
  exact Classical.choose_spec (hc ⟨i, hi⟩)
/-- a list of one's own when a byte of one of its lines is stored -/
theorem ListOwn.poke {w : World} {base n c : Nat} {A : Option Addr} {ls : List (List UInt8)} (h : ListOwn w base A n c ls) {i j : Nat} (hi : i < ls.length) (hj : j < ls[i].length) :
    ∃ (gl g : Nat) (ci : Nat) (v : UInt8), A = some ⟨gl, 0, none⟩ ∧ w.cell? ⟨gl, i, none⟩ = some (.slice (some ⟨g, 0, none⟩) ls[i].length ci) ∧ w.cell? ⟨g, j, none⟩ = some (.int .u8 ((v.toNat : Nat) : Int)) ∧ w.frozen? ⟨g, j, none⟩ = false ∧ base ≤ g ∧
      ∀ u : UInt8, ∃ ls' : List (List UInt8), ls'.map List.length = ls.map List.length ∧ ListOwn (w.setCell ⟨g, j, none⟩ (bval u)) base A n c ls' := by
  obtain ⟨vs, h1, h2, h3⟩ := h
  obtain ⟨Ai, ci, e1, e2⟩ := h3 i hi
  obtain ⟨g, rfl, hg1, hg2⟩ := e2.at_ (by omega)
  obtain ⟨gl, capl, hv, _, _⟩ := h1.form (by omega)
  injection hv with hv
  subst hv
  refine ⟨gl, g, ci, (ls[i])[j], rfl, (World.ownsRow.cellAt h1 i (by omega)).trans e1, e2.cell hj, e2.free j, hg1, fun u => ?_⟩
  have hgr := (World.ownsRow.stored e2 j (bval u)).2
  have hrow : (w.setCell ⟨g, j, none⟩ (bval u)).ownsRow base 22 1 (.slice (some ⟨gl, 0, none⟩) n c) n vs := by
    refine World.ownsRow.kept h1 hgr ?_
    have := rows_apart h1 e2 (by decide)
    rwa [ownBlock_eq] at this ⊢
  obtain ⟨ls', hl', hp⟩ := list_of (n := ls.length) (P := fun k hk x => x.length = ls[k].length ∧ ∃ Ak ck, vs[k]? = some (.slice Ak ls[k].length ck) ∧ Own (w.setCell ⟨g, j, none⟩ (bval u)) base Ak ls[k].length ck x) (fun k hk => by
    obtain ⟨Ak, ck, f1, f2⟩ := h3 k hk
    obtain ⟨x, hx, ho⟩ := own_poke e2 f2 j u
    exact ⟨x, hx, Ak, ck, f1, ho⟩)
  refine ⟨ls', List.ext_getElem (by simp [hl']) (fun k k1 k2 => ?_), vs, hrow, by omega, fun k hk => ?_⟩
  · rw [List.getElem_map, List.getElem_map]
    exact (hp k (by simpa using k2)).1
  · obtain ⟨hx, Ak, ck, f1, f2⟩ := hp k (by omega)
    rw [hx]
    exact ⟨Ak, ck, f1, f2⟩
end Go.Proofs.YtoebeibmmclhpaaGreat

/- Two lists of byte slices compared. -/
namespace Go.Proofs.YtoebeibmmclhpaaGreat
open Go.RowKit
set_option maxRecDepth 100000
set_option maxHeartbeats 400000 in
theorem lists_same (A1 A2 : Option Addr) (n c1 c2 B1 B2 : Nat) (ls : List (List UInt8)) (w : World) (hl : ls.length = n) (hn : n ≤ 140737488355328) (h1 : Lists w B1 A1 ls) (h2 : Lists w B2 A2 ls) :
    Calls Tryz.prog 15 #[.slice A1 n c1, .slice A2 n c2] w fun e w' => e = .returned (.bool true) ∧ Drawn w w' := by
  have Hl := Lib.hid hl; clear hl
  have hnn : ((n : Int) != (n : Int)) = false := by simp
  go_enter Tryz.func15, Tryz.ntmps15
  go_wp2
  go_loopw [5] (fun i wr => ∃ (k : Nat), k ≤ n ∧ i = .int .i64 k ∧ Lists wr B1 A1 ls ∧ Lists wr B2 A2 ls ∧ Drawn w wr) (fun i _ => n - (intOf i).toNat)
  case atStart => exact ⟨0, Nat.zero_le _, rfl, h1, h2, 0, rfl⟩
  case round =>
    clear h1 h2
    obtain ⟨k, hk, rfl, h1, h2, hd⟩ := hrel
    by_cases hlt : k < n
    · have hk' : k < ls.length := by have := Hl.out; omega
      obtain ⟨ad1, Ai1, ci1, rfl, _, hc1, hb1⟩ := h1.at_ hk'
      obtain ⟨ad2, Ai2, ci2, rfl, _, hc2, hb2⟩ := h2.at_ hk'
      have hS := fun q => Lib.hid (same_any Ai1 Ai2 ls[k].length ls[k].length ci1 ci2 B1 B2 ls[k] ls[k] (wr.drewN q) rfl rfl (hb1.drewN q) (hb2.drewN q))
      rw [beq_self_eq_true] at hS
      generalize ls[k].length = m at hc1 hc2 hS
      clear hb1 hb2
      have i1 : (k : Int) < (n : Int) := by omega
      have i0 : (0 : Int) ≤ (k : Int) := by omega
      go_wp2_with fail
      go_quiet ((go_at_call 11; exact quiet_left (hS _).out))
      go_wp2
      go_roundw
      case rel => exact ⟨k + 1, by omega, by go_num, h1, h2, hd.drewN _⟩
      case measure => simp [intOf]; omega
    · go_wp2
      go_ret
      exact ⟨rfl, hd⟩
end Go.Proofs.YtoebeibmmclhpaaGreat

/- What is put is taken, on lists. -/
namespace Go.Proofs.YtoebeibmmclhpaaGreat
theorem Texts.takeList_back (l : List UInt64) (t : List UInt8) (hl : l.length ≤ 16) : Pfor.takeList (Pfor.list l ++ t) 16 = (l, (Pfor.list l).length, 0) := by
  unfold Pfor.takeList
  rw [if_neg (by omega), Pfor.list, List.append_assoc, Num.take_num (by omega)]
  simp only [ne_eq, not_true, if_false]
  rw [if_neg (by omega), Pfor.takeBlocks_blocks _ l [] _ t (by rw [List.drop_left' (Num.num_length _)]), List.nil_append, List.length_append, Num.num_length]
theorem Texts.takeRow_back (s t : List UInt8) (most : Nat) (hs : s.length < 18446744073709551616) (h : s.length ≤ most) : Num.takeRow (Num.row s ++ t) (most : Int) = (s, (Num.row s).length, 0) := by
  have ht : Num.take (Num.row s ++ t) = (s.length, Num.size s.length, 0) := by
    unfold Num.row
    rw [List.append_assoc]
    exact Num.take_num hs _
  have hl := Num.row_length s
  have hnl := Num.num_length s.length
  rw [Sym.takeRow_eq (by omega) ht, if_neg (by omega), if_neg (by rw [List.length_append]; omega), hl]
  have e : ((Num.row s ++ t).drop (Num.size s.length)).take s.length = s := by
    unfold Num.row
    rw [List.append_assoc, List.drop_left' hnl, List.take_left' rfl]
  rw [e]
theorem Texts.meaning_back (ls : List (List UInt8)) : Texts.meaning (Texts.kind ls) (Texts.payload ls) (ls.flatten.length : Int) = (ls.flatten, 0) := by
  unfold Texts.kind Texts.payload
  split
  · have hf := Texts.tab_formed ls
    have hb := Sym.takeTable_back hf (Sym.encode (Texts.tab ls) ls.flatten)
    unfold Texts.meaning
    rw [if_neg (by decide)]
    unfold Texts.coded
    rw [hb]
    simp only [ne_eq, not_true, if_false]
    rw [List.drop_left' rfl]
    unfold Sym.decoded
    rw [if_pos ⟨hf, by omega⟩, Sym.decode_encode hf _ _ ls.flatten [] rfl (by simp)]
    rfl
  · unfold Texts.meaning
    rw [if_pos rfl]
    unfold Texts.packed
    rw [Lz.unpack_packed, if_neg (by omega), if_pos (Int.le_refl _)]
theorem Texts.payload_back (ls : List (List UInt8)) (more : List UInt8) (h : Texts.right ls = 0) : Num.takeRow ((Texts.bytes ls ++ more).drop (1 + (Pfor.takeList (Pfor.list (Texts.lens ls) ++ Num.row (Texts.payload ls) ++ more) 16).2.1)) ((Texts.bytes ls ++ more).length : Int) = (Texts.payload ls, (Num.row (Texts.payload ls)).length, 0) := by
  have hok := Texts.right_lines h
  have hfl := Texts.flatten_le ls h
  have hpl := Texts.payload_length ls
  rw [List.append_assoc, Texts.takeList_back _ _ (by rw [Texts.lens_length]; omega)]
  simp only
  have e : (Texts.bytes ls ++ more).drop (1 + (Pfor.list (Texts.lens ls)).length) = Num.row (Texts.payload ls) ++ more := by
    unfold Texts.bytes
    rw [List.cons_append, Nat.add_comm 1, List.drop_succ_cons, List.append_assoc, List.drop_left' rfl]
  rw [e]
  refine Texts.takeRow_back _ more _ (by omega) ?_
  have := Texts.bytes_length ls
  rw [List.length_append]
  omega
theorem Texts.good_lens (ls : List (List UInt8)) (h : Texts.right ls = 0) (s : Nat) : Texts.good (Texts.lens ls, s, 0) = true := by
  have hok := Texts.right_lines h
  unfold Texts.good
  rw [Bool.and_eq_true, Bool.and_eq_true]
  refine ⟨⟨rfl, bne_iff_ne.2 (by simp only [Texts.lens_length]; omega)⟩, List.all_eq_true.2 fun n hn => ?_⟩
  obtain ⟨l, hl, rfl⟩ := List.mem_map.1 hn
  have := hok.2.2 l hl
  rw [UInt64.toNat_ofNat_of_lt' (by show l.length < 18446744073709551616; omega)]
  exact decide_eq_true this
/-- what is put is taken as it was, whatever stands behind -/
theorem Texts.take_back (ls : List (List UInt8)) (more : List UInt8) (h : Texts.right ls = 0) : Texts.take (Texts.bytes ls ++ more) = (ls, (Texts.bytes ls).length, 0) := by
  have hok := Texts.right_lines h
  have hpb := Texts.payload_back ls more h
  have hlist := Texts.takeList_back (Texts.lens ls) (Num.row (Texts.payload ls) ++ more) (by rw [Texts.lens_length]; omega)
  have e : Texts.bytes ls ++ more = Texts.kind ls :: (Pfor.list (Texts.lens ls) ++ (Num.row (Texts.payload ls) ++ more)) := by unfold Texts.bytes; rw [List.cons_append, List.append_assoc]
  rw [List.append_assoc (Pfor.list (Texts.lens ls)), hlist] at hpb
  simp only at hpb
  have hlen := Texts.bytes_length ls
  rw [e] at hpb ⊢
  unfold Texts.take
  simp only
  rw [if_neg (by unfold Texts.kind; split <;> decide), hlist, if_neg (by rw [Texts.good_lens ls h]; decide)]
  simp only
  rw [hpb]
  simp only [ne_eq, not_true, if_false]
  rw [Texts.total_lens ls hok.2.2, Texts.meaning_back]
  simp only [not_true, or_self, if_false]
  rw [Texts.cut_lens ls hok.2.2, Num.row_length]
  congr 2
  omega
end Go.Proofs.YtoebeibmmclhpaaGreat

/- Bytes appended beyond 2^47. -/
namespace Go.Proofs.YtoebeibmmclhpaaGreat
open Go.ChangeShapes Go.WideShapes Go.ChangeAt Go.RowKit
set_option maxRecDepth 100000
/-- append of bytes, up to more than 2^47 of them -/
theorem run_append_wide (w : World) (base : Nat) (ty : TypeId) (A : Option Addr) (n c : Nat) (l : List UInt8) (hown : Own w base A n c l)
    (B : Nat) (A2 : Option Addr) (m c2 : Nat) (l2 : List UInt8) (hl2 : l2.length = m) (hb : Bytes w B A2 l2) (hbytes : n + m ≤ 200000000000000) (hbase : base ≤ w.heap.size) :
    ∃ A' c' w', (Builtin.append_ #[22, 22] ty #[.slice A n c, .slice A2 m c2]).run Tryz.prog w = .ok (.slice A' (n + m) c') w' ∧
      Own w' base A' (n + m) c' (l ++ l2) ∧ w.grownBy w' (blk A) := by
  rcases Nat.lt_or_ge 140737488355328 (n + m) with hbig | hsmall
  · obtain ⟨i0, hi0, hz0, hz1, hz2⟩ := info_parts byte_info
    rcases A2 with _ | ad
    · have hm : l2 = [] := by
        rcases Classical.em (l2 = []) with h | h
        · exact h
        · obtain ⟨_, h, _⟩ := hb h; cases h
      subst hm
      obtain rfl : 0 = m := by simpa using hl2
      refine ⟨A, c, w, ?_, by simpa using hown, World.grownBy.refl w _⟩
      rcases hown.2 with ⟨hv, rfl⟩ | ⟨g, cap, cur, hv, _, _, hnc, _⟩
      · injection hv with h1 _ h3
        subst h1 h3
        simp [Builtin.append_, run_underlying Tryz.underlying22, sizeOf, typeInfo, hi0, Builtin.lenOf, Builtin.firstCells]
      · injection hv with h1 h2 h3
        subst h1 h3
        simp [Builtin.append_, run_underlying Tryz.underlying22, sizeOf, typeInfo, hi0, Builtin.lenOf, Builtin.firstCells, hnc, storeCells]
    · obtain ⟨v', w', hrun, h2, h3, _⟩ := run_append_own_wide (P := Tryz.prog) w base 22 ty 5 i0 _ 1 1 Tryz.underlying22 hi0 hz0 hz1 hz2 rfl (by omega) (.slice A n c) n (bvals l) hown
        ad m c2 (bvals l2) (by rw [bvals_length]; omega) hb.news (bvals_one l2) (by simp only [maxLen]; omega) (by omega) hbase
      rw [← bvals_append] at h2
      rw [ownBlock_eq] at h3
      rcases h2.2 with ⟨rfl, h0⟩ | ⟨g, cap, cur, rfl, _⟩
      · omega
      · exact ⟨_, cap, w', hrun, h2, h3⟩
  · obtain ⟨A', c', w', h1, h2, h3, _⟩ := run_append_bytes w base ty A n c l hown B A2 m c2 l2 hl2 hb hsmall hbase
    exact ⟨A', c', w', h1, h2, h3⟩
theorem wpList_append_wide {w : World} {ops : Array Oper} {rest : List Oper} {o : Oper} {a : Act} {Q : Exit → Act → World → Prop} (hw : Region.wanted o (yielded ops a.tmps) = true) (s x : Operand)
    (ho : o.op = .call { callee := .builtin .append, args := #[s, x], argTypes := #[22, 22] })
    (base : Nat) (A : Option Addr) (n c : Nat) (l : List UInt8) (hs : a.eval s = .slice A n c) (hown : Own w base A n c l)
    (B : Nat) (A2 : Option Addr) (m c2 : Nat) (l2 : List UInt8) (hx : a.eval x = .slice A2 m c2) (hl2 : l2.length = m) (hb : Bytes w B A2 l2) (hbytes : n + m ≤ 200000000000000) (hbase : base ≤ w.heap.size)
    (h : ∀ A' c' w', Own w' base A' (n + m) c' (l ++ l2) → w.grownBy w' (blk A) → wpList Tryz.prog ops Q rest (a.put o.dst (.slice A' (n + m) c')) w') :
    wpList Tryz.prog ops Q (o :: rest) a w := by
  obtain ⟨A', c', w', hrun, h2, h3⟩ := run_append_wide w base o.type A n c l hown B A2 m c2 l2 hl2 hb hbytes hbase
  refine wpList_step fun K hK => ?_
  rw [if_pos hw]
  unfold Oper.wp execOp
  simp only [ho, resolve, invoke, builtin, Sem.run_bind, Sem.run_pure, Result.andThen_ok, List.map_toArray, List.map_cons, List.map_nil, hs, hx, hrun]
  exact hK _ _ (h A' c' w' h2 h3)
end Go.Proofs.YtoebeibmmclhpaaGreat
