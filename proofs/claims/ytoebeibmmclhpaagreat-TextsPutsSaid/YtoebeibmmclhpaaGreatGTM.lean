/- Texts of several layers, one behind the other: Txt TxtJoin TxtCode TxtLen TxtPut TxtFix TxtLaw TxtRight Beside TxtRef TxtGreat TxtTk TxtTake Lists ListInfo ListsOwn. -/
import Derived.Test.YtoebeibmmclhpaaGreatGTA
import Derived.Test.YtoebeibmmclhpaaGreatGTC
import Derived.Test.YtoebeibmmclhpaaGreatGTD
import Derived.Test.YtoebeibmmclhpaaGreatGTE
import Derived.Test.YtoebeibmmclhpaaGreatGTF
import Derived.Test.YtoebeibmmclhpaaGreatGTG
import Derived.Test.YtoebeibmmclhpaaGreatGTH
import Derived.Test.YtoebeibmmclhpaaGreatGTJ
import Derived.Test.YtoebeibmmclhpaaGreatGTK
import Derived.Lib.SlBuf
import Derived.Lib.SlParts
import Derived.Lib.Join
import Derived.Lib.MakeNoZero
import Derived.Deep.LoopGhost
import Derived.Laws.Externs
import Derived.BigGuard
import Derived.BigCall
import Derived.Lib.SlBytesConst
/- A granule of lines: the document's encoding and its decoding, on lists. -/
namespace Go.Proofs.YtoebeibmmclhpaaGreat.Texts
/-- how many bytes each line has -/
def lens (ls : List (List UInt8)) : List UInt64 := ls.map fun l => UInt64.ofNat l.length
/-- may lines be a granule? 0, or the error's number -/
def right (ls : List (List UInt8)) : Nat := if ls.length < 1 ∨ 16 < ls.length then 1 else if ls.any (fun l => decide (65536 < l.length)) = true then 5 else 0
/-- the table of the lines -/
def tab (ls : List (List UInt8)) : List (List UInt8) := Sym.train (Sym.pieces ls 1024)
/-- the payload of kind 2 -/
def coded (ls : List (List UInt8)) : List UInt8 := Sym.table (tab ls) ++ Sym.encode (tab ls) ls.flatten
/-- the payload of kind 1 -/
def packed (ls : List (List UInt8)) : List UInt8 := Lz.packed ls.flatten
def kind (ls : List (List UInt8)) : UInt8 := if (coded ls).length < (packed ls).length then 2 else 1
def payload (ls : List (List UInt8)) : List UInt8 := if (coded ls).length < (packed ls).length then coded ls else packed ls
/-- the canonical encoding -/
def bytes (ls : List (List UInt8)) : List UInt8 := kind ls :: (Pfor.list (lens ls) ++ Num.row (payload ls))
theorem lens_length (ls : List (List UInt8)) : (lens ls).length = ls.length := by simp [lens]
theorem tab_formed (ls : List (List UInt8)) : Sym.Formed (tab ls) := Sym.train_formed (Sym.pieces_len ls 1024)
theorem coded_length (ls : List (List UInt8)) : (coded ls).length ≤ 553 + 2 * ls.flatten.length := by
  have h1 := Sym.table_length_le (tab_formed ls)
  have h2 := Sym.encode_long (tab ls) (fun s hs => ((tab_formed ls).2.1 s hs).1) ls.flatten.length ls.flatten rfl
  have h3 := (tab_formed ls).1
  unfold coded
  rw [List.length_append]
  omega
theorem packed_length (ls : List (List UInt8)) : (packed ls).length ≤ ls.flatten.length + ls.flatten.length / 255 + 2 := Lz.packed_length _
theorem payload_length (ls : List (List UInt8)) : (payload ls).length ≤ ls.flatten.length + ls.flatten.length / 255 + 2 := by
  have h := packed_length ls
  unfold payload
  split <;> omega
theorem list_short (l : List UInt64) (hl : l.length ≤ 32) : (Pfor.list l).length ≤ 269 := by
  have hn : (Num.num l.length).length = 1 := by rw [Num.num_length, Num.size, if_pos (by omega)]
  unfold Pfor.list
  rw [List.length_append, hn]
  by_cases h : l = []
  · subst h; rw [Pfor.blocks_nil]; simp
  · rw [Pfor.blocks_cons h, List.take_of_length_le hl, List.drop_eq_nil_of_le hl, Pfor.blocks_nil, List.append_nil]
    have := Pfor.block_length_le hl
    omega
theorem bytes_length (ls : List (List UInt8)) : (bytes ls).length = 1 + (Pfor.list (lens ls)).length + (Num.size (payload ls).length + (payload ls).length) := by
  unfold bytes
  rw [List.length_cons, List.length_append, Num.row_length]
  omega
theorem flatten_le (ls : List (List UInt8)) (h : right ls = 0) : ls.flatten.length ≤ 1048576 := by
  unfold right at h
  split at h
  · cases h
  · rename_i h1
    split at h
    · cases h
    · rename_i h2
      have h16 : ls.length ≤ 16 := by omega
      have : ∀ (xs : List (List UInt8)), xs.any (fun l => decide (65536 < l.length)) = false → xs.flatten.length ≤ 65536 * xs.length := by
        intro xs
        induction xs with
        | nil => intro _; simp
        | cons x r ih =>
          intro hx
          rw [List.any_cons, Bool.or_eq_false_iff] at hx
          have h3 := ih hx.2
          have h4 := of_decide_eq_false hx.1
          rw [List.flatten_cons, List.length_append, List.length_cons]
          omega
      have h3 := this ls (by simpa using h2)
      omega
/-- the lines of the given lengths, which the text consists of -/
def cut : List UInt8 → List UInt64 → List (List UInt8)
  | _, [] => []
  | t, n :: r => t.take n.toNat :: cut (t.drop n.toNat) r
def total (L : List UInt64) : Nat := (L.map (·.toNat)).sum
/-- the bytes that a payload stands for, and the error -/
def meaning (k : UInt8) (p : List UInt8) (most : Int) : List UInt8 × Nat :=
  if k = 1 then Lz.unpack p most else if (Sym.takeTable p).2.2 ≠ 0 then ([], (Sym.takeTable p).2.2) else Sym.decoded (Sym.takeTable p).1 (p.drop (Sym.takeTable p).2.1) most
/-- are they lengths of lines? -/
def good (R : List UInt64 × Nat × Nat) : Bool := R.2.2 == 0 && R.1.length != 0 && R.1.all fun n => decide (n.toNat ≤ 65536)
/-- the granule that bytes begin with: the lines, its size, its error -/
noncomputable def take (b : List UInt8) : List (List UInt8) × Nat × Nat :=
  match b with
  | [] => ([], 0, 2)
  | k :: r =>
    if k ≠ 1 ∧ k ≠ 2 then ([], 0, 2) else
    if good (Pfor.takeList r 16) = false then ([], 0, 2) else
    let R := Pfor.takeList r 16
    let P := Num.takeRow ((k :: r).drop (1 + R.2.1)) ((k :: r).length : Int)
    if P.2.2 ≠ 0 then ([], 0, 2) else
    let T := meaning k P.1 (total R.1 : Int)
    if T.2 ≠ 0 ∨ T.1.length ≠ total R.1 then ([], 0, 2) else (cut T.1 R.1, 1 + R.2.1 + P.2.1, 0)
theorem cut_length : ∀ (t : List UInt8) (L : List UInt64), (cut t L).length = L.length
  | _, [] => rfl
  | t, n :: r => by rw [cut, List.length_cons, List.length_cons, cut_length]
theorem total_cons (n : UInt64) (r : List UInt64) : total (n :: r) = n.toNat + total r := rfl
theorem total_lens : ∀ (ls : List (List UInt8)), (∀ l ∈ ls, l.length ≤ 65536) → total (lens ls) = ls.flatten.length
  | [], _ => rfl
  | l :: r, h => by
    have h1 := h l (by simp)
    have h2 := total_lens r (fun x hx => h x (by simp [hx]))
    show total (UInt64.ofNat l.length :: lens r) = _
    rw [total_cons, h2, List.flatten_cons, List.length_append, UInt64.toNat_ofNat_of_lt' (by show l.length < 18446744073709551616; omega)]
theorem cut_lens : ∀ (ls : List (List UInt8)), (∀ l ∈ ls, l.length ≤ 65536) → cut ls.flatten (lens ls) = ls
  | [], _ => rfl
  | l :: r, h => by
    have h1 := h l (by simp)
    have h2 := cut_lens r (fun x hx => h x (by simp [hx]))
    show cut (l :: r).flatten (UInt64.ofNat l.length :: lens r) = _
    rw [cut, UInt64.toNat_ofNat_of_lt' (by show l.length < 18446744073709551616; omega), List.flatten_cons, List.take_left, List.drop_left, h2]
theorem right_lines {ls : List (List UInt8)} (h : right ls = 0) : 1 ≤ ls.length ∧ ls.length ≤ 16 ∧ ∀ l ∈ ls, l.length ≤ 65536 := by
  unfold right at h
  split at h
  · cases h
  · rename_i h1
    split at h
    · cases h
    · rename_i h2
      refine ⟨by omega, by omega, fun l hl => ?_⟩
      rcases Nat.lt_or_ge 65536 l.length with h3 | h3
      · exact absurd (List.any_eq_true.2 ⟨l, hl, decide_eq_true h3⟩) h2
      · exact h3
theorem total_le : ∀ (L : List UInt64), (∀ n ∈ L, n.toNat ≤ 65536) → total L ≤ 65536 * L.length
  | [], _ => by simp [total]
  | n :: r, h => by
    have h1 := h n (by simp)
    have h2 := total_le r (fun x hx => h x (by simp [hx]))
    rw [total_cons, List.length_cons]
    omega
def put (b : List UInt8) (ls : List (List UInt8)) : List UInt8 × Nat := if right ls = 0 then (b ++ bytes ls, 0) else ([], right ls)
theorem line_le {ls : List (List UInt8)} {l : List UInt8} (h : l ∈ ls) : l.length ≤ ls.flatten.length := by
  induction ls with
  | nil => cases h
  | cons x r ih =>
    rw [List.flatten_cons, List.length_append]
    rcases List.mem_cons.1 h with rfl | h
    · omega
    · have := ih h
      omega
end Go.Proofs.YtoebeibmmclhpaaGreat.Texts

/- bytes.Join of lines with nothing between. -/
namespace Go.Proofs.YtoebeibmmclhpaaGreat
open Go.RowKit
set_option maxRecDepth 100000
theorem elem23L : Tryz.prog.elem 23 = 22 := by kernel_rfl
theorem sizeL (W : World) : (sizeOf 22).run Tryz.prog W = .ok 1 W := by kernel_rfl
/-- the lines but the first -/
theorem run_lines_tail (ad : Addr) (n m cap : Nat) (h1 : n = m + 1) (hc : cap ≠ 1) (W : World) :
    (Instr.slice 23 (.slice (some ad) n cap) (some (.int .i64 1)) none none).run Tryz.prog W = .ok (.slice (some (ad.add 1)) m (cap - 1)) W := by
  subst h1
  rw [run_slice_l (P := Tryz.prog) (w := W) (kl := .i64) (l := 1) (h0 := by omega) (h1 := by omega) (ht := by rw [elem23L]; exact Tryz.underlying23)]
  rw [elem23L, sizeL]
  simp [Result.andThen, sliced, hc]
def JoinPost (w : World) (l : List UInt8) (e : Ending) (w' : World) : Prop :=
  ∃ A c, e = .returned (.slice A l.length c) ∧ l.length ≤ c ∧ Bytes w' w'.heap.size A l ∧ Below w.heap.size w w'
theorem Bytes.held {w : World} {B c : Nat} {A : Option Addr} {l : List UInt8} (h : Bytes w B A l) : Lib.HoldsBytes w (.slice A l.length c) l := by
  refine ⟨A, c, rfl, fun hA => ?_, fun a ha i x hx => ?_⟩
  · rcases Classical.em (l = []) with h0 | h0
    · exact h0
    · obtain ⟨_, h1, _⟩ := h h0
      rw [hA] at h1
      cases h1
  · have hi : i < l.length := (List.getElem?_eq_some_iff.1 hx).1
    obtain ⟨ad, h1, _, hc⟩ := h.get hi
    rw [ha] at h1
    injection h1 with h1
    subst h1
    rw [hc]
    simp [(List.getElem?_eq_some_iff.1 hx).2]
theorem buf_bytes {w0 wr : World} {h N : Nat} {acc : List UInt8} (hb : Lib.Buf w0 wr h N acc) : Bytes wr wr.heap.size (some ⟨h, 0, none⟩) acc := fun hn => by
  have h0 : 0 < acc.length := List.length_pos_iff.2 hn
  have hc := hb.holds 0 acc[0] (List.getElem?_eq_getElem h0)
  refine ⟨_, rfl, World.block_lt_of_cell? wr _ hc, fun i hi => ?_⟩
  have := hb.holds i acc[i] (List.getElem?_eq_getElem hi)
  rw [show (⟨h, 0, none⟩ : Addr).add i = ⟨h, i, none⟩ from by unfold Addr.add; split <;> simp_all]
  exact this
theorem flat_succ {ls : List (List UInt8)} {k : Nat} (hk : k < ls.length) : (ls.take (k + 1)).flatten = (ls.take k).flatten ++ ls[k] := by
  rw [List.take_succ_eq_append_getElem hk, List.flatten_append]
  simp
theorem flat_le (ls : List (List UInt8)) (k : Nat) : (ls.take k).flatten.length ≤ ls.flatten.length := by
  have h : ls.flatten = (ls.take k).flatten ++ (ls.drop k).flatten := by rw [← List.flatten_append, List.take_append_drop]
  rw [h, List.length_append]
  omega
set_option maxHeartbeats 1000000 in
theorem joinOne_any (A : Option Addr) (cap B : Nat) (l : List UInt8) (w : World) (hm : l.length ≤ 1000000000) (hb : Samples w B A [l]) (hB : B ≤ w.heap.size) :
    Calls Tryz.prog 38 #[.slice A 1 cap, .slice none 0 0] w (JoinPost w l) := by
  obtain ⟨ad, Ai, ci, rfl, _, _, hcell, hbi⟩ := (hb.wide hB).at_ (k := 0) (by simp)
  simp only [List.getElem_cons_zero] at hcell hbi
  rw [show ad.add 0 = ad from by unfold Addr.add; simp] at hcell
  have ho := own_none w w.heap.size
  obtain ⟨m, hlm⟩ : ∃ m, l.length = m := ⟨_, rfl⟩
  rw [hlm] at hm hcell
  have Hm := Lib.hid hlm
  clear hlm
  go_enter Tryz.func38, Tryz.ntmps38
  go_wp2_with (at_builtin; (refine wpList_append_bytes rfl (.const (.slice none 0 0)) (.tmp 21) rfl w.heap.size none 0 0 [] rfl ho _ Ai m ci l rfl Hm.out hbi (by omega) (Nat.le_refl _) ?_); intro A1 c1 w1 ho1 hg1 hat1)
  go_ret
  have hc := ho1.cap
  rw [Nat.zero_add] at ho1 hc
  have e := Hm.out
  rw [List.nil_append] at ho1
  refine ⟨A1, c1, by rw [e]; rfl, by omega, ho1.bytes, (Below.refl _ w).grown hg1 (Nat.le_refl _) (by intro k hk; cases hk)⟩
set_option maxHeartbeats 8000000 in
theorem joinMany_any (A : Option Addr) (n m cap B : Nat) (ls : List (List UInt8)) (w : World) (hl : ls.length = n) (hn : n = m + 1) (h2 : 1 ≤ m) (hcap : n ≤ cap) (hn16 : n ≤ 1000000) (hm : ls.flatten.length ≤ 1000000000) (hb : Samples w B A ls) (hB : B ≤ w.heap.size) :
    Calls Tryz.prog 38 #[.slice A n cap, .slice none 0 0] w (JoinPost w ls.flatten) := by
  have hb := hb.wide hB
  obtain ⟨ad, rfl, hadb, hat⟩ := hb (fun e => by subst e; simp at hl; omega)
  have hs1 := run_lines_tail ad n m cap hn (by omega)
  obtain ⟨ad1, had1⟩ : ∃ a, a = ad.add 1 := ⟨_, rfl⟩
  rw [← had1] at hs1
  have Had1 := Lib.hid had1
  clear had1
  have hs5 : (Tryz.prog.info? 5).map (·.size) = some 1 := by kernel_rfl
  obtain ⟨T, hT⟩ : ∃ T, ls.flatten.length = T := ⟨_, rfl⟩
  rw [hT] at hm
  have Hl := Lib.hid hl
  have HT := Lib.hid hT
  have hle := flat_le ls
  rw [hT] at hle
  have f0 : ((n : Int) == 0) = false := beq_eq_false_iff_ne.2 (by omega)
  have f1 : ((n : Int) == 1) = false := beq_eq_false_iff_ne.2 (by omega)
  have Hn := Lib.hid hn
  have m6 : m ≤ 1000000 := by omega
  have n2 : (2 : Int) ≤ (n : Int) := by omega
  clear hl hT hn
  go_enter Tryz.func38, Tryz.ntmps38
  go_wp2
  go_loopg [5, 44] n (fun g s5 s44 wr => w = wr ∧ ∃ i : Nat, i ≤ n ∧ g = n - i ∧ s44 = .int .i64 i ∧ s5 = .int .i64 (((ls.take i).flatten.length : Nat) : Int))
  case atStart => exact ⟨rfl, 0, Nat.zero_le _, rfl, rfl, by simp⟩
  case round =>
    obtain ⟨rfl, i, hi, rfl, rfl, rfl⟩ := hrel
    by_cases hlt : i < n
    · have hi' : i < ls.length := by have := Hl.out; omega
      obtain ⟨Ai, ci, _, hcell, _⟩ := hat i hi'
      have e1 := congrArg List.length (flat_succ hi')
      rw [List.length_append] at e1
      have hle1 := hle (i + 1)
      rw [e1] at hle1
      have E1 := Lib.hid e1
      clear e1
      generalize (ls.take i).flatten.length = acc at *
      generalize ls[i].length = q at *
      have hbig : ¬ (9223372036854775807 - (acc : Int) < (q : Int)) := by omega
      have i1 : (i : Int) < (n : Int) := by omega
      have i0 : (0 : Int) ≤ (i : Int) := by omega
      go_wp2
      go_roundg (n - (i + 1))
      case measure => omega
      case rel => exact ⟨rfl, i + 1, by omega, rfl, by go_num, by rw [E1.out]; go_num⟩
    · obtain rfl : i = n := by omega
      rw [List.take_of_length_le (by rw [Hl.out]; exact Nat.le_refl _), HT.out]
      obtain ⟨cs, hrunM, hlec, _⟩ := Lib.run_makeNoZero (P := Tryz.prog) w #[3] 22 5 Tryz.underlying22 T (by omega)
      have hcall : (callFunc 67 #[.int .i64 (T : Int)]).run Tryz.prog w = .ok (.value (.slice (some ⟨w.heap.size, 0, none⟩) T cs.size)) ((w.alloc (.cells cs 5)).drewN 2) := by
        rw [run_callFunc_extern Tryz.func67 (by kernel_rfl) (by kernel_rfl) (by kernel_rfl) (e := Extern.BytealgMakeNoZero.makeNoZero #[3] #[22]) (by kernel_rfl), hrunM]
        rfl
      clear hrunM
      have t0 : (0 : Int) ≤ (T : Int) := by omega
      have t1 : (T : Int) ≤ (cs.size : Int) := by omega
      have B0 := Lib.Buf.start w cs 5 T 2 hlec
      obtain ⟨A0, c0, _, hcell0, hb0⟩ := hat 0 (by rw [Hl.out]; omega)
      rw [show ad.add 0 = ad from by unfold Addr.add; simp] at hcell0
      have hc0 : ((w.alloc (.cells cs 5)).drewN 2).cell? ad = some (.slice A0 (ls[0]'(by rw [Hl.out]; omega)).length c0) := Lib.Below.cellOf B0.below hcell0 (Nat.le_refl _)
      have hl0le := hle 1
      have e0 : (ls.take 1).flatten = ls[0]'(by rw [Hl.out]; omega) := by rw [flat_succ (by rw [Hl.out]; omega)]; simp
      rw [e0] at hl0le
      obtain ⟨w1, hr1, B1⟩ := Lib.copy_part (P := Tryz.prog) w _ w.heap.size T [] _ (.slice A0 (ls[0]'(by rw [Hl.out]; omega)).length c0) 22 3 5 Tryz.underlying22 hs5 (Nat.le_refl _) B0 hb0.held (by simp; omega)
      rw [List.length_nil, Lib.tailV_zero] at hr1
      rw [List.nil_append] at B1
      have HB1 : Aside (Lib.Buf w w1 w.heap.size T ((ls.take (0 + 1)).flatten)) := by rw [Nat.zero_add, e0]; exact B1
      have hq0 := congrArg List.length e0
      have Hq0 : Aside ((ls.take (0 + 1)).flatten.length = (ls[0]'(by rw [Hl.out]; omega)).length) := hq0
      clear B1 B0 hq0 e0
      generalize (ls[0]'(by rw [Hl.out]; omega)).length = q at *
      go_wp2_with (at_builtin; refine Lib.wpList_copy_run _ rfl _ _ 22 22 rfl _ _ rfl rfl hr1 ?_)
      clear hr1 hcall hc0 hcell0
      go_loopg [9, 72] m (fun g2 s9 s72 wr => ∃ j : Nat, j ≤ m ∧ m - j ≤ g2 ∧ s72 = .int .i64 j ∧ s9 = .int .i64 (((ls.take (j + 1)).flatten.length : Nat) : Int) ∧ Aside (Lib.Buf w wr w.heap.size T ((ls.take (j + 1)).flatten)))
      case atStart => exact ⟨0, Nat.zero_le _, by omega, rfl, by rw [Hq0.out], HB1⟩
      case round =>
        clear HB1 Hq0
        obtain ⟨j, hj, hg2, rfl, rfl, HB⟩ := hrel
        by_cases hjm : j < m
        · have hj' : j + 1 < ls.length := by have := Hl.out; have := Hn.out; omega
          obtain ⟨Aj, cj, _, hcellj, hbj⟩ := hat (j + 1) hj'
          have hcw : wr.cell? (ad1.add j) = some (.slice Aj ls[j + 1].length cj) := by
            rw [Had1.out, addr_add_add, Nat.add_comm 1 j]
            exact Lib.Below.cellOf HB.out.below hcellj (Nat.le_refl _)
          have hjl := hle (j + 2)
          have e1 := congrArg List.length (flat_succ hj')
          rw [List.length_append] at e1
          rw [e1] at hjl
          obtain ⟨w2, hr2, B2⟩ := Lib.copy_part (P := Tryz.prog) w wr w.heap.size T _ [] (.slice none 0 0) 22 3 5 Tryz.underlying22 hs5 (Nat.le_refl _) HB.out (Bytes.nil w 0 none).held (by rw [List.length_nil]; omega)
          rw [List.append_nil] at B2
          obtain ⟨w3, hr3, B3⟩ := Lib.copy_part (P := Tryz.prog) w w2 w.heap.size T _ ls[j + 1] (.slice Aj ls[j + 1].length cj) 22 3 5 Tryz.underlying22 hs5 (Nat.le_refl _) B2 hbj.held (by omega)
          have hcw2 : w2.cell? (ad1.add j) = some (.slice Aj ls[j + 1].length cj) := by
            rw [Had1.out, addr_add_add, Nat.add_comm 1 j]
            exact Lib.Below.cellOf B2.below hcellj (Nat.le_refl _)
          rw [← flat_succ hj'] at B3
          have HB3 : Aside (Lib.Buf w w3 w.heap.size T ((ls.take (j + 1 + 1)).flatten)) := B3
          have E1 := Lib.hid e1
          clear B2 B3 hcellj hbj e1 HB
          generalize (ls.take (j + 1)).flatten.length = acc at *
          generalize ls[j + 1].length = q at *
          have hsl1 : ∀ W, (Instr.slice 22 (.slice (some ⟨w.heap.size, 0, none⟩) T T) (some (.int .i64 (acc : Int))) none none).run Tryz.prog W = .ok (Lib.tailV w.heap.size T acc) W := fun W => Lib.run_slice_tailV W 22 5 Tryz.underlying22 size8 _ T acc (by omega)
          have j1 : (j : Int) < (m : Int) := by omega
          have j0 : (0 : Int) ≤ (j : Int) := by omega
          simp only [List.length_nil, Int.natCast_zero] at hr2
          go_wp2_with (at_builtin; first | refine Lib.wpList_copy_run _ rfl _ _ 22 22 rfl _ _ rfl rfl hr2 ?_ | refine Lib.wpList_copy_run _ rfl _ _ 22 22 rfl _ _ rfl rfl hr3 ?_)
          go_roundg (m - (j + 1))
          case measure => omega
          case rel => exact ⟨j + 1, by omega, Nat.le_refl _, by go_num, by rw [E1.out]; go_num, HB3⟩
        · obtain rfl : j = m := by omega
          go_wp2
          go_ret
          have e : (ls.take (j + 1)).flatten = ls.flatten := by rw [List.take_of_length_le (by rw [Hl.out, Hn.out]; exact Nat.le_refl _)]
          have hB := HB.out
          rw [e] at hB
          refine ⟨some ⟨w.heap.size, 0, none⟩, T, by rw [HT.out]; rfl, by rw [HT.out]; exact Nat.le_refl _, buf_bytes hB, hB.below⟩
theorem join_any (A : Option Addr) (n cap B : Nat) (ls : List (List UInt8)) (w : World) (hl : ls.length = n) (h1 : 1 ≤ n) (hcap : n ≤ cap) (hn : n ≤ 1000000) (hm : ls.flatten.length ≤ 1000000000) (hb : Samples w B A ls) (hB : B ≤ w.heap.size) :
    Calls Tryz.prog 38 #[.slice A n cap, .slice none 0 0] w (JoinPost w ls.flatten) := by
  rcases Nat.lt_or_ge 1 n with h | h
  · exact joinMany_any A n (n - 1) cap B ls w hl (by omega) (by omega) hcap hn hm hb hB
  · obtain rfl : n = 1 := by omega
    obtain ⟨l, rfl⟩ : ∃ l, ls = [l] := List.length_eq_one_iff.1 hl
    have e : [l].flatten = l := by simp
    rw [e] at hm ⊢
    exact joinOne_any A cap B l w hm hb hB
end Go.Proofs.YtoebeibmmclhpaaGreat

/- texts.code and texts.shorter: the payload of lines. -/
namespace Go.Proofs.YtoebeibmmclhpaaGreat
open Go.RowKit
set_option maxRecDepth 100000
set_option maxHeartbeats 1000000 in
theorem code_any (A : Option Addr) (n cap B : Nat) (ls : List (List UInt8)) (At : Option Addr) (m capt Bt : Nat) (w : World) (hl : ls.length = n) (hn : n ≤ 1000000) (hlm : ls.flatten.length = m) (hcapt : m ≤ capt) (hm : m ≤ 1000000000)
    (hb : Samples w B A ls) (hB : B ≤ w.heap.size) (hbt : Bytes w Bt At ls.flatten) (hBt : Bt ≤ w.heap.size) :
    Calls Tryz.prog 40 #[.slice A n cap, .slice At m capt] w (MadeAt w.heap.size w (Texts.coded ls).length (Texts.coded ls)) := by
  have hbt := hbt.wide hBt
  have hf := Texts.tab_formed ls
  have hcl := Texts.coded_length ls
  have H1 := Lib.hid (train_any A n cap B ls w hl (by omega) (fun s hs => by have := Texts.line_le hs; omega) hb hB)
  change Hid (Calls Tryz.prog 73 #[.slice A n cap] w fun e w' => ∃ A' c, e = .returned (.slice A' (Texts.tab ls).length c) ∧ SOwn w' w.heap.size A' (Texts.tab ls).length c (Texts.tab ls) ∧ Below w.heap.size w w') at H1
  have h32 := hf.1
  have hmx : ∀ s ∈ Texts.tab ls, s.length ≤ maxLen := fun s hs => by have := (hf.2.1 s hs).2; unfold maxLen; omega
  have H2 := fun (A1 : Option Addr) (c1 : Nat) (w1 : World) (hc1 : (Texts.tab ls).length ≤ c1) (ho : Strs w1 w1.heap.size A1 (Texts.tab ls)) => putTable_any none A1 0 (Texts.tab ls).length 0 c1 w1.heap.size [] (Texts.tab ls) w1 rfl rfl hc1 (by omega) (by omega) (Bytes.nil _ _ _) ho hmx (Nat.le_refl _)
  have H3 := fun (A1 : Option Addr) (c1 : Nat) (w1 : World) (hc1 : (Texts.tab ls).length ≤ c1) (ho : Strs w1 w1.heap.size A1 (Texts.tab ls)) (hbt : Bytes w1 w1.heap.size At ls.flatten) => encode_any A1 At (Texts.tab ls).length m c1 capt w1.heap.size (Texts.tab ls) ls.flatten w1 rfl hc1 (by omega) hlm hcapt (by omega) ho hmx hbt (Nat.le_refl _)
  unfold PairPost Sym.putTable at H2
  unfold PairPost Sym.encoded at H3
  rw [if_pos hf, List.nil_append] at H2
  rw [if_pos hf] at H3
  simp only [Int.natCast_zero] at H2 H3
  have hcd : Texts.coded ls = Sym.table (Texts.tab ls) ++ Sym.encode (Texts.tab ls) ls.flatten := rfl
  rw [hcd] at hcl ⊢
  rw [List.length_append] at hcl ⊢
  have Hcap : Hid (∀ A1 c1 w1, SOwn w1 w.heap.size A1 (Texts.tab ls).length c1 (Texts.tab ls) → (Texts.tab ls).length ≤ c1) := Lib.hid fun A1 c1 w1 ho => ho.cap
  generalize Sym.table (Texts.tab ls) = X at *
  generalize Sym.encode (Texts.tab ls) ls.flatten = Y at *
  generalize Texts.tab ls = T at *
  obtain ⟨x, hx⟩ : ∃ x, X.length = x := ⟨_, rfl⟩
  obtain ⟨y, hy⟩ : ∃ y, Y.length = y := ⟨_, rfl⟩
  rw [hx] at H2 hcl ⊢
  rw [hy] at H3 hcl ⊢
  have Hy := Lib.hid hy
  generalize T.length = k at *
  generalize ls.flatten = F at *
  rw [hlm] at hcl
  replace H2 := Lib.hid H2
  replace H3 := Lib.hid H3
  clear hcd hmx hf hx hy hlm hl hb
  go_enter Tryz.func40, Tryz.ntmps40
  go_wp2_with fail
  refine H1.out.mono ?_
  rintro e w1 ⟨A1, c1, rfl, ho1, hb1⟩
  have hc1 := Hcap.out _ _ _ ho1
  have ht1 := (hbt.below hb1).wide hb1.size
  clear H1
  go_wp2_with fail
  refine (H2.out A1 c1 w1 hc1 ho1.row).mono ?_
  rintro e w2 ⟨A2, c2, rfl, ho2, hb2⟩
  have ho12 := ho1.below hb2
  have ht2 := (ht1.below hb2).wide hb2.size
  have hbel2 := hb1.trans (hb2.mono hb1.size)
  clear H2 ht1
  go_wp2_with fail
  refine (H3.out A1 c1 w2 hc1 ho12.row ht2).mono ?_
  rintro e w3 ⟨A3, c3, rfl, ho3, hb3⟩
  have ho23 := ho2.below hb3
  have hbel3 := hbel2.trans (hb3.mono hbel2.size)
  have hs3 : w1.heap.size ≤ w3.heap.size := Nat.le_trans hb2.size hb3.size
  have hw1 := hb1.size
  clear H3 ht2
  go_wp2_with (at_builtin; refine wpList_append_bytes rfl (.tmp 23) (.tmp 24) rfl w1.heap.size A2 x c2 X rfl ho23 _ A3 y c3 Y rfl Hy.out ho3.bytes (by omega) hs3 ?_; intro A4 c4 w4 ho4 hg4 hat4)
  go_ret
  exact ⟨A4, c4, rfl, ho4.low hw1, hbel3.grown hg4 hbel3.size (fun q hq => Nat.le_trans hw1 (ho23.lt hq).1)⟩
end Go.Proofs.YtoebeibmmclhpaaGreat

/- texts.lengthsOf; texts.Put's closure with slices.ContainsFunc: is a line too long? -/
namespace Go.Proofs.YtoebeibmmclhpaaGreat
open Go.RowKit
set_option maxRecDepth 100000
theorem uval_len {m : Nat} (h : m ≤ 9223372036854775807) : uval (UInt64.ofNat m) = .int .u64 (m : Int) := by
  unfold uval
  rw [UInt64.toNat_ofNat_of_lt' (by show m < 18446744073709551616; omega)]
set_option maxHeartbeats 1000000 in
theorem lengthsOf_any (A : Option Addr) (n cap B : Nat) (ls : List (List UInt8)) (w : World) (hl : ls.length = n) (hn : n ≤ 16) (hm : ∀ l ∈ ls, l.length ≤ 65536) (hb : Samples w B A ls) (hB : B ≤ w.heap.size) :
    Calls Tryz.prog 22 #[.slice A n cap] w fun e w' => ∃ g, e = .returned (.slice (some ⟨g, 0, none⟩) n n) ∧ NOwn w' w.heap.size (some ⟨g, 0, none⟩) n n (Texts.lens ls) ∧ Below w.heap.size w w' := by
  have hb := hb.wide hB
  have hmk := run_make_nums n (by omega) w
  have ho0 := own_nums w n (by simp only [maxLen]; omega)
  have hbel0 : Below w.heap.size w (w.alloc (.cells (madeCells #[.int .u64 0] n) 62)) := (Below.refl _ _).alloc (Nat.le_refl _) _
  generalize w.alloc (.cells (madeCells #[.int .u64 0] n) 62) = w0 at *
  have Hll := Lib.hid (show (Texts.lens ls).length = n from by rw [Texts.lens_length, hl])
  have Hl := Lib.hid hl
  have Hm := Lib.hid hm
  clear hl hm
  obtain ⟨g, hg⟩ : ∃ g, g = w.heap.size := ⟨_, rfl⟩
  rw [← hg] at hmk ho0 hbel0 hb ⊢
  clear hg
  go_enter Tryz.func22, Tryz.ntmps22
  go_wp2
  go_loopw [11] (fun i wr => ∃ (k : Nat), k ≤ n ∧ i = .int .i64 k ∧ NOwn wr g (some ⟨g, 0, none⟩) n n ((Texts.lens ls).take k ++ List.replicate (n - k) 0) ∧ Below g w wr) (fun i _ => n - (intOf i).toNat)
  case atStart => exact ⟨0, by omega, rfl, by simpa using ho0, hbel0⟩
  case round =>
    clear ho0 hbel0 hmk
    obtain ⟨k, hk, rfl, ho, hbel⟩ := hrel
    have hbr := hb.below hbel
    by_cases hlt : k < n
    · have hk' : k < ls.length := by have := Hl.out; omega
      obtain ⟨ad, Ai, ci, rfl, _, _, hcell, _⟩ := hbr.at_ hk'
      have hmk := Hm.out _ (List.getElem_mem hk')
      obtain ⟨hg1, hg2⟩ := fill_get (0 : UInt64) Hll.out hlt
      have hold := ho.cell hg1
      rw [hg2] at hold
      have hold' : wr.cell? ⟨g, k, none⟩ = some (.int .u64 0) := hold
      have hfree := ho.free k
      have hst := ho.store k ((Texts.lens ls)[k]'(by rw [Hll.out]; exact hlt))
      rw [fill_set (0 : UInt64) Hll.out hlt, show (Texts.lens ls)[k]'(by rw [Hll.out]; exact hlt) = UInt64.ofNat ls[k].length from by simp [Texts.lens], uval_len (by omega)] at hst
      generalize ls[k].length = m at *
      have Hst := Lib.hid hst
      have Hbl := Lib.hid (hbel.setCell (p := ⟨g, k, none⟩) (Nat.le_refl _) (.int .u64 (m : Int)))
      have i0 : (0 : Int) ≤ (m : Int) := by omega
      clear hst hold hg1 hg2 ho
      go_wp2
      go_roundw
      case rel => exact ⟨k + 1, by omega, by go_num, Hst.out, Hbl.out⟩
      case measure => simp [intOf]; omega
    · obtain rfl : k = n := by omega
      rw [Nat.sub_self, List.replicate_zero, List.append_nil, List.take_of_length_le (by rw [Hll.out]; exact Nat.le_refl _)] at ho
      go_wp2
      go_ret
      exact ⟨g, rfl, ho, hbel⟩
theorem longLine_any (Ai : Option Addr) (m ci : Nat) (w : World) : Calls Tryz.prog 17 #[.slice Ai m ci] w fun e w' => e = .returned (.bool (decide (65536 < m))) ∧ w = w' := by
  have e : decide (65536 < m) = decide ((65536 : Int) < (m : Int)) := decide_eq_decide.2 (by omega)
  rw [e]
  go_enter Tryz.func17, Tryz.ntmps17
  go_wp2
  go_ret
  exact ⟨rfl, rfl⟩
/-- is a line too long? -/
def Texts.long (l : List UInt8) : Bool := decide (65536 < l.length)
set_option maxHeartbeats 1000000 in
theorem txIndex_any (A : Option Addr) (n cap B : Nat) (ls : List (List UInt8)) (w : World) (hl : ls.length = n) (hn : n ≤ 4096) (hb : Samples w B A ls) :
    Calls Tryz.prog 37 #[.slice A n cap, .func (.func 17) #[] #[]] w fun e w' => (∃ x : Int, e = .returned (.int .i64 x) ∧ decide (0 ≤ x) = ls.any Texts.long) ∧ w = w' := by
  have Hl := Lib.hid hl; clear hl
  go_enter Tryz.func37, Tryz.ntmps37
  go_wp2
  go_loopw [8] (fun i wr => ∃ (k : Nat), k ≤ n ∧ i = .int .i64 k ∧ (ls.take k).any Texts.long = false ∧ w = wr) (fun i _ => n - (intOf i).toNat)
  case atStart => exact ⟨0, Nat.zero_le _, rfl, rfl, rfl⟩
  case round =>
    obtain ⟨k, hk, rfl, hno, rfl⟩ := hrel
    by_cases hlt : k < n
    · have hk' : k < ls.length := by have := Hl.out; omega
      obtain ⟨ad, Ai, ci, rfl, _, _, hcell, _⟩ := hb.at_ hk'
      have i1 : (k : Int) < (n : Int) := by omega
      have i0 : (0 : Int) ≤ (k : Int) := by omega
      have H := Lib.hid (longLine_any Ai ls[k].length ci w)
      have htk : (ls.take (k + 1)).any Texts.long = Texts.long ls[k] := by rw [List.take_succ_eq_append_getElem hk', List.any_append, hno]; simp
      have hmem := List.getElem_mem hk'
      have hu : Texts.long ls[k] = decide (65536 < ls[k].length) := rfl
      rw [← hu] at H
      generalize ls[k] = c at *
      generalize c.length = m at *
      clear hu
      go_wp2_with fail
      refine H.out.mono ?_
      rintro e w2 ⟨rfl, rfl⟩
      clear H
      rcases hbd : Texts.long c with _ | _
      · go_wp2
        go_roundw
        case rel => exact ⟨k + 1, by omega, by go_num, by rw [htk, hbd], trivial⟩
        case measure => simp [intOf]; omega
      · go_wp2
        go_ret
        exact ⟨⟨k, rfl, by rw [decide_eq_true i0]; exact (List.any_eq_true.2 ⟨c, hmem, hbd⟩).symm⟩, rfl⟩
    · have e : ls.take k = ls := List.take_of_length_le (by have := Hl.out; omega)
      rw [e] at hno
      go_wp2
      go_ret
      exact ⟨⟨-1, rfl, by rw [hno]; rfl⟩, rfl⟩
theorem txHas_any (A : Option Addr) (n cap B : Nat) (ls : List (List UInt8)) (w : World) (hl : ls.length = n) (hn : n ≤ 4096) (hb : Samples w B A ls) :
    Calls Tryz.prog 16 #[.slice A n cap, .func (.func 17) #[] #[]] w fun e w' => e = .returned (.bool (ls.any Texts.long)) ∧ w = w' := by
  have H := Lib.hid (txIndex_any A n cap B ls w hl hn hb)
  go_enter Tryz.func16, Tryz.ntmps16
  go_wp2_with fail
  refine H.out.mono ?_
  rintro e w2 ⟨⟨x, rfl, hx⟩, rfl⟩
  go_wp2
  go_ret
  exact ⟨by rw [← hx]; rfl, rfl⟩
end Go.Proofs.YtoebeibmmclhpaaGreat

/- texts.shorter and texts.Put. -/
namespace Go.Proofs.YtoebeibmmclhpaaGreat
open Go.RowKit
set_option maxRecDepth 100000
set_option maxHeartbeats 1000000 in
theorem shorter_any (A : Option Addr) (n cap B : Nat) (ls : List (List UInt8)) (w : World) (hl : ls.length = n) (h1 : 1 ≤ n) (hcap : n ≤ cap) (hn : n ≤ 1000000) (hm : ls.flatten.length ≤ 100000000)
    (hb : Samples w B A ls) (hB : B ≤ w.heap.size) :
    Calls Tryz.prog 18 #[.slice A n cap] w fun e w' => ∃ A' c, e = .returned (.tuple #[.int .u8 ((Texts.kind ls).toNat : Int), .slice A' (Texts.payload ls).length c]) ∧ Own w' w.heap.size A' (Texts.payload ls).length c (Texts.payload ls) ∧ Below w.heap.size w w' := by
  have hb := hb.wide hB
  have H1 := Lib.hid (join_any A n cap _ ls w hl h1 hcap hn (by omega) hb (Nat.le_refl _))
  have H2 := fun (At : Option Addr) (c : Nat) (w1 : World) (hc : ls.flatten.length ≤ c) (ht : Bytes w1 w1.heap.size At ls.flatten) => lzPack_any At ls.flatten.length c w1.heap.size ls.flatten w1 rfl hc (by omega) ht (Nat.le_refl _)
  have H3 := Lib.hid fun (At : Option Addr) (c : Nat) (w1 : World) (hc : ls.flatten.length ≤ c) (h1 : Samples w1 w1.heap.size A ls) (ht : Bytes w1 w1.heap.size At ls.flatten) => code_any A n cap w1.heap.size ls At ls.flatten.length c w1.heap.size w1 hl hn rfl hc (by omega) h1 (Nat.le_refl _) ht (Nat.le_refl _)
  have hpk : Lz.packed ls.flatten = Texts.packed ls := rfl
  rw [hpk] at H2
  have H2 := Lib.hid H2
  unfold JoinPost at H1
  unfold MadeAt at H2 H3
  have hkind : Texts.kind ls = if (Texts.coded ls).length < (Texts.packed ls).length then 2 else 1 := rfl
  have hpay : Texts.payload ls = if (Texts.coded ls).length < (Texts.packed ls).length then Texts.coded ls else Texts.packed ls := rfl
  rw [hkind, hpay]
  have hb' := Lib.hid hb
  generalize Texts.coded ls = X at *
  generalize Texts.packed ls = Y at *
  generalize ls.flatten = F at *
  obtain ⟨f, hf⟩ : ∃ f, F.length = f := ⟨_, rfl⟩
  rw [hf] at H1 H2 H3
  clear hkind hpay hpk hl hb hf hm
  go_enter Tryz.func18, Tryz.ntmps18
  go_wp2_with fail
  refine H1.out.mono ?_
  rintro e w1 ⟨A1, c1, rfl, hc1, hx1, hb1⟩
  clear H1
  go_wp2_with fail
  refine (H2.out A1 c1 w1 hc1 hx1).mono ?_
  rintro e w2 ⟨A2, c2, rfl, ho2, hb2⟩
  have hx2 := (hx1.below hb2).wide hb2.size
  have hbel2 := hb1.trans (hb2.mono hb1.size)
  have hs2 := (hb'.out.below hbel2).wide hbel2.size
  clear H2
  go_wp2_with fail
  refine (H3.out A1 c1 w2 hc1 hs2 hx2).mono ?_
  rintro e w3 ⟨A3, c3, rfl, ho3, hb3⟩
  have ho23 := ho2.below hb3
  have hbel3 := hbel2.trans (hb3.mono hbel2.size)
  have hw1 := hb1.size
  have hw2 := hbel2.size
  clear H3 hb'
  by_cases hlt : X.length < Y.length
  · have hlt' : (X.length : Int) < (Y.length : Int) := by omega
    go_wp2
    go_ret2
    exact ⟨A3, c3, rfl, ho3.low hw2, hbel3⟩
  · have hlt' : ¬ ((X.length : Int) < (Y.length : Int)) := by omega
    go_wp2
    go_ret2
    exact ⟨A2, c2, rfl, ho23.low hw1, hbel3⟩
set_option maxHeartbeats 1000000 in
theorem putTexts_any (Ab A : Option Addr) (m n capb cap : Nat) (b : List UInt8) (ls : List (List UInt8)) (w : World) (hlb : b.length = m) (hm : m ≤ 140737488351232) (hl : ls.length = n) (hcap : n ≤ cap) (hn : n ≤ 140737488351232)
    (hF : Texts.right ls = 0 → ls.flatten.length ≤ 2000 ∨ ls.flatten.length ≤ 1000000 ∧ m ≤ 1000000) (hbb : Bytes w w.heap.size Ab b) (hb : Samples w w.heap.size A ls) :
    Calls Tryz.prog 10 #[.slice Ab m capb, .slice A n cap] w (PairPost w (Texts.put b ls)) := by
  unfold Texts.put
  by_cases h16 : ls.length < 1 ∨ 16 < ls.length
  · have hr : Texts.right ls = 1 := by unfold Texts.right; rw [if_pos h16]
    rw [hr, if_neg (by decide)]
    rw [hl] at h16
    have h16' : (n : Int) < 1 ∨ 16 < (n : Int) := by omega
    clear hF hb hbb hl hlb hr
    go_enter Tryz.func10, Tryz.ntmps10
    rcases h16' with h | h
    · go_wp2
      go_ret2
      exact PairPost.none 1 (Below.refl _ _)
    · have h0 : ¬ ((n : Int) < 1) := by omega
      go_wp2
      go_ret2
      exact PairPost.none 1 (Below.refl _ _)
  · have hn16 : 1 ≤ n ∧ n ≤ 16 := by omega
    have g1 : ¬ ((n : Int) < 1) := by omega
    have g2 : ¬ ((16 : Int) < (n : Int)) := by omega
    have H1 := Lib.hid (txHas_any A n cap _ ls w hl (by omega) hb)
    have hr : Texts.right ls = if ls.any Texts.long = true then 5 else 0 := by unfold Texts.right; rw [if_neg h16]; rfl
    rw [hr] at hF ⊢
    rcases hany : ls.any Texts.long with _ | _
    · have hz : (if ls.any Texts.long = true then 5 else 0) = 0 := by rw [hany]; rfl
      rw [hany] at H1
      rw [hany] at hz
      rw [hany] at hr
      rw [hany] at hF
      rw [hz] at hF hr ⊢
      rw [if_pos rfl]
      have hF' := hF rfl
      have hok := Texts.right_lines hr
      have hpl := Texts.payload_length ls
      have hll := Texts.list_short (Texts.lens ls) (by rw [Texts.lens_length, hl]; omega)
      have H2 := Lib.hid (shorter_any A n cap _ ls w hl hn16.1 hcap (by omega) (by omega) hb (Nat.le_refl _))
      have H3 := Lib.hid fun (g : Nat) (A1 : Option Addr) (w1 : World) (k : UInt8) hbb hk hg hc1 hc2 => concat2_any g m capb 1 1 w1.heap.size Ab A1 b [k] w1 hlb rfl (by omega) (by omega) hbb hk (Nat.le_refl _) hg hc1 hc2
      have H4 := Lib.hid fun (w1 : World) (hb1 : Samples w1 w1.heap.size A ls) => lengthsOf_any A n cap w1.heap.size ls w1 hl (by omega) hok.2.2 hb1 (Nat.le_refl _)
      have hlt : (b ++ [Texts.kind ls] ++ Pfor.list (Texts.lens ls)).length = m + 1 + (Pfor.list (Texts.lens ls)).length := by rw [List.length_append, List.length_append, hlb]; rfl
      have H5 := Lib.hid fun (g1 c1 g2 : Nat) (w1 : World) hx hy => putList_wide (some ⟨g1, 0, none⟩) (some ⟨g2, 0, none⟩) (m + 1) c1 n n (b ++ [Texts.kind ls]) (Texts.lens ls) w1 (by rw [List.length_append, hlb]; rfl) (by rw [Texts.lens_length, hl]) (by omega) (by omega) (Nat.le_refl _) (by omega) hx hy
      have H6 := fun (g1 c1 : Nat) (A2 : Option Addr) (c2 : Nat) (w1 : World) hx hy => putRow_wide (some ⟨g1, 0, none⟩) A2 (b ++ [Texts.kind ls] ++ Pfor.list (Texts.lens ls)).length (Texts.payload ls).length c1 c2 w1.heap.size w1.heap.size (b ++ [Texts.kind ls] ++ Pfor.list (Texts.lens ls)) (Texts.payload ls) w1 rfl rfl (by omega) hx hy (Nat.le_refl _) (Nat.le_refl _)
      have hby : b ++ Texts.bytes ls = b ++ [Texts.kind ls] ++ Pfor.list (Texts.lens ls) ++ Num.row (Texts.payload ls) := by unfold Texts.bytes; simp
      rw [hby]
      have hsz : (b ++ [Texts.kind ls] ++ Pfor.list (Texts.lens ls) ++ Num.row (Texts.payload ls)).length = (b ++ [Texts.kind ls] ++ Pfor.list (Texts.lens ls)).length + (Num.size (Texts.payload ls).length + (Texts.payload ls).length) := by rw [List.length_append, Num.row_length]
      rw [← hsz] at H6
      have Hb := Lib.hid hb
      have Hbb := Lib.hid hbb
      have hk1 := fun (w1 : World) => own_one w1 (Texts.kind ls) ((Texts.kind ls).toNat : Int) rfl
      have Hk := Lib.hid hk1
      replace H6 := Lib.hid H6
      clear hF hF' hlt hsz hby hk1 hz hok hpl hll hb hbb hlb hl hany
      generalize b ++ [Texts.kind ls] ++ Pfor.list (Texts.lens ls) ++ Num.row (Texts.payload ls) = Z at *
      generalize b ++ [Texts.kind ls] ++ Pfor.list (Texts.lens ls) = Y at *
      generalize Texts.payload ls = P at *
      generalize Texts.kind ls = k at *
      generalize Texts.lens ls = L at *
      go_enter Tryz.func10, Tryz.ntmps10
      go_wp2_with fail
      refine H1.out.mono ?_
      rintro e w1 ⟨rfl, rfl⟩
      clear H1
      go_wp2_with fail
      refine H2.out.mono ?_
      rintro e w2 ⟨A2, c2, rfl, ho2, hb2⟩
      clear H2
      have ba : Below w2.heap.size w2 (w2.alloc (.cells #[.int .u8 (k.toNat : Int)] 5)) := (Below.refl _ _).alloc (Nat.le_refl _) _
      have ka := (Hk.out w2).bytes
      have bs := (Hb.out.below hb2).wide hb2.size
      have bb := (Hbb.out.below hb2).wide hb2.size
      have hw2 := hb2.size
      have sa : (w2.alloc (.cells #[.int .u8 (k.toNat : Int)] 5)).heap.size = w2.heap.size + 1 := by simp
      have bel2 := hb2.trans (ba.mono hw2)
      have os := ho2.below ba
      have ss := (bs.below ba).wide ba.size
      have sb := (bb.below ba).wide ba.size
      clear bs bb Hb Hbb Hk ho2 hb2
      generalize hwa : w2.alloc (.cells #[.int .u8 (k.toNat : Int)] 5) = wa at *
      have Hwa := Lib.hid hwa
      clear hwa
      have bc : Below wa.heap.size wa (wa.alloc (.cells #[.slice Ab m capb, .slice (some ⟨w2.heap.size, 0, none⟩) 1 1] 22)) := (Below.refl _ _).alloc (Nat.le_refl _) _
      have hcA : (wa.alloc (.cells #[.slice Ab m capb, .slice (some ⟨w2.heap.size, 0, none⟩) 1 1] 22)).cell? ⟨wa.heap.size, 0, none⟩ = some (.slice Ab m capb) := by rw [World.cell?_alloc_at _ _ _ _ rfl]; rfl
      have hcB : (wa.alloc (.cells #[.slice Ab m capb, .slice (some ⟨w2.heap.size, 0, none⟩) 1 1] 22)).cell? ⟨wa.heap.size, 1, none⟩ = some (.slice (some ⟨w2.heap.size, 0, none⟩) 1 1) := by rw [World.cell?_alloc_at _ _ _ _ rfl]; rfl
      have C3 := (H3.out wa.heap.size (some ⟨w2.heap.size, 0, none⟩) _ k ((sb.below bc).wide bc.size) ((ka.below bc).wide bc.size) (by simp) hcA hcB)
      rw [sa] at C3
      replace C3 := Lib.hid C3
      have bel3 := bel2.trans (bc.mono bel2.size)
      have s3 := (ss.below bc).wide bc.size
      have o3 := os.below bc
      have HS3 := Lib.hid s3
      have HO3 := Lib.hid o3
      have HB3 := Lib.hid bel3
      have hsz3 : w2.heap.size ≤ (wa.alloc (.cells #[.slice Ab m capb, .slice (some ⟨w2.heap.size, 0, none⟩) 1 1] 22)).heap.size := by simp; omega
      clear hcA hcB H3 bc ss sb ka os ba s3 o3 bel3 bel2 sa
      have e := Hwa.out
      subst e
      clear Hwa
      go_wp2_with fail
      generalize (w2.alloc (.cells #[.int .u8 (k.toNat : Int)] 5)).alloc (.cells #[.slice Ab m capb, .slice (some ⟨w2.heap.size, 0, none⟩) 1 1] 22) = w3 at *
      refine C3.out.mono ?_
      rintro e w4 ⟨g4, c4, rfl, ho4, hb4⟩
      have bel4 := HB3.out.trans (hb4.mono HB3.out.size)
      have s4 := (HS3.out.below hb4).wide hb4.size
      have o4 := HO3.out.below hb4
      clear C3 HS3 HO3 HB3
      have C4 := Lib.hid (H4.out w4 s4)
      clear H4 s4
      go_wp2_with fail
      refine C4.out.mono ?_
      rintro e w5 ⟨g5, rfl, ho5, hb5⟩
      have bel5 := bel4.trans (hb5.mono bel4.size)
      have o5 := o4.below hb5
      have x5 := ho4.below hb5
      clear C4 o4
      have C5 := Lib.hid (H5.out g4 c4 g5 w5 x5.bytes ho5.row)
      clear H5 x5
      go_wp2_with fail
      refine C5.out.mono ?_
      rintro e w6 ⟨g6, c6, rfl, ho6, hb6⟩
      have bel6 := bel5.trans (hb6.mono bel5.size)
      have o6 := o5.below hb6
      clear C5 o5
      have C6 := Lib.hid (H6.out g6 c6 A2 c2 w6 ho6.bytes o6.bytes)
      clear H6 ho6 o6
      go_wp2_with fail
      refine C6.out.mono ?_
      rintro e w7 ⟨g7, c7, rfl, ho7, hb7⟩
      clear C6
      go_wp2
      go_ret2
      exact ⟨_, c7, rfl, ho7.low bel6.size, bel6.trans (hb7.mono bel6.size)⟩
    · rw [hany] at H1 hr
      rw [if_pos rfl, if_neg (by decide)]
      clear hF hb hbb hl hlb hr
      go_enter Tryz.func10, Tryz.ntmps10
      go_wp2_with fail
      refine H1.out.mono ?_
      rintro e w1 ⟨rfl, rfl⟩
      clear H1
      go_wp2
      go_ret2
      exact PairPost.none 5 (Below.refl _ _)
end Go.Proofs.YtoebeibmmclhpaaGreat

/- The fixed fact on lines: plain. -/
namespace Go.Proofs.YtoebeibmmclhpaaGreat.Texts
theorem fix_pieces : Sym.pieces [[97, 98, 99]] 1024 = [[97, 98], [97, 98, 99], [98, 99]] := by decide +kernel
theorem fix_tab : tab [[97, 98, 99]] = [] := by
  unfold tab
  rw [fix_pieces]
  refine List.eq_nil_iff_forall_not_mem.2 fun s hs => ?_
  have h := Sym.mem_srt.1 (List.mem_of_mem_take hs)
  have hm := Sym.count_mem h
  rcases List.mem_cons.1 hm with rfl | hm
  · revert h; decide
  · rcases List.mem_cons.1 hm with rfl | hm
    · revert h; decide
    · rcases List.mem_cons.1 hm with rfl | hm
      · revert h; decide
      · cases hm
theorem fix_enc : Sym.encode [] [97, 98, 99] = [255, 97, 255, 98, 255, 99] := by
  have e : ∀ b, Sym.longest [] b = none := fun b => rfl
  unfold Sym.encode
  rw [e]
  simp only
  unfold Sym.encode
  rw [e]
  simp only
  unfold Sym.encode
  rw [e]
  simp only
  rw [Sym.encode_nil]
theorem fix_coded : coded [[97, 98, 99]] = [0, 255, 97, 255, 98, 255, 99] := by
  unfold coded
  rw [fix_tab, show List.flatten [[97, 98, 99]] = ([97, 98, 99] : List UInt8) from rfl, fix_enc]
  decide +kernel
theorem fix_packed : packed [[97, 98, 99]] = [48, 97, 98, 99] := by decide +kernel
theorem fix_list : Pfor.list (lens [[97, 98, 99]]) = [1, 1, 3, 0, 0] := by
  unfold Pfor.list
  rw [Pfor.blocks_cons (by simp [lens])]
  rw [show (lens [[97, 98, 99]]).drop 32 = [] from rfl, Pfor.blocks_nil]
  decide +kernel
theorem fix_put : put [] [[97, 98, 99]] = ([1, 1, 1, 3, 0, 0, 4, 48, 97, 98, 99], 0) := by
  have hr : right [[97, 98, 99]] = 0 := by decide
  have hk : kind [[97, 98, 99]] = 1 := by unfold kind; rw [fix_coded, fix_packed]; rfl
  have hp : payload [[97, 98, 99]] = [48, 97, 98, 99] := by unfold payload; rw [fix_coded, fix_packed]; rfl
  unfold put
  rw [if_pos hr]
  unfold bytes
  rw [hk, hp, fix_list]
  decide +kernel
end Go.Proofs.YtoebeibmmclhpaaGreat.Texts

/- What the laws on lines share: alive. -/
namespace Go.Proofs.YtoebeibmmclhpaaGreat
open Go.RowKit
set_option maxRecDepth 100000
theorem cell_marked (w : World) (C : Array Value) (t : TypeId) (m : Nat × Nat) (i : Nat) : (w.alloc (.cells C t m)).cell? ⟨w.heap.size, i, none⟩ = C[i]? := by
  have h : (w.alloc (.cells C t m)).heap[w.heap.size]? = some (.cells C t m) := by
    show (w.heap.push (.cells C t m))[w.heap.size]? = _
    simp
  simp only [World.cell?, h]
  rfl
theorem bytes_abc (w : World) : Bytes (w.alloc (.cells #[.int .u8 97, .int .u8 98, .int .u8 99] 5 (3, 4))) (w.alloc (.cells #[.int .u8 97, .int .u8 98, .int .u8 99] 5 (3, 4))).heap.size (some ⟨w.heap.size, 0, none⟩) [97, 98, 99] := fun _ =>
  ⟨_, rfl, by simp, fun i hi => match i, hi with
    | 0, _ => (cell_marked w _ _ _ 0).trans rfl
    | 1, _ => (cell_marked w _ _ _ 1).trans rfl
    | 2, _ => (cell_marked w _ _ _ 2).trans rfl
    | k + 3, h => absurd h (by simp)⟩
theorem run_abc (w : World) : (convert 22 22 (.slice (some ⟨w.heap.size, 0, none⟩) 3 3)).run Tryz.prog (w.alloc (.cells #[.int .u8 97, .int .u8 98, .int .u8 99] 5)) = .ok (.slice (some ⟨w.heap.size, 0, none⟩) 3 3) (w.alloc (.cells #[.int .u8 97, .int .u8 98, .int .u8 99] 5 (3, 4))) :=
  Lib.run_convert_bytes_const (P := Tryz.prog) w 22 5 #[.int .u8 97, .int .u8 98, .int .u8 99] 3 3 Tryz.underlying22 Tryz.underlying5
theorem samples_one (w : World) (A : Option Addr) (c : Nat) (l : List UInt8) (hc : l.length ≤ c) (h : Bytes w w.heap.size A l) :
    Samples (w.alloc (.cells #[.slice A l.length c] 22)) (w.alloc (.cells #[.slice A l.length c] 22)).heap.size (some ⟨w.heap.size, 0, none⟩) [l] := fun _ => by
  have hb : Below w.heap.size w (w.alloc (.cells #[.slice A l.length c] 22)) := (Below.refl _ _).alloc (Nat.le_refl _) _
  refine ⟨_, rfl, by simp, fun i hi => ?_⟩
  have h0 : i = 0 := by simp at hi; omega
  subst h0
  exact ⟨A, c, hc, cell_marked w _ _ _ 0, (h.below hb).wide hb.size⟩
theorem own_eleven (w : World) : Own (w.alloc (.cells #[.int .u8 1, .int .u8 1, .int .u8 1, .int .u8 3, .int .u8 0, .int .u8 0, .int .u8 4, .int .u8 48, .int .u8 97, .int .u8 98, .int .u8 99] 5)) w.heap.size (some ⟨w.heap.size, 0, none⟩) 11 11 [1, 1, 1, 3, 0, 0, 4, 48, 97, 98, 99] :=
  own_lit w w.heap.size [1, 1, 1, 3, 0, 0, 4, 48, 97, 98, 99] (Nat.le_refl _) (by simp [maxLen])
set_option maxHeartbeats 1000000 in
theorem txAlive_any (w : World) : Calls Tryz.prog 6 #[] w fun e w' => e = .returned (.bool true) ∧ Below w.heap.size w w' := by
  have h1 := bytes_abc w
  have hb1 : Below w.heap.size w (w.alloc (.cells #[.int .u8 97, .int .u8 98, .int .u8 99] 5 (3, 4))) := (Below.refl _ _).alloc (Nat.le_refl _) _
  have sz1 : (w.alloc (.cells #[.int .u8 97, .int .u8 98, .int .u8 99] 5 (3, 4))).heap.size = w.heap.size + 1 := by simp
  have hcv := run_abc w
  obtain ⟨w1, hw1⟩ : ∃ w1, w1 = w.alloc (.cells #[.int .u8 97, .int .u8 98, .int .u8 99] 5 (3, 4)) := ⟨_, rfl⟩
  rw [← hw1] at h1 hb1 sz1
  have h2 := samples_one w1 _ 3 [97, 98, 99] (by simp) h1
  have hb2 : Below w.heap.size w (w1.alloc (.cells #[.slice (some ⟨w.heap.size, 0, none⟩) 3 3] 22)) := hb1.alloc hb1.size _
  have P1 := putTexts_any none (some ⟨w1.heap.size, 0, none⟩) 0 1 0 1 [] [[97, 98, 99]] _ rfl (by omega) rfl (by omega) (by omega) (fun _ => .inl (by decide)) (Bytes.nil _ _ _) h2
  rw [Texts.fix_put] at P1
  unfold PairPost at P1
  simp only [List.length_cons, List.length_nil, Nat.zero_add, Nat.reduceAdd, Int.natCast_zero] at P1
  rw [sz1] at P1
  replace P1 := Lib.hid P1
  have HB2 := Lib.hid hb2
  have Hw := Lib.hid hw1
  clear h1 hb1 sz1 h2 hb2 hw1
  have e := Hw.out
  subst e
  clear Hw
  go_enter Tryz.func6, Tryz.ntmps6
  go_wp2_with fail
  generalize (w.alloc (.cells #[.int .u8 97, .int .u8 98, .int .u8 99] 5 (3, 4))).alloc (.cells #[.slice (some ⟨w.heap.size, 0, none⟩) 3 3] 22) = w2 at *
  refine P1.out.mono ?_
  rintro e w3 ⟨A3, c3, rfl, ho3, hb3⟩
  have hbel3 := HB2.out.trans (hb3.mono HB2.out.size)
  clear P1 HB2
  have S1 := same_any A3 _ 11 11 c3 11 _ _ [1, 1, 1, 3, 0, 0, 4, 48, 97, 98, 99] [1, 1, 1, 3, 0, 0, 4, 48, 97, 98, 99] _ rfl rfl (ho3.alloc (.cells #[.int .u8 1, .int .u8 1, .int .u8 1, .int .u8 3, .int .u8 0, .int .u8 0, .int .u8 4, .int .u8 48, .int .u8 97, .int .u8 98, .int .u8 99] 5)).bytes (own_eleven w3).bytes
  rw [beq_self_eq_true] at S1
  replace S1 := Lib.hid S1
  have hbel4 : Below w.heap.size w (w3.alloc (.cells #[.int .u8 1, .int .u8 1, .int .u8 1, .int .u8 3, .int .u8 0, .int .u8 0, .int .u8 4, .int .u8 48, .int .u8 97, .int .u8 98, .int .u8 99] 5)) := hbel3.alloc hbel3.size _
  go_wp2_with fail
  generalize w3.alloc (.cells #[.int .u8 1, .int .u8 1, .int .u8 1, .int .u8 3, .int .u8 0, .int .u8 0, .int .u8 4, .int .u8 48, .int .u8 97, .int .u8 98, .int .u8 99] 5) = w4 at *
  refine S1.out.mono ?_
  rintro e w5 ⟨rfl, rfl⟩
  clear S1
  go_wp2
  go_ret
  exact ⟨rfl, hbel4⟩
end Go.Proofs.YtoebeibmmclhpaaGreat

/- The document's Right of lines. -/
namespace Go.Proofs.YtoebeibmmclhpaaGreat
open Go.RowKit
set_option maxRecDepth 100000
theorem txRight_any (A : Option Addr) (n cap B : Nat) (ls : List (List UInt8)) (w : World) (hl : ls.length = n) (hn : n ≤ 140737488351232) (hb : Samples w B A ls) :
    Calls Tryz.prog 7 #[.slice A n cap] w fun e w' => e = .returned (.int .i64 (Texts.right ls : Int)) ∧ w = w' := by
  unfold Texts.right
  by_cases h16 : ls.length < 1 ∨ 16 < ls.length
  · rw [if_pos h16]
    rw [hl] at h16
    have h16' : (n : Int) < 1 ∨ 16 < (n : Int) := by omega
    clear hb hl
    go_enter Tryz.func7, Tryz.ntmps7
    rcases h16' with h | h
    · go_wp2
      go_ret
      exact ⟨rfl, rfl⟩
    · have h0 : ¬ ((n : Int) < 1) := by omega
      go_wp2
      go_ret
      exact ⟨rfl, rfl⟩
  · rw [if_neg h16]
    have hn16 : 1 ≤ n ∧ n ≤ 16 := by omega
    have g1 : ¬ ((n : Int) < 1) := by omega
    have g2 : ¬ ((16 : Int) < (n : Int)) := by omega
    have Hl := Lib.hid hl
    obtain ⟨r, hr⟩ : ∃ r, (if (ls.any fun l => decide (65536 < l.length)) = true then 5 else 0) = r := ⟨_, rfl⟩
    rw [hr]
    have Hr := Lib.hid hr
    clear hl h16 hr
    go_enter Tryz.func7, Tryz.ntmps7
    go_wp2
    go_loopw [3] (fun i wr => ∃ (k : Nat), k ≤ n ∧ i = .int .i64 k ∧ (ls.take k).any Texts.long = false ∧ w = wr) (fun i _ => n - (intOf i).toNat)
    case atStart => exact ⟨0, Nat.zero_le _, rfl, rfl, rfl⟩
    case round =>
      obtain ⟨k, hk, rfl, hno, rfl⟩ := hrel
      by_cases hlt : k < n
      · have hk' : k < ls.length := by have := Hl.out; omega
        obtain ⟨ad, Ai, ci, rfl, _, _, hcell, _⟩ := hb.at_ hk'
        have i1 : (k : Int) < (n : Int) := by omega
        have i0 : (0 : Int) ≤ (k : Int) := by omega
        have htk : (ls.take (k + 1)).any Texts.long = Texts.long ls[k] := by rw [List.take_succ_eq_append_getElem hk', List.any_append, hno]; simp
        have hmem := List.getElem_mem hk'
        have hu : Texts.long ls[k] = decide (65536 < ls[k].length) := rfl
        generalize ls[k] = c at *
        have HAny := Lib.hid (fun (h : Texts.long c = true) => (List.any_eq_true.2 ⟨c, hmem, h⟩ : ls.any Texts.long = true))
        by_cases hbd : 65536 < c.length
        · have hbi : (65536 : Int) < (c.length : Int) := by omega
          have ha := HAny.out (by rw [hu]; exact decide_eq_true hbd)
          have hP := Lib.hid ((Hr.out).symm.trans (if_pos ha) : r = 5)
          clear hu htk hno HAny
          generalize c.length = m at *
          go_wp2
          go_ret
          exact ⟨by rw [hP.out]; rfl, rfl⟩
        · have hbi : ¬ ((65536 : Int) < (c.length : Int)) := by omega
          rw [hu, decide_eq_false hbd] at htk
          have Htk := Lib.hid htk
          clear hu htk hno HAny
          generalize c.length = m at *
          go_wp2
          go_roundw
          case rel => exact ⟨k + 1, by omega, by go_num, Htk.out, trivial⟩
          case measure => simp [intOf]; omega
      · have e : ls.take k = ls := List.take_of_length_le (by have := Hl.out; omega)
        rw [e] at hno
        have hP := Lib.hid ((Hr.out).symm.trans (if_neg (by rw [show (ls.any fun l => decide (65536 < l.length)) = ls.any Texts.long from rfl, hno]; decide)) : r = 0)
        clear hno
        go_wp2
        go_ret
        exact ⟨by rw [hP.out]; rfl, rfl⟩
end Go.Proofs.YtoebeibmmclhpaaGreat

/- Rows of two kinds lie apart; a literal of one number. -/
namespace Go.Proofs.YtoebeibmmclhpaaGreat
open Go.RowKit
set_option maxRecDepth 100000
theorem rown_apart {α β : Type} {f : α → Value} {f' : β → Value} {e e' : TypeId} {w : World} {b b' n n' c c' : Nat} {A A' : Option Addr} {l : List α} {l' : List β} (h1 : ROwn f e w b A n c l) (h2 : ROwn f' e' w b' A' n' c' l') (hne : e ≠ e') : ∀ k, blk A = some k → blk A' ≠ some k := by
  intro k hk hk'
  rcases h1.2 with ⟨hv, _⟩ | ⟨g, cap, cur, hv, _, hg, _⟩
  · injection hv with h; subst h; cases hk
  · rcases h2.2 with ⟨hv', _⟩ | ⟨g', cap', cur', hv', _, hg', _⟩
    · injection hv' with h; subst h; cases hk'
    · injection hv with h; subst h
      injection hv' with h; subst h
      simp only [blk, Option.map_some, Option.some.injEq] at hk hk'
      subst hk hk'
      rw [hg] at hg'
      injection hg' with hg'
      injection hg' with _ h
      exact hne h
/-- what grows apart from a row leaves it -/
theorem rown_beside {α β : Type} {f : α → Value} {f' : β → Value} {e e' : TypeId} {w w' : World} {b b' n n' c c' : Nat} {A A' : Option Addr} {l : List α} {l' : List β} (h1 : ROwn f e w b A n c l) (h2 : ROwn f' e' w b' A' n' c' l') (hne : e ≠ e') (hg : w.grownBy w' (blk A)) : ROwn f' e' w' b' A' n' c' l' := by
  refine h2.kept hg ?_
  have := rown_apart h1 h2 hne
  rcases h : blk A with _ | k
  · rcases h' : blk A' with _ | k'
    · exact .inl rfl
    · exact .inr (by simp)
  · exact .inr (this k h)
theorem nown_one1 (w : World) (y : UInt64) (f : Int) (h : uval y = .int .u64 f) : NOwn (w.alloc (.cells #[.int .u64 f] 62)) w.heap.size (some ⟨w.heap.size, 0, none⟩) 1 1 [y] := by
  have h1 := ROwn.lit (f := uval) (e := 62) w w.heap.size [y] (Nat.le_refl _) (by simp [maxLen])
  simp only [List.map_cons, List.map_nil, h] at h1
  exact h1
end Go.Proofs.YtoebeibmmclhpaaGreat

/- The document's joined and Bytes of lines. -/
namespace Go.Proofs.YtoebeibmmclhpaaGreat
open Go.RowKit
set_option maxRecDepth 100000
theorem lens_succ {ls : List (List UInt8)} {k : Nat} (hk : k < ls.length) : Texts.lens (ls.take (k + 1)) = Texts.lens (ls.take k) ++ [UInt64.ofNat ls[k].length] := by
  unfold Texts.lens
  rw [List.take_succ_eq_append_getElem hk, List.map_append]
  rfl
set_option maxHeartbeats 1000000 in
theorem joined_any (A : Option Addr) (n cap B : Nat) (ls : List (List UInt8)) (w : World) (hl : ls.length = n) (hn : n ≤ 1000) (hm : ls.flatten.length ≤ 100000000) (hb : Samples w B A ls) (hB : B ≤ w.heap.size) :
    Calls Tryz.prog 23 #[.slice A n cap] w fun e w' => ∃ A1 c1 A2 c2, e = .returned (.tuple #[.slice A1 ls.flatten.length c1, .slice A2 n c2]) ∧ Own w' w.heap.size A1 ls.flatten.length c1 ls.flatten ∧ NOwn w' w.heap.size A2 n c2 (Texts.lens ls) ∧ Below w.heap.size w w' := by
  have hb := hb.wide hB
  have Hl := Lib.hid hl
  have hle := Lib.hid (flat_le ls)
  clear hl
  go_enter Tryz.func23, Tryz.ntmps23
  go_wp2
  go_loopw [4, 5, 6] (fun s4 s5 i wr => ∃ (k : Nat) (A1 A2 : Option Addr) (c1 c2 : Nat), k ≤ n ∧ i = .int .i64 k ∧ s4 = .slice A1 (ls.take k).flatten.length c1 ∧ s5 = .slice A2 k c2 ∧ Own wr w.heap.size A1 (ls.take k).flatten.length c1 (ls.take k).flatten ∧ NOwn wr w.heap.size A2 k c2 (Texts.lens (ls.take k)) ∧ Below w.heap.size w wr) (fun _ _ i _ => n - (intOf i).toNat)
  case atStart => exact ⟨0, none, none, 0, 0, Nat.zero_le _, rfl, rfl, rfl, own_none _ _, ROwn.nil _ _ _ _, Below.refl _ _⟩
  case round =>
    obtain ⟨k, A1, A2, c1, c2, hk, rfl, rfl, rfl, ho1, ho2, hbel⟩ := hrel
    by_cases hlt : k < n
    · have hk' : k < ls.length := by have := Hl.out; omega
      obtain ⟨ad, Ai, ci, rfl, hadb, _, hcell, hbi⟩ := (hb.below hbel).at_ hk'
      have i1 : (k : Int) < (n : Int) := by omega
      have i0 : (0 : Int) ≤ (k : Int) := by omega
      have hwb := hbel.size
      have hq := hle.out (k + 1)
      have hfs := flat_succ hk'
      have hls := lens_succ hk'
      have hfl := congrArg List.length hfs
      rw [List.length_append] at hfl
      rw [hfl] at hq
      have hq' : (ls.take k).flatten.length + ls[k].length ≤ 100000000 := by omega
      have Hfs := Lib.hid hfs
      have Hls := Lib.hid hls
      have Hfl := Lib.hid hfl
      have HQ : Hid (∀ W, uval (UInt64.ofNat ls[k].length) = .int .u64 (ls[k].length : Int) ∧ W = (W : World)) := Lib.hid fun _ => ⟨uval_len (by omega), rfl⟩
      have H1 := Lib.hid fun (W : World) => (nown_one1 W (UInt64.ofNat ls[k].length) (ls[k].length : Int) (uval_len (by omega))).row
      have Hq := Lib.hid (show ls[k].length = ls[k].length from rfl)
      clear hfs hls hfl hq
      generalize hx : ls[k] = x at *
      generalize hF : (ls.take k).flatten = F at *
      obtain ⟨q, hqx⟩ : ∃ q, x.length = q := ⟨_, rfl⟩
      rw [hqx] at hcell hq' H1 Hfl
      have Hqx := Lib.hid hqx
      obtain ⟨f, hf⟩ : ∃ f, F.length = f := ⟨_, rfl⟩
      rw [hf] at ho1 hq' Hfl
      rw [hf]
      clear hx hF hqx hf HQ Hq
      have hadb' : (ad.add k).block < w.heap.size := by rw [addr_add_block]; exact hadb
      have hcw : w.cell? (ad.add k) = some (.slice Ai q ci) := by rw [← hbel.cell hadb']; exact hcell
      have q0 : (0 : Int) ≤ (q : Int) := by omega
      have q1 : (q : Int) ≤ 9223372036854775807 := by omega
      clear hcell
      have hcell := (hbel.cell hadb').trans hcw
      go_wp2_with (first | (at_builtin; refine wpList_append_bytes rfl (.tmp 13) (.tmp 17) rfl w.heap.size A1 f c1 F rfl ho1 _ Ai q ci x rfl Hqx.out hbi (by omega) hwb ?_; intro A3 c3 w3 ho3 hg3 hat3; have hb3 := hbel.grown hg3 hwb (fun k hk => (ho1.lt hk).1); have hc3 := (hb3.cell hadb').trans hcw; have hn3 := rown_beside (show ROwn bval 5 wr w.heap.size A1 f c1 F from ho1) ho2 (by decide) hg3; have hon := ho3.alloc (.cells #[.int .u64 (q : Int)] 62); have hnn := hn3.alloc (.cells #[.int .u64 (q : Int)] 62); have hbn := hb3.alloc hb3.size (.cells #[.int .u64 (q : Int)] 62); have hone := H1.out w3; clear hcell ho1 ho2) | (at_builtin; refine wpList_append_row elem64 rfl (.tmp 19) (.tmp 26) rfl w.heap.size A2 k c2 _ rfl hnn _ _ 1 1 [_] rfl rfl hone (by omega) (by simp only [maxLen]; omega) hbn.size ?_; intro A4 c4 w4 ho4 hg4 hat4))
      have ho5 : Own w4 w.heap.size A3 (f + q) c3 (F ++ x) := rown_beside hnn (show ROwn bval 5 _ w.heap.size A3 (f + q) c3 (F ++ x) from hon) (by decide) hg4
      have hb5 := hbn.grown hg4 hbn.size (fun k hk => (hnn.lt hk).1)
      go_roundw
      case rel =>
        refine ⟨k + 1, A3, A4, c3, c4, by omega, by go_num, ?_, rfl, ?_, ?_, hb5⟩
        · rw [Hfl.out]
        · rw [Hfl.out, Hfs.out]; exact ho5
        · rw [Hls.out, Hqx.out]; exact ho4
      case measure => simp [intOf]; omega
    · obtain rfl : k = n := by omega
      rw [List.take_of_length_le (by rw [Hl.out]; exact Nat.le_refl _)] at ho1 ho2 ⊢
      go_wp2
      go_ret2
      exact ⟨A1, c1, A2, c2, rfl, ho1, ho2, hbel⟩
set_option maxHeartbeats 1000000 in
theorem txBytes_any (A : Option Addr) (n cap B : Nat) (ls : List (List UInt8)) (w : World) (hl : ls.length = n) (hn : n ≤ 16) (hm : ls.flatten.length ≤ 1000000) (hb : Samples w B A ls) (hB : B ≤ w.heap.size) :
    Calls Tryz.prog 12 #[.slice A n cap] w (MadeAt w.heap.size w (Texts.bytes ls).length (Texts.bytes ls)) := by
  have hb := hb.wide hB
  have hf := Texts.tab_formed ls
  have hcl := Texts.coded_length ls
  have hpl := Texts.payload_length ls
  have hll := Texts.list_short (Texts.lens ls) (by rw [Texts.lens_length, hl]; omega)
  have h32 := hf.1
  have hmx : ∀ s ∈ Texts.tab ls, s.length ≤ maxLen := fun s hs => by have := (hf.2.1 s hs).2; unfold maxLen; omega
  have H1 := Lib.hid (joined_any A n cap _ ls w hl (by omega) (by omega) hb (Nat.le_refl _))
  have H2 := fun (At : Option Addr) (c : Nat) (w1 : World) (hc : ls.flatten.length ≤ c) (ht : Bytes w1 w1.heap.size At ls.flatten) => lzRefPack_any At ls.flatten.length c w1.heap.size ls.flatten w1 rfl hc (by omega) ht (Nat.le_refl _)
  have H3 := fun (w1 : World) (hb1 : Samples w1 w1.heap.size A ls) => refTrain_any A n cap w1.heap.size ls w1 hl (by omega) (fun s hs => by have := Texts.line_le hs; omega) hb1 (Nat.le_refl _)
  have H4 := fun (A1 At : Option Addr) (c1 ct : Nat) (w1 : World) (ho : Strs w1 w1.heap.size A1 (Texts.tab ls)) (hc : ls.flatten.length ≤ ct) (hbt : Bytes w1 w1.heap.size At ls.flatten) => refEncode_any A1 At (Texts.tab ls).length ls.flatten.length c1 ct w1.heap.size (Texts.tab ls) ls.flatten w1 rfl (by omega) rfl hc (by omega) ho hmx hbt (Nat.le_refl _)
  have H5 := fun (A1 : Option Addr) (c1 : Nat) (w1 : World) (ho : Strs w1 w1.heap.size A1 (Texts.tab ls)) => refTable_any A1 (Texts.tab ls).length c1 w1.heap.size (Texts.tab ls) w1 rfl hf ho (Nat.le_refl _)
  have H6 := Lib.hid fun (A1 : Option Addr) (c1 : Nat) (w1 : World) (hc : n ≤ c1) (ho : Nums w1 w1.heap.size A1 (Texts.lens ls)) => refList_any A1 n c1 w1.heap.size (Texts.lens ls) w1 (by rw [Texts.lens_length, hl]) (by omega) hc ho (Nat.le_refl _)
  have H7 := fun (A1 : Option Addr) (c1 : Nat) (w1 : World) (ho : Bytes w1 w1.heap.size A1 (Texts.payload ls)) => refRow_any A1 (Texts.payload ls).length c1 w1.heap.size (Texts.payload ls) w1 rfl (by omega) ho (Nat.le_refl _)
  have h9 := Num.size_le9 (v := (Texts.payload ls).length) (by omega)
  change ∀ (At : Option Addr) (c : Nat) (w1 : World), _ → _ → Calls Tryz.prog 24 #[.slice At ls.flatten.length c] w1 (MadeAt w1.heap.size w1 (Texts.packed ls).length (Texts.packed ls)) at H2
  have hby : Texts.bytes ls = [Texts.kind ls] ++ Pfor.list (Texts.lens ls) ++ Num.row (Texts.payload ls) := by unfold Texts.bytes; simp
  have hsz : (Texts.bytes ls).length = 1 + (Pfor.list (Texts.lens ls)).length + (Num.size (Texts.payload ls).length + (Texts.payload ls).length) := Texts.bytes_length ls
  rw [hby] at hsz ⊢
  unfold PairPost Sym.encoded at H4
  rw [if_pos hf] at H4
  unfold MadeAt at H2 H5
  simp only [Int.natCast_zero] at H4
  have hcd : Texts.coded ls = Sym.table (Texts.tab ls) ++ Sym.encode (Texts.tab ls) ls.flatten := rfl
  have hcdl : (Texts.coded ls).length = (Sym.table (Texts.tab ls)).length + (Sym.encode (Texts.tab ls) ls.flatten).length := by rw [hcd, List.length_append]
  have HK1 := Lib.hid (fun (h : (Texts.coded ls).length < (Texts.packed ls).length) => (⟨if_pos h, if_pos h⟩ : Texts.kind ls = 2 ∧ Texts.payload ls = Texts.coded ls))
  have HK2 := Lib.hid (fun (h : ¬ (Texts.coded ls).length < (Texts.packed ls).length) => (⟨if_neg h, if_neg h⟩ : Texts.kind ls = 1 ∧ Texts.payload ls = Texts.packed ls))
  have Hsz := Lib.hid hsz
  have Hcd := Lib.hid hcd
  have Hcl := Lib.hid hcdl
  have Hb := Lib.hid hb
  have hk1 := fun (w1 : World) => own_one w1 (Texts.kind ls) ((Texts.kind ls).toNat : Int) rfl
  have Hk := Lib.hid hk1
  replace H2 := Lib.hid H2
  replace H3 := Lib.hid H3
  change Hid (∀ (w1 : World), _ → Calls Tryz.prog 25 #[.slice A n cap] w1 fun e w' => ∃ A' c, e = .returned (.slice A' (Texts.tab ls).length c) ∧ SOwn w' w1.heap.size A' (Texts.tab ls).length c (Texts.tab ls) ∧ Below w1.heap.size w1 w') at H3
  replace H4 := Lib.hid H4
  replace H5 := Lib.hid H5
  replace H7 := Lib.hid H7
  have b1 : (Sym.table (Texts.tab ls)).length + (Sym.encode (Texts.tab ls) ls.flatten).length ≤ 3000000 := by omega
  have b3 : Num.size (Texts.payload ls).length + (Texts.payload ls).length ≤ 2000000 := by omega
  clear hf h32 hmx hby hsz hcd hk1 hb hl hcl hpl h9 hcdl
  obtain ⟨Z, hZ⟩ : ∃ Z, Z = [Texts.kind ls] ++ Pfor.list (Texts.lens ls) ++ Num.row (Texts.payload ls) := ⟨_, rfl⟩
  rw [← hZ] at Hsz ⊢
  have HZ := Lib.hid hZ
  clear hZ
  generalize Pfor.list (Texts.lens ls) = G at *
  generalize Texts.lens ls = L at *
  generalize Texts.coded ls = X at *
  generalize Texts.packed ls = Y at *
  generalize Sym.table (Texts.tab ls) = U at *
  generalize Sym.encode (Texts.tab ls) ls.flatten = V at *
  generalize Texts.tab ls = T at *
  generalize ls.flatten = F at *
  go_enter Tryz.func12, Tryz.ntmps12
  go_wp2_with fail
  refine H1.out.mono ?_
  rintro e w1 ⟨A1, c1, A2, c2, rfl, ho1, hn1, hb1⟩
  have hc1 := ho1.cap
  have hc2 : n ≤ c2 := hn1.cap
  have bel1 := hb1
  clear H1
  go_wp2_with fail
  refine (H2.out A1 c1 w1 hc1 ho1.bytes).mono ?_
  rintro e w2 ⟨A3, c3, rfl, ho3, hb2⟩
  have bel2 := bel1.trans (hb2.mono bel1.size)
  have x2 := ho1.below hb2
  have n2 := hn1.below hb2
  have s2 := (Hb.out.below bel2).wide bel2.size
  clear H2 ho1 hn1
  go_wp2_with fail
  refine (H3.out w2 s2).mono ?_
  rintro e w3 ⟨A4, c4, rfl, ho4, hb3⟩
  have bel3 := bel2.trans (hb3.mono bel2.size)
  have x3 := x2.below hb3
  have n3 := n2.below hb3
  have p3 := ho3.below hb3
  clear H3 x2 n2 s2 ho3 Hb
  go_wp2_with fail
  refine (H4.out A4 A1 c4 c1 w3 ho4.row hc1 x3.bytes).mono ?_
  rintro e w4 ⟨A5, c5, rfl, ho5, hb4⟩
  have bel4 := bel3.trans (hb4.mono bel3.size)
  have n4 := n3.below hb4
  have p4 := p3.below hb4
  have t4 := ho4.below hb4
  clear H4 x3 n3 p3 ho4
  go_wp2_with fail
  refine (H5.out A4 c4 w4 t4.row).mono ?_
  rintro e w5 ⟨A6, c6, rfl, ho6, hb5⟩
  have bel5 := bel4.trans (hb5.mono bel4.size)
  have n5 := n4.below hb5
  have p5 := p4.below hb5
  have v5 := ho5.below hb5
  have q5 := bel4.size
  have hw1 := hb1.size
  have Hn5 := Lib.hid n5
  have Hp5 := Lib.hid p5
  have Hvlt := Lib.hid (fun g (h : blk A2 = some g) => (n4.lt h).2)
  have Hplt := Lib.hid (fun g (h : blk A3 = some g) => (p4.lt h).2)
  clear H5 n4 p4 t4 ho5 n5 p5
  by_cases hlt : X.length < Y.length
  · have hcmp : ((U.length : Int) + (V.length : Int) < (Y.length : Int)) := by have := Hcl.out; omega
    obtain ⟨ek, ep⟩ := HK1.out hlt
    rw [ep] at H7 b3 Hsz
    have hR := Num.row_length X
    rw [Hcl.out] at H7 b3 Hsz hR
    have HR := Lib.hid hR
    clear hR
    have Hk' := Lib.hid (fun w1 => own_one w1 2 2 rfl)
    rw [ek, ep] at HZ
    clear HK1 HK2 ek ep Hk
    go_wp2_with (first | (at_builtin; refine wpList_append_bytes rfl (.tmp 28) (.tmp 29) rfl w4.heap.size A6 _ c6 U rfl ho6 _ A5 _ c5 V rfl rfl v5.bytes (by omega) hb5.size ?_; intro A7 c7 w6 ho7 hg7 hat7))
    have far : ∀ {A : Option Addr}, Hid (∀ g, blk A = some g → g < w4.heap.size) → (blk A = none ∨ blk A ≠ blk A6) := fun {A} h => by
      rcases hA : blk A with _ | g
      · exact .inl rfl
      · refine .inr fun e => ?_
        have h1 := (ho6.lt e.symm).1
        have h2 := h.out g hA
        omega
    have n6 := Hn5.out.kept hg7 (far Hvlt)
    have p6 := Hp5.out.kept hg7 (far Hplt)
    have bel6 := bel5.grown hg7 bel5.size (fun q hq => Nat.le_trans q5 (ho6.lt hq).1)
    have x6 := ho7.low q5
    rw [← Hcd.out] at x6
    have y6 : Own w6 w.heap.size A7 (U.length + V.length) c7 X := x6
    clear far Hn5 Hp5 Hvlt Hplt ho6 hg7 hat7 v5 ho7 q5 hb5 hb4 hb3 hb2 hb1 bel1 bel2 bel3 bel4 bel5 x6 p6
    have ka := Hk'.out w6
    have na := n6.alloc (.cells #[.int .u8 2] 5)
    have ya := y6.alloc (.cells #[.int .u8 2] 5)
    have ba : Below w6.heap.size w6 (w6.alloc (.cells #[.int .u8 2] 5)) := (Below.refl _ _).alloc (Nat.le_refl _) _
    have hylt : ∀ g, blk A7 = some g → g < w6.heap.size := fun g h => (y6.lt h).2
    have Hylt := Lib.hid hylt
    have C6 := Lib.hid (H6.out A2 c2 _ hc2 na.row)
    have hw6 := bel6.size
    clear H6 n6 y6 hylt Hk' na
    refine C6.out.mono ?_
    rintro e w8 ⟨g8, c8, rfl, ho8, hb8⟩
    have k8 := ka.below hb8
    have y8 := ya.below hb8
    have b8 := ba.trans (hb8.mono ba.size)
    have o8 := ho8.bytes
    have q8 := b8.size
    clear C6 ka ya ba
    go_wp2_with (at_builtin; refine wpList_append_bytes rfl (.tmp 38) (.tmp 40) rfl w6.heap.size _ 1 1 [_] rfl k8 _ _ _ c8 G rfl rfl o8 (by omega) q8 ?_; intro A9 c9 w9 ho9 hg9 hat9; have y9 := y8.kept hg9 (by rcases hA : blk A7 with _ | g; exact .inl rfl; refine .inr fun e => ?_; have h1 := (k8.lt e.symm).1; have h2 := Hylt.out g hA; omega); have b9 := b8.grown hg9 q8 (fun q hq => (k8.lt hq).1); have C7 := Lib.hid (H7.out A7 c7 w9 y9.bytes); clear H7 k8 y8 b8 o8 q8 hg9 hat9 Hylt)
    refine C7.out.mono ?_
    rintro e w10 ⟨g10, c10, rfl, ho10, hb10⟩
    have o9 := ho9.below hb10
    have b10 := b9.trans (hb10.mono b9.size)
    have q10 := b10.size
    clear C7 ho9 y9 b9
    go_wp2_with (at_builtin; refine wpList_append_bytes rfl (.tmp 42) (.tmp 44) rfl w6.heap.size A9 _ c9 _ rfl o9 _ _ _ c10 _ rfl HR.out ho10.bytes (by omega) q10 ?_; intro A11 c11 w11 ho11 hg11 hat11)
    go_ret
    have bl := bel6.trans ((b10.grown hg11 q10 (fun q hq => (o9.lt hq).1)).mono hw6)
    refine ⟨A11, c11, ?_, ?_, bl⟩
    · rw [Hsz.out]; rfl
    · rw [Hsz.out, HZ.out]; exact ho11.low hw6
  · have hcmp : ¬ ((U.length : Int) + (V.length : Int) < (Y.length : Int)) := by have := Hcl.out; omega
    obtain ⟨ek, ep⟩ := HK2.out hlt
    rw [ep] at H7 b3 Hsz
    have HR := Lib.hid (Num.row_length Y)
    have Hk' := Lib.hid (fun w1 => own_one w1 1 1 rfl)
    rw [ek, ep] at HZ
    clear HK1 HK2 ek ep Hk
    go_wp2_with (first | (at_builtin; refine wpList_append_bytes rfl (.tmp 28) (.tmp 29) rfl w4.heap.size A6 _ c6 U rfl ho6 _ A5 _ c5 V rfl rfl v5.bytes (by omega) hb5.size ?_; intro A7 c7 w6 ho7 hg7 hat7))
    have far : ∀ {A : Option Addr}, Hid (∀ g, blk A = some g → g < w4.heap.size) → (blk A = none ∨ blk A ≠ blk A6) := fun {A} h => by
      rcases hA : blk A with _ | g
      · exact .inl rfl
      · refine .inr fun e => ?_
        have h1 := (ho6.lt e.symm).1
        have h2 := h.out g hA
        omega
    have n6 := Hn5.out.kept hg7 (far Hvlt)
    have p6 := Hp5.out.kept hg7 (far Hplt)
    have bel6 := bel5.grown hg7 bel5.size (fun q hq => Nat.le_trans q5 (ho6.lt hq).1)
    have x6 := ho7.low q5
    rw [← Hcd.out] at x6
    have y6 : Own w6 w.heap.size A3 Y.length c3 Y := p6.low hw1
    clear far Hn5 Hp5 Hvlt Hplt ho6 hg7 hat7 v5 ho7 q5 hb5 hb4 hb3 hb2 hb1 bel1 bel2 bel3 bel4 bel5 x6 p6
    have ka := Hk'.out w6
    have na := n6.alloc (.cells #[.int .u8 1] 5)
    have ya := y6.alloc (.cells #[.int .u8 1] 5)
    have ba : Below w6.heap.size w6 (w6.alloc (.cells #[.int .u8 1] 5)) := (Below.refl _ _).alloc (Nat.le_refl _) _
    have hylt : ∀ g, blk A3 = some g → g < w6.heap.size := fun g h => (y6.lt h).2
    have Hylt := Lib.hid hylt
    have C6 := Lib.hid (H6.out A2 c2 _ hc2 na.row)
    have hw6 := bel6.size
    clear H6 n6 y6 hylt Hk' na
    refine C6.out.mono ?_
    rintro e w8 ⟨g8, c8, rfl, ho8, hb8⟩
    have k8 := ka.below hb8
    have y8 := ya.below hb8
    have b8 := ba.trans (hb8.mono ba.size)
    have o8 := ho8.bytes
    have q8 := b8.size
    clear C6 ka ya ba
    go_wp2_with (at_builtin; refine wpList_append_bytes rfl (.tmp 38) (.tmp 40) rfl w6.heap.size _ 1 1 [_] rfl k8 _ _ _ c8 G rfl rfl o8 (by omega) q8 ?_; intro A9 c9 w9 ho9 hg9 hat9; have y9 := y8.kept hg9 (by rcases hA : blk A3 with _ | g; exact .inl rfl; refine .inr fun e => ?_; have h1 := (k8.lt e.symm).1; have h2 := Hylt.out g hA; omega); have b9 := b8.grown hg9 q8 (fun q hq => (k8.lt hq).1); have C7 := Lib.hid (H7.out A3 c3 w9 y9.bytes); clear H7 k8 y8 b8 o8 q8 hg9 hat9 Hylt)
    refine C7.out.mono ?_
    rintro e w10 ⟨g10, c10, rfl, ho10, hb10⟩
    have o9 := ho9.below hb10
    have b10 := b9.trans (hb10.mono b9.size)
    have q10 := b10.size
    clear C7 ho9 y9 b9
    go_wp2_with (at_builtin; refine wpList_append_bytes rfl (.tmp 42) (.tmp 44) rfl w6.heap.size A9 _ c9 _ rfl o9 _ _ _ c10 _ rfl HR.out ho10.bytes (by omega) q10 ?_; intro A11 c11 w11 ho11 hg11 hat11)
    go_ret
    have bl := bel6.trans ((b10.grown hg11 q10 (fun q hq => (o9.lt hq).1)).mono hw6)
    refine ⟨A11, c11, ?_, ?_, bl⟩
    · rw [Hsz.out]; rfl
    · rw [Hsz.out, HZ.out]; exact ho11.low hw6
end Go.Proofs.YtoebeibmmclhpaaGreat

/- great: are lines more bytes than are looked at? -/
namespace Go.Proofs.YtoebeibmmclhpaaGreat
open Go.RowKit
set_option maxRecDepth 100000
/-- the bytes of the first k lines, each counted up to 2^20 -/
def Texts.gsum (ls : List (List UInt8)) (k : Nat) : Nat := ((ls.take k).map fun l => min l.length 1048576).sum
theorem Texts.gsum_succ {ls : List (List UInt8)} {k : Nat} (hk : k < ls.length) : Texts.gsum ls (k + 1) = Texts.gsum ls k + min ls[k].length 1048576 := by
  unfold Texts.gsum
  rw [List.take_succ_eq_append_getElem hk, List.map_append, List.sum_append]
  simp
theorem Texts.gsum_le (ls : List (List UInt8)) (k : Nat) : Texts.gsum ls k ≤ 1048576 * k := by
  have h : ∀ l : List (List UInt8), (l.map fun l => min l.length 1048576).sum ≤ 1048576 * l.length := by
    intro l
    induction l with
    | nil => simp
    | cons x r ih => rw [List.map_cons, List.sum_cons, List.length_cons]; omega
  have := h (ls.take k)
  have h2 := List.length_take_le k ls
  unfold Texts.gsum
  omega
theorem Texts.gsum_all {ls : List (List UInt8)} (h : Texts.right ls = 0) : Texts.gsum ls (min ls.length 20) = ls.flatten.length := by
  obtain ⟨h1, h2, h3⟩ := Texts.right_lines h
  unfold Texts.gsum
  rw [List.take_of_length_le (by omega)]
  clear h h1 h2
  induction ls with
  | nil => rfl
  | cons x r ih =>
    rw [List.map_cons, List.sum_cons, List.flatten_cons, List.length_append, ih (fun l hl => h3 l (by simp [hl]))]
    have := h3 x (by simp)
    omega
set_option maxHeartbeats 1000000 in
theorem great_any (A : Option Addr) (n cap B : Nat) (ls : List (List UInt8)) (most : Nat) (w : World) (hl : ls.length = n) (hn : n ≤ 140737488351232) (hb : Samples w B A ls) :
    Calls Tryz.prog 8 #[.slice A n cap, .int .i64 (most : Int)] w fun e w' => e = .returned (.bool (decide (most < Texts.gsum ls (min n 20)))) ∧ w = w' := by
  have Hl := Lib.hid hl
  clear hl
  go_enter Tryz.func8, Tryz.ntmps8
  go_wp2
  go_loopw [5, 6] (fun s i wr => ∃ (k : Nat), k ≤ n ∧ k ≤ 20 ∧ i = .int .i64 k ∧ s = .int .i64 ((Texts.gsum ls k : Nat) : Int) ∧ w = wr) (fun _ i _ => n - (intOf i).toNat)
  case atStart => exact ⟨0, Nat.zero_le _, Nat.zero_le _, rfl, by simp [Texts.gsum], rfl⟩
  case round =>
    obtain ⟨k, hk, hk20, rfl, rfl, rfl⟩ := hrel
    have hgl := Texts.gsum_le ls k
    by_cases hlt : k < n
    · have hk' : k < ls.length := by have := Hl.out; omega
      have i1 : (k : Int) < (n : Int) := by omega
      have i0 : (0 : Int) ≤ (k : Int) := by omega
      by_cases h20 : k < 20
      · have j1 : (k : Int) < 20 := by omega
        obtain ⟨ad, Ai, ci, rfl, _, _, hcell, _⟩ := hb.at_ hk'
        have hs := Texts.gsum_succ hk'
        generalize ls[k].length = q at *
        have Hs := Lib.hid hs
        clear hs
        generalize Texts.gsum ls k = S at *
        by_cases hq : q ≤ 1048576
        · have hq' : (q : Int) ≤ 1048576 := by omega
          have q0 : (0 : Int) ≤ (q : Int) := by omega
          go_wp2
          all_goals first
            | (go_roundw
               case rel => exact ⟨k + 1, by omega, by omega, by go_num, by rw [Hs.out, Nat.min_eq_left hq]; go_num, trivial⟩
               case measure => simp [intOf]; omega)
            | (exfalso; omega)
        · have hq' : (1048576 : Int) < (q : Int) := by omega
          go_wp2
          all_goals first
            | (go_roundw
               case rel => exact ⟨k + 1, by omega, by omega, by go_num, by rw [Hs.out, Nat.min_eq_right (by omega)]; go_num, trivial⟩
               case measure => simp [intOf]; omega)
            | (exfalso; omega)
      · obtain rfl : k = 20 := by omega
        have e : min n 20 = 20 := by omega
        have hd : decide (most < Texts.gsum ls 20) = decide ((most : Int) < ((Texts.gsum ls 20 : Nat) : Int)) := decide_eq_decide.2 (by omega)
        have He := Lib.hid e
        have Hd := Lib.hid hd
        clear e hd
        go_wp2
        go_ret
        exact ⟨by rw [He.out, Hd.out]; rfl, rfl⟩
    · obtain rfl : k = n := by omega
      have e : min k 20 = k := by omega
      have hd : decide (most < Texts.gsum ls k) = decide ((most : Int) < ((Texts.gsum ls k : Nat) : Int)) := decide_eq_decide.2 (by omega)
      have He := Lib.hid e
      have Hd := Lib.hid hd
      clear e hd
      go_wp2
      go_ret
      exact ⟨by rw [He.out, Hd.out]; rfl, rfl⟩
end Go.Proofs.YtoebeibmmclhpaaGreat

/- What taking lines comes to: sizes and cases, on lists. -/
namespace Go.Proofs.YtoebeibmmclhpaaGreat
theorem Pfor.takeBlocks_cases (b : List UInt8) (v : Nat) : ∀ (acc : List UInt64) (at_ : Nat), at_ ≤ b.length →
    (∃ L s, Pfor.takeBlocks b v acc at_ = (L, s, 0) ∧ L.length = acc.length + v ∧ s ≤ b.length) ∨ Pfor.takeBlocks b v acc at_ = ([], 0, 2) := by
  induction v using Nat.strongRecOn with
  | ind v ih =>
    intro acc at_ h2
    rcases Nat.eq_zero_or_pos v with h0 | h0
    · subst h0
      rw [Pfor.takeBlocks_zero]
      exact .inl ⟨_, _, rfl, rfl, h2⟩
    · rw [Pfor.takeBlocks_pos b h0]
      split
      · rename_i hok
        rcases Pfor.takeBlock_cases (b.drop at_) with ⟨L, hg, hp, e⟩ | e
        · have hk := hp.length_le
          rw [List.length_drop] at hk
          rw [e] at hok ⊢
          simp only at hok ⊢
          rcases ih (v - 32) (by omega) (acc ++ L) (at_ + (Pfor.block L).length) (by omega) with ⟨L2, s2, e2, h3, h4⟩ | e2
          · refine .inl ⟨L2, s2, e2, ?_, h4⟩
            rw [h3, List.length_append, hok.2]
            omega
          · exact .inr e2
        · rw [e] at hok
          have := hok.1
          cases this
      · exact .inr rfl
theorem Pfor.takeList_cases (b : List UInt8) : (∃ L s, Pfor.takeList b 16 = (L, s, 0) ∧ L.length ≤ 16 ∧ s ≤ b.length) ∨ ∃ e, Pfor.takeList b 16 = ([], 0, e) ∧ e ≠ 0 := by
  unfold Pfor.takeList
  rw [if_neg (by omega)]
  split
  · exact .inr ⟨2, rfl, by decide⟩
  · split
    · exact .inr ⟨5, rfl, by decide⟩
    · rename_i h h16
      rcases Num.take_cases b with ⟨v, s, ht⟩ | ⟨e, ht, he⟩
      · have h3 := (Num.num_take ht).2.2.1
        rw [ht] at h16 ⊢
        simp only at h16 ⊢
        rcases Pfor.takeBlocks_cases b v [] s h3 with ⟨L, s2, e2, h4, h5⟩ | e2
        · exact .inl ⟨L, s2, e2, by rw [h4, List.length_nil]; omega, h5⟩
        · exact .inr ⟨2, e2, by decide⟩
      · rw [ht] at h
        simp only at h
        omega
theorem Sym.rows_at (b : List UInt8) : ∀ (n : Nat) (t : List (List UInt8)) (at_ : Nat) (t' : List (List UInt8)) (s : Nat), at_ ≤ b.length → Sym.rows b n t at_ = some (t', s) → s ≤ b.length
  | 0, t, at_, t', s, h, e => by
    rw [Sym.rows] at e
    injection e with e
    injection e with _ e
    omega
  | n + 1, t, at_, t', s, h, e => by
    rw [Sym.rows] at e
    split at e
    · rename_i hok
      rcases Sym.takeRow_cases (b.drop at_) with ⟨r, k, e1, _, _, h2⟩ | ⟨x, e1, h2, _⟩
      · rw [e1] at e
        rw [List.length_drop] at h2
        exact Sym.rows_at b n _ _ t' s (by simp only; omega) e
      · rw [e1] at hok
        simp only at hok
        omega
    · cases e
theorem Sym.takeTable_cases (p : List UInt8) : (∃ t s, Sym.takeTable p = (t, s, 0) ∧ Sym.Formed t ∧ s ≤ p.length) ∨ Sym.takeTable p = ([], 0, 2) := by
  unfold Sym.takeTable
  split
  · rename_i h
    rcases Num.take_cases p with ⟨v, s, ht⟩ | ⟨e, ht, he⟩
    · have h3 := (Num.num_take ht).2.2.1
      rw [ht]
      simp only
      rcases hr : Sym.rows p v [] s with _ | ⟨t, s2⟩
      · exact .inr rfl
      · unfold Sym.told
        simp only
        split
        · rename_i hf
          exact .inl ⟨t, s2, rfl, hf, Sym.rows_at p v [] s t s2 h3 hr⟩
        · exact .inr rfl
    · rw [ht] at h
      simp only at h
      omega
  · exact .inr rfl
theorem Num.takeRow_cases2 (l : List UInt8) (most : Int) : (∃ s k, Num.takeRow l most = (s, k, 0) ∧ s.length ≤ l.length ∧ k ≤ l.length) ∨ ∃ e, Num.takeRow l most = ([], 0, e) ∧ e ≠ 0 := by
  unfold Num.takeRow
  split
  · exact .inr ⟨1, rfl, by decide⟩
  · split
    · split
      · exact .inr ⟨5, rfl, by decide⟩
      · split
        · exact .inr ⟨3, rfl, by decide⟩
        · rename_i h
          refine .inl ⟨_, _, rfl, ?_, by omega⟩
          rw [List.length_take, List.length_drop]
          omega
    · rename_i h
      exact .inr ⟨_, rfl, h⟩
namespace Texts
/-- what the code's unpack answers -/
def unpack (k : UInt8) (p : List UInt8) (most : Int) : List UInt8 × Nat := if k ≠ 1 ∧ k ≠ 2 then ([], 2) else meaning k p most
theorem good_total {R : List UInt64 × Nat × Nat} (h : good R = true) : R.2.2 = 0 ∧ R.1 ≠ [] ∧ ∀ n ∈ R.1, n.toNat ≤ 65536 := by
  unfold good at h
  rw [Bool.and_eq_true, Bool.and_eq_true] at h
  obtain ⟨⟨h1, h2⟩, h3⟩ := h
  refine ⟨eq_of_beq h1, fun e => ?_, fun n hn => ?_⟩
  · rw [e] at h2; revert h2; decide
  · exact of_decide_eq_true (List.all_eq_true.1 h3 n hn)
theorem total_take {L : List UInt64} {k : Nat} (hk : k < L.length) : total (L.take (k + 1)) = total (L.take k) + L[k].toNat := by
  unfold total
  rw [List.take_succ_eq_append_getElem hk, List.map_append, List.sum_append]
  simp
theorem total_take_le (L : List UInt64) (k : Nat) : total (L.take k) ≤ total L := by
  have h : total L = total (L.take k) + total (L.drop k) := by
    unfold total
    rw [← List.sum_append, ← List.map_append, List.take_append_drop]
  omega
theorem cut_get : ∀ (t : List UInt8) (L : List UInt64) (k : Nat) (hk : k < L.length), (cut t L)[k]'(by rw [cut_length]; exact hk) = (t.drop (total (L.take k))).take L[k].toNat
  | _, [], k, hk => by cases hk
  | t, n :: r, 0, _ => by simp [cut, total]
  | t, n :: r, k + 1, hk => by
    have := cut_get (t.drop n.toNat) r k (by simpa using hk)
    simp only [cut, List.getElem_cons_succ]
    rw [this, List.take_succ_cons, total_cons, List.drop_drop]
end Texts
end Go.Proofs.YtoebeibmmclhpaaGreat

/- texts.takeLengths, texts.unpack. -/
namespace Go.Proofs.YtoebeibmmclhpaaGreat
open Go.RowKit
set_option maxRecDepth 100000
/-- four results -/
theorem results_four {fn : Func} {t u v x : Tmp} (h : fn.results = #[.tmp t, .tmp u, .tmp v, .tmp x]) (tmps : Array Value) (P : Program) (w : World) :
    (results fn tmps).run P w = .ok (.tuple #[tmps.getD t undef, tmps.getD u undef, tmps.getD v undef, tmps.getD x undef]) w := by
  simp [results, h]
/-- the lengths, their sum, their size: where they are lengths of lines -/
def Texts.lensOf (R : List UInt64 × Nat × Nat) : List UInt64 × Nat × Nat := if Texts.good R = true then (R.1, Texts.total R.1, R.2.1) else ([], 0, 0)
def LensPost (w : World) (R : List UInt64 × Nat × Nat) (e : Ending) (w' : World) : Prop :=
  ∃ A c, e = .returned (.tuple #[.slice A (Texts.lensOf R).1.length c, .int .i64 ((Texts.lensOf R).2.1 : Int), .int .i64 ((Texts.lensOf R).2.2 : Int), .bool (Texts.good R)]) ∧ NOwn w' w.heap.size A (Texts.lensOf R).1.length c (Texts.lensOf R).1 ∧ Below w.heap.size w w'
theorem LensPost.bad {w w' : World} {R : List UInt64 × Nat × Nat} (h : Texts.good R = false) (hb : Below w.heap.size w w') : LensPost w R (.returned (.tuple #[.slice none 0 0, .int .i64 0, .int .i64 0, .bool false])) w' := by
  have e : Texts.lensOf R = ([], 0, 0) := by unfold Texts.lensOf; rw [h]; rfl
  unfold LensPost
  rw [e, h]
  exact ⟨none, 0, rfl, ROwn.nil _ _ _ _, hb⟩
set_option maxHeartbeats 1000000 in
theorem takeLengths_any (A : Option Addr) (n cap : Nat) (b : List UInt8) (w : World) (hl : b.length = n) (hcap : n ≤ cap) (hm : n ≤ 281474976710656) (hb : Bytes w w.heap.size A b) :
    Calls Tryz.prog 30 #[.slice A n cap] w (LensPost w (Pfor.takeList b 16)) := by
  have H1 := takeList_any A n cap b 16 w hl hcap hm hb (by omega) (by omega) (.inl (by omega))
  unfold TakesPost at H1
  have hcs := Pfor.takeList_cases b
  generalize Pfor.takeList b 16 = R at *
  rcases hcs with ⟨L, s, rfl, h16, hs⟩ | ⟨e, rfl, he⟩
  · simp only [Int.natCast_zero] at H1
    rw [hl] at hs
    replace H1 := Lib.hid H1
    clear hb hl
    by_cases h0 : L = []
    · subst h0
      have HB := Lib.hid fun w' hb => LensPost.bad (w := w) (w' := w') (R := (([], s, 0) : List UInt64 × Nat × Nat)) rfl hb
      simp only [List.length_nil] at H1
      go_enter Tryz.func30, Tryz.ntmps30
      go_wp2_with fail
      refine H1.out.mono ?_
      rintro e w1 ⟨A1, c1, rfl, _, hb1⟩
      clear H1
      go_wp2
      (try simp only [Exit.inBlock, Exit.then]); refine bodyPost_ret (results_four rfl _ _ _) rfl ?_
      exact HB.out _ hb1
    · have hpos : 0 < L.length := List.length_pos_iff.2 h0
      have HB := Lib.hid fun w' hb hg => LensPost.bad (w := w) (w' := w') (R := ((L, s, 0) : List UInt64 × Nat × Nat)) hg hb
      have HG : Hid (∀ w' A c, (∀ n ∈ L, n.toNat ≤ 65536) → NOwn w' w.heap.size A L.length c L → Below w.heap.size w w' → LensPost w (L, s, 0) (.returned (.tuple #[.slice A L.length c, .int .i64 (Texts.total L : Int), .int .i64 (s : Int), .bool true])) w') := Lib.hid fun w' A c hall ho hb => by
        have hg : Texts.good (L, s, 0) = true := by
          unfold Texts.good
          rw [Bool.and_eq_true, Bool.and_eq_true]
          exact ⟨⟨rfl, bne_iff_ne.2 (by simp only; omega)⟩, List.all_eq_true.2 fun n hn => decide_eq_true (hall n hn)⟩
        have e : Texts.lensOf (L, s, 0) = (L, Texts.total L, s) := by unfold Texts.lensOf; rw [if_pos hg]
        unfold LensPost
        rw [e, hg]
        exact ⟨A, c, rfl, ho, hb⟩
      obtain ⟨q, hq⟩ : ∃ q, L.length = q := ⟨_, rfl⟩
      rw [hq] at H1 hpos h16 HG
      have Hq := Lib.hid hq
      clear h0 hq
      have hq0 : ((q : Int) == 0) = false := beq_eq_false_iff_ne.2 (by omega)
      go_enter Tryz.func30, Tryz.ntmps30
      go_wp2_with fail
      refine H1.out.mono ?_
      rintro e w1 ⟨A1, c1, rfl, ho1, hb1⟩
      clear H1
      have Hob := Lib.hid hb1
      clear hb1
      go_wp2
      go_loopw [2, 3, 4, 24] (fun r2 t r4 i wr => ∃ k : Nat, k ≤ q ∧ r2 = .slice A1 q c1 ∧ r4 = .int .i64 (s : Int) ∧ i = .int .i64 k ∧ t = .int .i64 ((Texts.total (L.take k) : Nat) : Int) ∧ (∀ n ∈ L.take k, n.toNat ≤ 65536) ∧ w1 = wr) (fun _ _ _ i _ => q - (intOf i).toNat)
      case atStart => exact ⟨0, Nat.zero_le _, rfl, rfl, rfl, by simp [Texts.total], by simp, rfl⟩
      case round =>
        obtain ⟨k, hk, rfl, rfl, rfl, rfl, hall, rfl⟩ := hrel
        have htl := Texts.total_le (L.take k) hall
        have hlk := List.length_take_le k L
        by_cases hlt : k < q
        · have hk' : k < L.length := by have := Hq.out; omega
          obtain ⟨ad, rfl, _, hcell⟩ := ho1.row.get hk'
          simp only [uval] at hcell
          have htk := Texts.total_take hk'
          have hmem := List.getElem_mem hk'
          have hsn := List.take_succ_eq_append_getElem hk'
          generalize L[k] = x at *
          have Htk := Lib.hid htk
          have Hall : Hid (x.toNat ≤ 65536 → ∀ n ∈ L.take (k + 1), n.toNat ≤ 65536) := Lib.hid fun hx n hn => by
            rw [hsn] at hn
            rcases List.mem_append.1 hn with h | h
            · exact hall n h
            · rw [List.mem_singleton] at h; rw [h]; exact hx
          have Hbad : Hid (65536 < x.toNat → Texts.good (L, s, 0) = false) := Lib.hid fun hx => by
            rcases hg : Texts.good (L, s, 0) with _ | _
            · rfl
            · have := (Texts.good_total hg).2.2 x hmem
              omega
          clear htk hsn hall hmem
          have i1 : (k : Int) < (q : Int) := by omega
          have i0 : (0 : Int) ≤ (k : Int) := by omega
          generalize Texts.total (L.take k) = T at *
          generalize x.toNat = z at *
          by_cases hbig : 65536 < z
          · have hbi : (65536 : Int) < (z : Int) := by omega
            go_wp2
            (try simp only [Exit.inBlock, Exit.then]); refine bodyPost_ret (results_four rfl _ _ _) rfl ?_
            exact HB.out _ Hob.out (Hbad.out hbig)
          · have hbi : ¬ ((65536 : Int) < (z : Int)) := by omega
            have z0 : (0 : Int) ≤ (z : Int) := by omega
            go_wp2
            go_roundw
            case rel => exact ⟨k + 1, by omega, rfl, rfl, by go_num, by rw [Htk.out]; go_num, Hall.out (by omega), trivial⟩
            case measure => simp [intOf]; omega
        · obtain rfl : k = q := by omega
          rw [List.take_of_length_le (by rw [Hq.out]; exact Nat.le_refl _)] at hall ⊢
          have HR := Lib.hid (HG.out w1 A1 c1 hall ho1 Hob.out)
          clear htl hlk hall
          go_wp2
          (try simp only [Exit.inBlock, Exit.then]); refine bodyPost_ret (results_four rfl _ _ _) rfl ?_
          exact HR.out
  · have he' : ((e : Int) != 0) = true := bne_iff_ne.2 (by omega)
    have HB := Lib.hid fun w' hb => LensPost.bad (w := w) (w' := w') (R := (([], 0, e) : List UInt64 × Nat × Nat)) (by unfold Texts.good; simp) hb
    replace H1 := Lib.hid H1
    clear hb hl he
    go_enter Tryz.func30, Tryz.ntmps30
    go_wp2_with fail
    refine H1.out.mono ?_
    rintro e w1 ⟨A1, c1, rfl, _, hb1⟩
    clear H1
    go_wp2
    (try simp only [Exit.inBlock, Exit.then]); refine bodyPost_ret (results_four rfl _ _ _) rfl ?_
    exact HB.out _ hb1
set_option maxHeartbeats 1000000 in
theorem txUnpack_any (k : UInt8) (A : Option Addr) (n cap B : Nat) (p : List UInt8) (most : Nat) (w : World) (hl : p.length = n) (hcap : n ≤ cap) (hm : n ≤ 17592186044416) (hmost : most ≤ 100000000) (hb : Bytes w B A p) (hB : B ≤ w.heap.size) :
    Calls Tryz.prog 32 #[.int .u8 (k.toNat : Int), .slice A n cap, .int .i64 (most : Int)] w (PairPost w (Texts.unpack k p (most : Int))) := by
  have hb := hb.wide hB
  by_cases hk1 : k = 1
  · subst hk1
    have e : Texts.unpack 1 p (most : Int) = Lz.unpack p most := by unfold Texts.unpack Texts.meaning; rw [if_neg (by simp), if_pos rfl]
    rw [e]
    have H1 := lzUnpack_any A n cap _ p most w hl hcap (by omega) (by omega) hb (Nat.le_refl _)
    unfold UnPost at H1
    unfold PairPost
    generalize Lz.unpack p most = R at *
    replace H1 := Lib.hid H1
    clear hb hl e
    have hk : ((1 : UInt8).toNat : Int) = 1 := rfl
    rw [hk]
    clear hk
    go_enter Tryz.func32, Tryz.ntmps32
    go_wp2_with fail
    refine H1.out.mono ?_
    rintro e w1 ⟨A1, c1, rfl, ho1, hb1⟩
    clear H1
    go_wp2
    go_ret2
    exact ⟨A1, c1, rfl, ho1, hb1⟩
  · have hk1' : ((k.toNat : Int) == 1) = false := beq_eq_false_iff_ne.2 (fun e => hk1 (UInt8.toNat_inj.1 (by show k.toNat = 1; omega)))
    by_cases hk2 : k = 2
    · have hk2' : ((k.toNat : Int) == 2) = true := by rw [hk2]; rfl
      have H1 := takeTable_any A n cap _ p w hl hcap (by omega) hb (Nat.le_refl _)
      unfold TabPost at H1
      rcases Sym.takeTable_cases p with ⟨t, s, ht, hf, hs⟩ | ht
      · rw [ht] at H1
        have e : Texts.unpack k p (most : Int) = Sym.decoded t (p.drop s) (most : Int) := by unfold Texts.unpack Texts.meaning; rw [if_neg (by simp [hk2]), if_neg hk1, ht, if_neg (by simp)]
        rw [e]
        rw [hl] at hs
        obtain ⟨m, hnm⟩ : ∃ m, n = s + m := ⟨n - s, by omega⟩
        have hsl := run_cut_from A n cap s m hnm
        have hmx : ∀ x ∈ t, x.length ≤ maxLen := fun x hx => by have := (hf.2.1 x hx).2; unfold maxLen; omega
        have h32 := hf.1
        have hbd : Bytes w w.heap.size (cutAt A cap s) (p.drop s) := hb.cut (by omega) (by omega)
        have H2 := fun A1 c1 (w1 : World) (hc : t.length ≤ c1) (h1 : Strs w1 w1.heap.size A1 t) (h2 : Bytes w1 w1.heap.size (cutAt A cap s) (p.drop s)) => decode_any A1 (cutAt A cap s) t.length m c1 (cap - s) w1.heap.size (most : Int) t (p.drop s) w1 rfl hc (by omega) (by rw [List.length_drop]; omega) (by omega) (by omega) (by omega) (by omega) h1 hmx h2 (Nat.le_refl _)
        simp only [Int.natCast_zero] at H1
        generalize Sym.decoded t (p.drop s) (most : Int) = R at *
        have Hcap : Hid (∀ A1 c1 w1, SOwn w1 w.heap.size A1 t.length c1 t → t.length ≤ c1) := Lib.hid fun A1 c1 w1 ho => ho.cap
        generalize p.drop s = d at *
        generalize cutAt A cap s = A' at *
        replace H1 := Lib.hid H1
        replace H2 := Lib.hid H2
        clear hb hl e ht hf hs hnm hmx h32
        generalize t.length = q at *
        go_enter Tryz.func32, Tryz.ntmps32
        go_wp2_with fail
        refine H1.out.mono ?_
        rintro e w1 ⟨A1, c1, rfl, ho1, hb1⟩
        clear H1
        have hd1 := (hbd.below hb1).wide hb1.size
        have C2 := Lib.hid (H2.out A1 c1 w1 (Hcap.out _ _ _ ho1) ho1.row hd1)
        clear H2 hbd Hcap hd1 ho1
        go_wp2_with fail
        refine C2.out.mono ?_
        rintro e w2 ⟨A2, c2, rfl, ho2, hb2⟩
        clear C2
        go_wp2
        go_ret2
        exact ⟨A2, c2, rfl, ho2.low hb1.size, hb1.trans (hb2.mono hb1.size)⟩
      · rw [ht] at H1
        have e : Texts.unpack k p (most : Int) = ([], 2) := by unfold Texts.unpack Texts.meaning; rw [if_neg (by simp [hk2]), if_neg hk1, ht, if_pos (by simp)]
        rw [e]
        replace H1 := Lib.hid H1
        clear hb hl e ht
        go_enter Tryz.func32, Tryz.ntmps32
        go_wp2_with fail
        refine H1.out.mono ?_
        rintro e w1 ⟨A1, c1, rfl, _, hb1⟩
        clear H1
        go_wp2
        go_ret2
        exact PairPost.none 2 hb1
    · have hk2' : ((k.toNat : Int) == 2) = false := beq_eq_false_iff_ne.2 (fun e => hk2 (UInt8.toNat_inj.1 (by show k.toNat = 2; omega)))
      have e : Texts.unpack k p (most : Int) = ([], 2) := by unfold Texts.unpack; rw [if_pos ⟨hk1, hk2⟩]
      rw [e]
      clear hb hl e
      generalize (k.toNat : Int) = z at *
      go_enter Tryz.func32, Tryz.ntmps32
      go_wp2
      go_ret2
      exact PairPost.none 2 (Below.refl _ _)
end Go.Proofs.YtoebeibmmclhpaaGreat

/- Slices of byte slices: what they hold. -/
namespace Go.Proofs.YtoebeibmmclhpaaGreat
open Go.RowKit
set_option maxRecDepth 100000
/-- A slice of byte slices with address A holds the lists ls, in blocks below B. -/
def Lists (w : World) (B : Nat) (A : Option Addr) (ls : List (List UInt8)) : Prop :=
  ls ≠ [] → ∃ ad, A = some ad ∧ ad.block < B ∧ ∀ i, (h : i < ls.length) → ∃ Ai ci, w.cell? (ad.add i) = some (.slice Ai ls[i].length ci) ∧ Bytes w B Ai ls[i]
namespace Lists
variable {w w' : World} {B B' : Nat} {A : Option Addr} {ls : List (List UInt8)}
theorem nil (w : World) (B : Nat) (A : Option Addr) : Lists w B A [] := fun h => absurd rfl h
theorem keep (h : Lists w B A ls) (hk : ∀ p : Addr, p.block < B → w'.cell? p = w.cell? p) : Lists w' B A ls := fun hn => by
  obtain ⟨ad, ha, hb, hc⟩ := h hn
  refine ⟨ad, ha, hb, fun i hi => ?_⟩
  obtain ⟨Ai, ci, h1, h2⟩ := hc i hi
  exact ⟨Ai, ci, (hk _ (by rw [addr_add_block]; exact hb)).trans h1, h2.keep hk⟩
theorem below (h : Lists w B A ls) (hb : Below B w w') : Lists w' B A ls := h.keep fun _ hp => hb.cell hp
theorem wide (h : Lists w B A ls) (hB : B ≤ B') : Lists w B' A ls := fun hn => by
  obtain ⟨ad, ha, hb, hc⟩ := h hn
  refine ⟨ad, ha, Nat.lt_of_lt_of_le hb hB, fun i hi => ?_⟩
  obtain ⟨Ai, ci, h1, h2⟩ := hc i hi
  exact ⟨Ai, ci, h1, h2.wide hB⟩
theorem drewN (h : Lists w B A ls) (q : Nat) : Lists (w.drewN q) B A ls := h
theorem take (h : Lists w B A ls) (k : Nat) : Lists w B A (ls.take k) := fun hn => by
  obtain ⟨ad, ha, hb, hc⟩ := h (fun e => hn (by subst e; simp))
  refine ⟨ad, ha, hb, fun i hi => ?_⟩
  have hi' : i < ls.length := by simp at hi; omega
  obtain ⟨Ai, ci, h1, h2⟩ := hc i hi'
  have e : (ls.take k)[i] = ls[i] := List.getElem_take
  rw [e]
  exact ⟨Ai, ci, h1, h2⟩
theorem at_ (h : Lists w B A ls) {k : Nat} (hk : k < ls.length) : ∃ ad Ai ci, A = some ad ∧ ad.block < B ∧ w.cell? (ad.add k) = some (.slice Ai ls[k].length ci) ∧ Bytes w B Ai ls[k] := by
  obtain ⟨ad, ha, hb, hc⟩ := h (fun e => by subst e; simp at hk)
  obtain ⟨Ai, ci, h1, h2⟩ := hc k hk
  exact ⟨ad, Ai, ci, ha, hb, h1, h2⟩
end Lists
end Go.Proofs.YtoebeibmmclhpaaGreat

/- What a byte slice is as an element. -/
namespace Go.Proofs.YtoebeibmmclhpaaGreat
open Go.RowKit
theorem list_info : (Tryz.prog.info? 22).map (fun i => (i.zero, i.size, i.bytes)) = some (some (.slice none 0 0), 1, 24) := by kernel_rfl
end Go.Proofs.YtoebeibmmclhpaaGreat

/- A list of byte slices of a call's own: appended to, kept. -/
namespace Go.Proofs.YtoebeibmmclhpaaGreat
open Go.ChangeShapes Go.WideShapes Go.ChangeAt Go.RowKit
set_option maxRecDepth 100000
def ListOwn (w : World) (base : Nat) (A : Option Addr) (n c : Nat) (ls : List (List UInt8)) : Prop :=
  ∃ vs : List Value, w.ownsRow base 22 1 (.slice A n c) n vs ∧ ls.length = n ∧
    ∀ i, (h : i < ls.length) → ∃ Ai ci, vs[i]? = some (.slice Ai ls[i].length ci) ∧ Own w base Ai ls[i].length ci ls[i]
theorem rows_apart {w : World} {b1 b2 e1 e2 s1 s2 n1 n2 : Nat} {v1 v2 : Value} {xs1 xs2 : List Value} (h1 : w.ownsRow b1 e1 s1 v1 n1 xs1) (h2 : w.ownsRow b2 e2 s2 v2 n2 xs2) (hne : e1 ≠ e2) :
    v1.ownBlock = none ∨ v1.ownBlock ≠ v2.ownBlock := by
  rcases h1.2 with ⟨rfl, _⟩ | ⟨g1, cap1, cur1, rfl, _, hg1, _⟩
  · exact .inl rfl
  · refine .inr fun he => ?_
    rcases h2.2 with ⟨rfl, _⟩ | ⟨g2, cap2, cur2, rfl, _, hg2, _⟩
    · cases he
    · injection he with he
      have he' : g1 = g2 := he
      subst he'
      rw [hg1] at hg2
      injection hg2 with hg2
      injection hg2 with _ ht
      exact hne ht
theorem ownsRow_below {w w' : World} {base e size n : Nat} {v : Value} {xs : List Value} (h : w.ownsRow base e size v n xs) (hb : Below w.heap.size w w') : w'.ownsRow base e size v n xs := by
  refine ⟨h.1, ?_⟩
  rcases h.2 with h2 | ⟨g, cap, cur, h1, h2, h3, r⟩
  · exact .inl h2
  · have hlt : g < w.heap.size := by
      rcases Nat.lt_or_ge g w.heap.size with hlt | hge
      · exact hlt
      · rw [Array.getElem?_eq_none hge] at h3; cases h3
    exact .inr ⟨g, cap, cur, h1, h2, (hb.block g hlt).trans h3, r⟩
namespace ListOwn
variable {w w' : World} {base : Nat} {A : Option Addr} {n c : Nat} {ls : List (List UInt8)}
theorem nil (w : World) (base : Nat) : ListOwn w base none 0 0 [] := ⟨[], World.ownsRow_nil w base _ 1, rfl, fun i h => absurd h (by simp)⟩
theorem len (h : ListOwn w base A n c ls) : ls.length = n := by obtain ⟨_, _, h, _⟩ := h; exact h
theorem below (h : ListOwn w base A n c ls) (hb : Below w.heap.size w w') : ListOwn w' base A n c ls := by
  obtain ⟨vs, h1, h2, h3⟩ := h
  refine ⟨vs, ownsRow_below h1 hb, h2, fun i hi => ?_⟩
  obtain ⟨Ai, ci, e1, e2⟩ := h3 i hi
  exact ⟨Ai, ci, e1, e2.below hb⟩
theorem lists (h : ListOwn w base A n c ls) : Lists w w.heap.size A ls := fun hn => by
  obtain ⟨vs, h1, h2, h3⟩ := h
  have h0 : 0 < n := by
    rcases Nat.eq_zero_or_pos n with h0 | h0
    · exact absurd (List.eq_nil_of_length_eq_zero (by omega)) hn
    · exact h0
  obtain ⟨g, cap, hv, _, hlt⟩ := h1.form h0
  have hA : A = some ⟨g, 0, none⟩ := by injection hv
  subst hA
  refine ⟨_, rfl, hlt, fun i hi => ?_⟩
  obtain ⟨Ai, ci, e1, e2⟩ := h3 i hi
  exact ⟨Ai, ci, h1.cells (g := g) rfl i _ e1, e2.bytes⟩
end ListOwn
/-- 'list = append(list, p)', p a byte slice of one's own -/
theorem run_append_list (w : World) (base : Nat) (ty : TypeId) (A : Option Addr) (n c : Nat) (ls : List (List UInt8)) (hown : ListOwn w base A n c ls)
    (Ap : Option Addr) (cp : Nat) (p : List UInt8) (hp : Own w base Ap p.length cp p) (hbytes : (n + 1) * 24 ≤ 140737488355328) (hbase : base ≤ w.heap.size) :
    ∃ A' c' w', (Builtin.append_ #[23, 23] ty #[.slice A n c, .slice (some ⟨w.heap.size, 0, none⟩) 1 1]).run Tryz.prog (w.alloc (.cells #[.slice Ap p.length cp] 22)) = .ok (.slice A' (n + 1) c') w' ∧
      ListOwn w' base A' (n + 1) c' (ls ++ [p]) ∧ Below base w w' := by
  obtain ⟨i0, hi0, hz0, hz1, hz2⟩ := info_parts list_info
  obtain ⟨vs, h1, h2, h3⟩ := hown
  have h1' := h1.alloc (.cells #[.slice Ap p.length cp] 22)
  obtain ⟨v', w', hrun, o2, g3, _, h5⟩ := run_append_own_at (P := Tryz.prog) (w.alloc (.cells #[.slice Ap p.length cp] 22)) base 23 ty 22 i0 _ 1 24 Tryz.underlying23 hi0 hz0 hz1 hz2 rfl (by omega)
    (.slice A n c) n vs h1' ⟨w.heap.size, 0, none⟩ 1 1 [.slice Ap p.length cp] rfl (cell_one_new _ _ _) (by intro u hu; simp at hu; subst hu; rfl) (by simp only [maxLen]; omega) hbytes (by simp; omega)
  have hlv : vs.length = n := by have := h1.1; omega
  have hkeep : ∀ {Ai : Option Addr} {m ci : Nat} {x : List UInt8}, Own w base Ai m ci x → Own w' base Ai m ci x := fun {Ai m ci x} ho => by
    have ho' := ho.alloc (.cells #[.slice Ap p.length cp] 22)
    exact ho'.kept (row := (Value.slice A n c).ownBlock) g3 (by have := rows_apart ho' h1' (by decide); rwa [ownBlock_eq] at this)
  have hlow : ∀ k, (Value.slice A n c).ownBlock = some k → base ≤ k := fun k hk => (h1.lt k hk).1
  obtain ⟨g, cap, rfl, _, _⟩ := o2.form (by omega)
  refine ⟨_, cap, w', hrun, ⟨vs ++ [.slice Ap p.length cp], o2, by simp [h2], fun i hi => ?_⟩, ((Below.refl _ _).alloc hbase _).grown g3 (by simp; omega) hlow⟩
  by_cases hlt : i < ls.length
  · obtain ⟨Ai, ci, e1, e2⟩ := h3 i hlt
    have e : (ls ++ [p])[i] = ls[i] := List.getElem_append_left hlt
    rw [e]
    exact ⟨Ai, ci, by rw [List.getElem?_append_left (by omega)]; exact e1, hkeep e2⟩
  · have hi' : i = ls.length := by simp at hi; omega
    subst hi'
    have e : (ls ++ [p])[ls.length] = p := by simp
    rw [e]
    exact ⟨Ap, cp, by rw [List.getElem?_append_right (by omega), hlv, ← h2]; simp, hkeep hp⟩
theorem wpList_append_list {w : World} {ops : Array Oper} {rest : List Oper} {o : Oper} {a : Act} {Q : Exit → Act → World → Prop} (hw : Region.wanted o (yielded ops a.tmps) = true) (s x : Operand)
    (ho : o.op = .call { callee := .builtin .append, args := #[s, x], argTypes := #[23, 23] })
    (base : Nat) (A : Option Addr) (n c : Nat) (ls : List (List UInt8)) (hs : a.eval s = .slice A n c) (hown : ListOwn w base A n c ls)
    (Ap : Option Addr) (cp : Nat) (p : List UInt8) (hx : a.eval x = .slice (some ⟨w.heap.size, 0, none⟩) 1 1) (hp : Own w base Ap p.length cp p) (hbytes : (n + 1) * 24 ≤ 140737488355328) (hbase : base ≤ w.heap.size)
    (h : ∀ A' c' w', ListOwn w' base A' (n + 1) c' (ls ++ [p]) → Below base w w' → wpList Tryz.prog ops Q rest (a.put o.dst (.slice A' (n + 1) c')) w') :
    wpList Tryz.prog ops Q (o :: rest) a (w.alloc (.cells #[.slice Ap p.length cp] 22)) := by
  obtain ⟨A', c', w', hrun, h2, h3⟩ := run_append_list w base o.type A n c ls hown Ap cp p hp hbytes hbase
  refine wpList_step fun K hK => ?_
  rw [if_pos hw]
  unfold Oper.wp execOp
  simp only [ho, resolve, invoke, builtin, Sem.run_bind, Sem.run_pure, Result.andThen_ok, List.map_toArray, List.map_cons, List.map_nil, hs, hx, hrun]
  exact hK _ _ (h A' c' w' h2 h3)
end Go.Proofs.YtoebeibmmclhpaaGreat
