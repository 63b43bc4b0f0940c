/- Texts of several layers, one behind the other: Txt TxtJoin TxtCode TxtLen TxtPut TxtFix TxtLaw Lists ListInfo TxtFew. -/
import Derived.Test.YtoebeibmmclhpaaNTA
import Derived.Test.YtoebeibmmclhpaaNTB
import Derived.Test.YtoebeibmmclhpaaNTC
import Derived.Test.YtoebeibmmclhpaaNTD
import Derived.Test.YtoebeibmmclhpaaNTE
import Derived.Test.YtoebeibmmclhpaaNTF
import Derived.Lib.SlBuf
import Derived.Lib.SlParts
import Derived.Lib.Join
import Derived.Lib.MakeNoZero
import Derived.Deep.LoopGhost
import Derived.Laws.Externs
import Derived.BigGuard
import Derived.BigCall
import Derived.Lib.SlBytesConst
/- A granule of lines: the document's encoding and its decoding, on lists. -/
namespace Go.Proofs.Ytoebeibmmclhpaa.Texts
/-- how many bytes each line has -/
def lens (ls : List (List UInt8)) : List UInt64 := ls.map fun l => UInt64.ofNat l.length
/-- may lines be a granule? 0, or the error's number -/
def right (ls : List (List UInt8)) : Nat := if ls.length < 1 ∨ 16 < ls.length then 1 else if ls.any (fun l => decide (65536 < l.length)) = true then 5 else 0
/-- the table of the lines -/
def tab (ls : List (List UInt8)) : List (List UInt8) := Sym.train (Sym.pieces ls 1024)
/-- the payload of kind 2 -/
def coded (ls : List (List UInt8)) : List UInt8 := Sym.table (tab ls) ++ Sym.encode (tab ls) ls.flatten
/-- the payload of kind 1 -/
def packed (ls : List (List UInt8)) : List UInt8 := Lz.packed ls.flatten
def kind (ls : List (List UInt8)) : UInt8 := if (coded ls).length < (packed ls).length then 2 else 1
def payload (ls : List (List UInt8)) : List UInt8 := if (coded ls).length < (packed ls).length then coded ls else packed ls
/-- the canonical encoding -/
def bytes (ls : List (List UInt8)) : List UInt8 := kind ls :: (Pfor.list (lens ls) ++ Num.row (payload ls))
theorem lens_length (ls : List (List UInt8)) : (lens ls).length = ls.length := by simp [lens]
theorem tab_formed (ls : List (List UInt8)) : Sym.Formed (tab ls) := Sym.train_formed (Sym.pieces_len ls 1024)
theorem coded_length (ls : List (List UInt8)) : (coded ls).length ≤ 553 + 2 * ls.flatten.length := by
  have h1 := Sym.table_length_le (tab_formed ls)
  have h2 := Sym.encode_long (tab ls) (fun s hs => ((tab_formed ls).2.1 s hs).1) ls.flatten.length ls.flatten rfl
  have h3 := (tab_formed ls).1
  unfold coded
  rw [List.length_append]
  omega
theorem packed_length (ls : List (List UInt8)) : (packed ls).length ≤ ls.flatten.length + ls.flatten.length / 255 + 2 := Lz.packed_length _
theorem payload_length (ls : List (List UInt8)) : (payload ls).length ≤ ls.flatten.length + ls.flatten.length / 255 + 2 := by
  have h := packed_length ls
  unfold payload
  split <;> omega
theorem list_short (l : List UInt64) (hl : l.length ≤ 32) : (Pfor.list l).length ≤ 269 := by
  have hn : (Num.num l.length).length = 1 := by rw [Num.num_length, Num.size, if_pos (by omega)]
  unfold Pfor.list
  rw [List.length_append, hn]
  by_cases h : l = []
  · subst h; rw [Pfor.blocks_nil]; simp
  · rw [Pfor.blocks_cons h, List.take_of_length_le hl, List.drop_eq_nil_of_le hl, Pfor.blocks_nil, List.append_nil]
    have := Pfor.block_length_le hl
    omega
theorem bytes_length (ls : List (List UInt8)) : (bytes ls).length = 1 + (Pfor.list (lens ls)).length + (Num.size (payload ls).length + (payload ls).length) := by
  unfold bytes
  rw [List.length_cons, List.length_append, Num.row_length]
  omega
/-- the lines of the given lengths, which the text consists of -/
def cut : List UInt8 → List UInt64 → List (List UInt8)
  | _, [] => []
  | t, n :: r => t.take n.toNat :: cut (t.drop n.toNat) r
def total (L : List UInt64) : Nat := (L.map (·.toNat)).sum
/-- the bytes that a payload stands for, and the error -/
def meaning (k : UInt8) (p : List UInt8) (most : Int) : List UInt8 × Nat :=
  if k = 1 then Lz.unpack p most else if (Sym.takeTable p).2.2 ≠ 0 then ([], (Sym.takeTable p).2.2) else Sym.decoded (Sym.takeTable p).1 (p.drop (Sym.takeTable p).2.1) most
/-- are they lengths of lines? -/
def good (R : List UInt64 × Nat × Nat) : Bool := R.2.2 == 0 && R.1.length != 0 && R.1.all fun n => decide (n.toNat ≤ 65536)
/-- the granule that bytes begin with: the lines, its size, its error -/
noncomputable def take (b : List UInt8) : List (List UInt8) × Nat × Nat :=
  match b with
  | [] => ([], 0, 2)
  | k :: r =>
    if k ≠ 1 ∧ k ≠ 2 then ([], 0, 2) else
    if good (Pfor.takeList r 16) = false then ([], 0, 2) else
    let R := Pfor.takeList r 16
    let P := Num.takeRow ((k :: r).drop (1 + R.2.1)) ((k :: r).length : Int)
    if P.2.2 ≠ 0 then ([], 0, 2) else
    let T := meaning k P.1 (total R.1 : Int)
    if T.2 ≠ 0 ∨ T.1.length ≠ total R.1 then ([], 0, 2) else (cut T.1 R.1, 1 + R.2.1 + P.2.1, 0)
theorem right_lines {ls : List (List UInt8)} (h : right ls = 0) : 1 ≤ ls.length ∧ ls.length ≤ 16 ∧ ∀ l ∈ ls, l.length ≤ 65536 := by
  unfold right at h
  split at h
  · cases h
  · rename_i h1
    split at h
    · cases h
    · rename_i h2
      refine ⟨by omega, by omega, fun l hl => ?_⟩
      rcases Nat.lt_or_ge 65536 l.length with h3 | h3
      · exact absurd (List.any_eq_true.2 ⟨l, hl, decide_eq_true h3⟩) h2
      · exact h3
def put (b : List UInt8) (ls : List (List UInt8)) : List UInt8 × Nat := if right ls = 0 then (b ++ bytes ls, 0) else ([], right ls)
theorem line_le {ls : List (List UInt8)} {l : List UInt8} (h : l ∈ ls) : l.length ≤ ls.flatten.length := by
  induction ls with
  | nil => cases h
  | cons x r ih =>
    rw [List.flatten_cons, List.length_append]
    rcases List.mem_cons.1 h with rfl | h
    · omega
    · have := ih h
      omega
end Go.Proofs.Ytoebeibmmclhpaa.Texts

/- bytes.Join of lines with nothing between. -/
namespace Go.Proofs.Ytoebeibmmclhpaa
open Go.RowKit
set_option maxRecDepth 100000
theorem elem23L : Try.prog.elem 24 = 22 := by kernel_rfl
theorem sizeL (W : World) : (sizeOf 22).run Try.prog W = .ok 1 W := by kernel_rfl
/-- the lines but the first -/
theorem run_lines_tail (ad : Addr) (n m cap : Nat) (h1 : n = m + 1) (hc : cap ≠ 1) (W : World) :
    (Instr.slice 24 (.slice (some ad) n cap) (some (.int .i64 1)) none none).run Try.prog W = .ok (.slice (some (ad.add 1)) m (cap - 1)) W := by
  subst h1
  rw [run_slice_l (P := Try.prog) (w := W) (kl := .i64) (l := 1) (h0 := by omega) (h1 := by omega) (ht := by rw [elem23L]; exact Try.underlying24)]
  rw [elem23L, sizeL]
  simp [Result.andThen, sliced, hc]
def JoinPost (w : World) (l : List UInt8) (e : Ending) (w' : World) : Prop :=
  ∃ A c, e = .returned (.slice A l.length c) ∧ l.length ≤ c ∧ Bytes w' w'.heap.size A l ∧ Below w.heap.size w w'
theorem Bytes.held {w : World} {B c : Nat} {A : Option Addr} {l : List UInt8} (h : Bytes w B A l) : Lib.HoldsBytes w (.slice A l.length c) l := by
  refine ⟨A, c, rfl, fun hA => ?_, fun a ha i x hx => ?_⟩
  · rcases Classical.em (l = []) with h0 | h0
    · exact h0
    · obtain ⟨_, h1, _⟩ := h h0
      rw [hA] at h1
      cases h1
  · have hi : i < l.length := (List.getElem?_eq_some_iff.1 hx).1
    obtain ⟨ad, h1, _, hc⟩ := h.get hi
    rw [ha] at h1
    injection h1 with h1
    subst h1
    rw [hc]
    simp [(List.getElem?_eq_some_iff.1 hx).2]
theorem buf_bytes {w0 wr : World} {h N : Nat} {acc : List UInt8} (hb : Lib.Buf w0 wr h N acc) : Bytes wr wr.heap.size (some ⟨h, 0, none⟩) acc := fun hn => by
  have h0 : 0 < acc.length := List.length_pos_iff.2 hn
  have hc := hb.holds 0 acc[0] (List.getElem?_eq_getElem h0)
  refine ⟨_, rfl, World.block_lt_of_cell? wr _ hc, fun i hi => ?_⟩
  have := hb.holds i acc[i] (List.getElem?_eq_getElem hi)
  rw [show (⟨h, 0, none⟩ : Addr).add i = ⟨h, i, none⟩ from by unfold Addr.add; split <;> simp_all]
  exact this
theorem flat_succ {ls : List (List UInt8)} {k : Nat} (hk : k < ls.length) : (ls.take (k + 1)).flatten = (ls.take k).flatten ++ ls[k] := by
  rw [List.take_succ_eq_append_getElem hk, List.flatten_append]
  simp
theorem flat_le (ls : List (List UInt8)) (k : Nat) : (ls.take k).flatten.length ≤ ls.flatten.length := by
  have h : ls.flatten = (ls.take k).flatten ++ (ls.drop k).flatten := by rw [← List.flatten_append, List.take_append_drop]
  rw [h, List.length_append]
  omega
set_option maxHeartbeats 1000000 in
theorem joinOne_any (A : Option Addr) (cap B : Nat) (l : List UInt8) (w : World) (hm : l.length ≤ 1000000000) (hb : Samples w B A [l]) (hB : B ≤ w.heap.size) :
    Calls Try.prog 15 #[.slice A 1 cap, .slice none 0 0] w (JoinPost w l) := by
  obtain ⟨ad, Ai, ci, rfl, _, _, hcell, hbi⟩ := (hb.wide hB).at_ (k := 0) (by simp)
  simp only [List.getElem_cons_zero] at hcell hbi
  rw [show ad.add 0 = ad from by unfold Addr.add; simp] at hcell
  have ho := own_none w w.heap.size
  obtain ⟨m, hlm⟩ : ∃ m, l.length = m := ⟨_, rfl⟩
  rw [hlm] at hm hcell
  have Hm := Lib.hid hlm
  clear hlm
  go_enter Try.func15, Try.ntmps15
  go_wp2_with (at_builtin; (refine wpList_append_bytes rfl (.const (.slice none 0 0)) (.tmp 21) rfl w.heap.size none 0 0 [] rfl ho _ Ai m ci l rfl Hm.out hbi (by omega) (Nat.le_refl _) ?_); intro A1 c1 w1 ho1 hg1 hat1)
  go_ret
  have hc := ho1.cap
  rw [Nat.zero_add] at ho1 hc
  have e := Hm.out
  rw [List.nil_append] at ho1
  refine ⟨A1, c1, by rw [e]; rfl, by omega, ho1.bytes, (Below.refl _ w).grown hg1 (Nat.le_refl _) (by intro k hk; cases hk)⟩
set_option maxHeartbeats 8000000 in
theorem joinMany_any (A : Option Addr) (n m cap B : Nat) (ls : List (List UInt8)) (w : World) (hl : ls.length = n) (hn : n = m + 1) (h2 : 1 ≤ m) (hcap : n ≤ cap) (hn16 : n ≤ 1000000) (hm : ls.flatten.length ≤ 1000000000) (hb : Samples w B A ls) (hB : B ≤ w.heap.size) :
    Calls Try.prog 15 #[.slice A n cap, .slice none 0 0] w (JoinPost w ls.flatten) := by
  have hb := hb.wide hB
  obtain ⟨ad, rfl, hadb, hat⟩ := hb (fun e => by subst e; simp at hl; omega)
  have hs1 := run_lines_tail ad n m cap hn (by omega)
  obtain ⟨ad1, had1⟩ : ∃ a, a = ad.add 1 := ⟨_, rfl⟩
  rw [← had1] at hs1
  have Had1 := Lib.hid had1
  clear had1
  have hs5 : (Try.prog.info? 5).map (·.size) = some 1 := by kernel_rfl
  obtain ⟨T, hT⟩ : ∃ T, ls.flatten.length = T := ⟨_, rfl⟩
  rw [hT] at hm
  have Hl := Lib.hid hl
  have HT := Lib.hid hT
  have hle := flat_le ls
  rw [hT] at hle
  have f0 : ((n : Int) == 0) = false := beq_eq_false_iff_ne.2 (by omega)
  have f1 : ((n : Int) == 1) = false := beq_eq_false_iff_ne.2 (by omega)
  have Hn := Lib.hid hn
  have m6 : m ≤ 1000000 := by omega
  have n2 : (2 : Int) ≤ (n : Int) := by omega
  clear hl hT hn
  go_enter Try.func15, Try.ntmps15
  go_wp2
  go_loopg [5, 44] n (fun g s5 s44 wr => w = wr ∧ ∃ i : Nat, i ≤ n ∧ g = n - i ∧ s44 = .int .i64 i ∧ s5 = .int .i64 (((ls.take i).flatten.length : Nat) : Int))
  case atStart => exact ⟨rfl, 0, Nat.zero_le _, rfl, rfl, by simp⟩
  case round =>
    obtain ⟨rfl, i, hi, rfl, rfl, rfl⟩ := hrel
    by_cases hlt : i < n
    · have hi' : i < ls.length := by have := Hl.out; omega
      obtain ⟨Ai, ci, _, hcell, _⟩ := hat i hi'
      have e1 := congrArg List.length (flat_succ hi')
      rw [List.length_append] at e1
      have hle1 := hle (i + 1)
      rw [e1] at hle1
      have E1 := Lib.hid e1
      clear e1
      generalize (ls.take i).flatten.length = acc at *
      generalize ls[i].length = q at *
      have hbig : ¬ (9223372036854775807 - (acc : Int) < (q : Int)) := by omega
      have i1 : (i : Int) < (n : Int) := by omega
      have i0 : (0 : Int) ≤ (i : Int) := by omega
      go_wp2
      go_roundg (n - (i + 1))
      case measure => omega
      case rel => exact ⟨rfl, i + 1, by omega, rfl, by go_num, by rw [E1.out]; go_num⟩
    · obtain rfl : i = n := by omega
      rw [List.take_of_length_le (by rw [Hl.out]; exact Nat.le_refl _), HT.out]
      obtain ⟨cs, hrunM, hlec, _⟩ := Lib.run_makeNoZero (P := Try.prog) w #[3] 22 5 Try.underlying22 T (by omega)
      have hcall : (callFunc 25 #[.int .i64 (T : Int)]).run Try.prog w = .ok (.value (.slice (some ⟨w.heap.size, 0, none⟩) T cs.size)) ((w.alloc (.cells cs 5)).drewN 2) := by
        rw [run_callFunc_extern Try.func25 (by kernel_rfl) (by kernel_rfl) (by kernel_rfl) (e := Extern.BytealgMakeNoZero.makeNoZero #[3] #[22]) (by kernel_rfl), hrunM]
        rfl
      clear hrunM
      have t0 : (0 : Int) ≤ (T : Int) := by omega
      have t1 : (T : Int) ≤ (cs.size : Int) := by omega
      have B0 := Lib.Buf.start w cs 5 T 2 hlec
      obtain ⟨A0, c0, _, hcell0, hb0⟩ := hat 0 (by rw [Hl.out]; omega)
      rw [show ad.add 0 = ad from by unfold Addr.add; simp] at hcell0
      have hc0 : ((w.alloc (.cells cs 5)).drewN 2).cell? ad = some (.slice A0 (ls[0]'(by rw [Hl.out]; omega)).length c0) := Lib.Below.cellOf B0.below hcell0 (Nat.le_refl _)
      have hl0le := hle 1
      have e0 : (ls.take 1).flatten = ls[0]'(by rw [Hl.out]; omega) := by rw [flat_succ (by rw [Hl.out]; omega)]; simp
      rw [e0] at hl0le
      obtain ⟨w1, hr1, B1⟩ := Lib.copy_part (P := Try.prog) w _ w.heap.size T [] _ (.slice A0 (ls[0]'(by rw [Hl.out]; omega)).length c0) 22 3 5 Try.underlying22 hs5 (Nat.le_refl _) B0 hb0.held (by simp; omega)
      rw [List.length_nil, Lib.tailV_zero] at hr1
      rw [List.nil_append] at B1
      have HB1 : Aside (Lib.Buf w w1 w.heap.size T ((ls.take (0 + 1)).flatten)) := by rw [Nat.zero_add, e0]; exact B1
      have hq0 := congrArg List.length e0
      have Hq0 : Aside ((ls.take (0 + 1)).flatten.length = (ls[0]'(by rw [Hl.out]; omega)).length) := hq0
      clear B1 B0 hq0 e0
      generalize (ls[0]'(by rw [Hl.out]; omega)).length = q at *
      go_wp2_with (at_builtin; refine Lib.wpList_copy_run _ rfl _ _ 22 22 rfl _ _ rfl rfl hr1 ?_)
      clear hr1 hcall hc0 hcell0
      go_loopg [9, 72] m (fun g2 s9 s72 wr => ∃ j : Nat, j ≤ m ∧ m - j ≤ g2 ∧ s72 = .int .i64 j ∧ s9 = .int .i64 (((ls.take (j + 1)).flatten.length : Nat) : Int) ∧ Aside (Lib.Buf w wr w.heap.size T ((ls.take (j + 1)).flatten)))
      case atStart => exact ⟨0, Nat.zero_le _, by omega, rfl, by rw [Hq0.out], HB1⟩
      case round =>
        clear HB1 Hq0
        obtain ⟨j, hj, hg2, rfl, rfl, HB⟩ := hrel
        by_cases hjm : j < m
        · have hj' : j + 1 < ls.length := by have := Hl.out; have := Hn.out; omega
          obtain ⟨Aj, cj, _, hcellj, hbj⟩ := hat (j + 1) hj'
          have hcw : wr.cell? (ad1.add j) = some (.slice Aj ls[j + 1].length cj) := by
            rw [Had1.out, addr_add_add, Nat.add_comm 1 j]
            exact Lib.Below.cellOf HB.out.below hcellj (Nat.le_refl _)
          have hjl := hle (j + 2)
          have e1 := congrArg List.length (flat_succ hj')
          rw [List.length_append] at e1
          rw [e1] at hjl
          obtain ⟨w2, hr2, B2⟩ := Lib.copy_part (P := Try.prog) w wr w.heap.size T _ [] (.slice none 0 0) 22 3 5 Try.underlying22 hs5 (Nat.le_refl _) HB.out (Bytes.nil w 0 none).held (by rw [List.length_nil]; omega)
          rw [List.append_nil] at B2
          obtain ⟨w3, hr3, B3⟩ := Lib.copy_part (P := Try.prog) w w2 w.heap.size T _ ls[j + 1] (.slice Aj ls[j + 1].length cj) 22 3 5 Try.underlying22 hs5 (Nat.le_refl _) B2 hbj.held (by omega)
          have hcw2 : w2.cell? (ad1.add j) = some (.slice Aj ls[j + 1].length cj) := by
            rw [Had1.out, addr_add_add, Nat.add_comm 1 j]
            exact Lib.Below.cellOf B2.below hcellj (Nat.le_refl _)
          rw [← flat_succ hj'] at B3
          have HB3 : Aside (Lib.Buf w w3 w.heap.size T ((ls.take (j + 1 + 1)).flatten)) := B3
          have E1 := Lib.hid e1
          clear B2 B3 hcellj hbj e1 HB
          generalize (ls.take (j + 1)).flatten.length = acc at *
          generalize ls[j + 1].length = q at *
          have hsl1 : ∀ W, (Instr.slice 22 (.slice (some ⟨w.heap.size, 0, none⟩) T T) (some (.int .i64 (acc : Int))) none none).run Try.prog W = .ok (Lib.tailV w.heap.size T acc) W := fun W => Lib.run_slice_tailV W 22 5 Try.underlying22 size8 _ T acc (by omega)
          have j1 : (j : Int) < (m : Int) := by omega
          have j0 : (0 : Int) ≤ (j : Int) := by omega
          simp only [List.length_nil, Int.natCast_zero] at hr2
          go_wp2_with (at_builtin; first | refine Lib.wpList_copy_run _ rfl _ _ 22 22 rfl _ _ rfl rfl hr2 ?_ | refine Lib.wpList_copy_run _ rfl _ _ 22 22 rfl _ _ rfl rfl hr3 ?_)
          go_roundg (m - (j + 1))
          case measure => omega
          case rel => exact ⟨j + 1, by omega, Nat.le_refl _, by go_num, by rw [E1.out]; go_num, HB3⟩
        · obtain rfl : j = m := by omega
          go_wp2
          go_ret
          have e : (ls.take (j + 1)).flatten = ls.flatten := by rw [List.take_of_length_le (by rw [Hl.out, Hn.out]; exact Nat.le_refl _)]
          have hB := HB.out
          rw [e] at hB
          refine ⟨some ⟨w.heap.size, 0, none⟩, T, by rw [HT.out]; rfl, by rw [HT.out]; exact Nat.le_refl _, buf_bytes hB, hB.below⟩
theorem join_any (A : Option Addr) (n cap B : Nat) (ls : List (List UInt8)) (w : World) (hl : ls.length = n) (h1 : 1 ≤ n) (hcap : n ≤ cap) (hn : n ≤ 1000000) (hm : ls.flatten.length ≤ 1000000000) (hb : Samples w B A ls) (hB : B ≤ w.heap.size) :
    Calls Try.prog 15 #[.slice A n cap, .slice none 0 0] w (JoinPost w ls.flatten) := by
  rcases Nat.lt_or_ge 1 n with h | h
  · exact joinMany_any A n (n - 1) cap B ls w hl (by omega) (by omega) hcap hn hm hb hB
  · obtain rfl : n = 1 := by omega
    obtain ⟨l, rfl⟩ : ∃ l, ls = [l] := List.length_eq_one_iff.1 hl
    have e : [l].flatten = l := by simp
    rw [e] at hm ⊢
    exact joinOne_any A cap B l w hm hb hB
end Go.Proofs.Ytoebeibmmclhpaa

/- texts.code and texts.shorter: the payload of lines. -/
namespace Go.Proofs.Ytoebeibmmclhpaa
open Go.RowKit
set_option maxRecDepth 100000
set_option maxHeartbeats 1000000 in
theorem code_any (A : Option Addr) (n cap B : Nat) (ls : List (List UInt8)) (At : Option Addr) (m capt Bt : Nat) (w : World) (hl : ls.length = n) (hn : n ≤ 1000000) (hlm : ls.flatten.length = m) (hcapt : m ≤ capt) (hm : m ≤ 1000000000)
    (hb : Samples w B A ls) (hB : B ≤ w.heap.size) (hbt : Bytes w Bt At ls.flatten) (hBt : Bt ≤ w.heap.size) :
    Calls Try.prog 17 #[.slice A n cap, .slice At m capt] w (MadeAt w.heap.size w (Texts.coded ls).length (Texts.coded ls)) := by
  have hbt := hbt.wide hBt
  have hf := Texts.tab_formed ls
  have hcl := Texts.coded_length ls
  have H1 := Lib.hid (train_any A n cap B ls w hl (by omega) (fun s hs => by have := Texts.line_le hs; omega) hb hB)
  change Hid (Calls Try.prog 31 #[.slice A n cap] w fun e w' => ∃ A' c, e = .returned (.slice A' (Texts.tab ls).length c) ∧ SOwn w' w.heap.size A' (Texts.tab ls).length c (Texts.tab ls) ∧ Below w.heap.size w w') at H1
  have h32 := hf.1
  have hmx : ∀ s ∈ Texts.tab ls, s.length ≤ maxLen := fun s hs => by have := (hf.2.1 s hs).2; unfold maxLen; omega
  have H2 := fun (A1 : Option Addr) (c1 : Nat) (w1 : World) (hc1 : (Texts.tab ls).length ≤ c1) (ho : Strs w1 w1.heap.size A1 (Texts.tab ls)) => putTable_any none A1 0 (Texts.tab ls).length 0 c1 w1.heap.size [] (Texts.tab ls) w1 rfl rfl hc1 (by omega) (by omega) (Bytes.nil _ _ _) ho hmx (Nat.le_refl _)
  have H3 := fun (A1 : Option Addr) (c1 : Nat) (w1 : World) (hc1 : (Texts.tab ls).length ≤ c1) (ho : Strs w1 w1.heap.size A1 (Texts.tab ls)) (hbt : Bytes w1 w1.heap.size At ls.flatten) => encode_any A1 At (Texts.tab ls).length m c1 capt w1.heap.size (Texts.tab ls) ls.flatten w1 rfl hc1 (by omega) hlm hcapt (by omega) ho hmx hbt (Nat.le_refl _)
  unfold PairPost Sym.putTable at H2
  unfold PairPost Sym.encoded at H3
  rw [if_pos hf, List.nil_append] at H2
  rw [if_pos hf] at H3
  simp only [Int.natCast_zero] at H2 H3
  have hcd : Texts.coded ls = Sym.table (Texts.tab ls) ++ Sym.encode (Texts.tab ls) ls.flatten := rfl
  rw [hcd] at hcl ⊢
  rw [List.length_append] at hcl ⊢
  have Hcap : Hid (∀ A1 c1 w1, SOwn w1 w.heap.size A1 (Texts.tab ls).length c1 (Texts.tab ls) → (Texts.tab ls).length ≤ c1) := Lib.hid fun A1 c1 w1 ho => ho.cap
  generalize Sym.table (Texts.tab ls) = X at *
  generalize Sym.encode (Texts.tab ls) ls.flatten = Y at *
  generalize Texts.tab ls = T at *
  obtain ⟨x, hx⟩ : ∃ x, X.length = x := ⟨_, rfl⟩
  obtain ⟨y, hy⟩ : ∃ y, Y.length = y := ⟨_, rfl⟩
  rw [hx] at H2 hcl ⊢
  rw [hy] at H3 hcl ⊢
  have Hy := Lib.hid hy
  generalize T.length = k at *
  generalize ls.flatten = F at *
  rw [hlm] at hcl
  replace H2 := Lib.hid H2
  replace H3 := Lib.hid H3
  clear hcd hmx hf hx hy hlm hl hb
  go_enter Try.func17, Try.ntmps17
  go_wp2_with fail
  refine H1.out.mono ?_
  rintro e w1 ⟨A1, c1, rfl, ho1, hb1⟩
  have hc1 := Hcap.out _ _ _ ho1
  have ht1 := (hbt.below hb1).wide hb1.size
  clear H1
  go_wp2_with fail
  refine (H2.out A1 c1 w1 hc1 ho1.row).mono ?_
  rintro e w2 ⟨A2, c2, rfl, ho2, hb2⟩
  have ho12 := ho1.below hb2
  have ht2 := (ht1.below hb2).wide hb2.size
  have hbel2 := hb1.trans (hb2.mono hb1.size)
  clear H2 ht1
  go_wp2_with fail
  refine (H3.out A1 c1 w2 hc1 ho12.row ht2).mono ?_
  rintro e w3 ⟨A3, c3, rfl, ho3, hb3⟩
  have ho23 := ho2.below hb3
  have hbel3 := hbel2.trans (hb3.mono hbel2.size)
  have hs3 : w1.heap.size ≤ w3.heap.size := Nat.le_trans hb2.size hb3.size
  have hw1 := hb1.size
  clear H3 ht2
  go_wp2_with (at_builtin; refine wpList_append_bytes rfl (.tmp 23) (.tmp 24) rfl w1.heap.size A2 x c2 X rfl ho23 _ A3 y c3 Y rfl Hy.out ho3.bytes (by omega) hs3 ?_; intro A4 c4 w4 ho4 hg4 hat4)
  go_ret
  exact ⟨A4, c4, rfl, ho4.low hw1, hbel3.grown hg4 hbel3.size (fun q hq => Nat.le_trans hw1 (ho23.lt hq).1)⟩
end Go.Proofs.Ytoebeibmmclhpaa

/- texts.lengthsOf; texts.Put's closure with slices.ContainsFunc: is a line too long? -/
namespace Go.Proofs.Ytoebeibmmclhpaa
open Go.RowKit
set_option maxRecDepth 100000
theorem uval_len {m : Nat} (h : m ≤ 9223372036854775807) : uval (UInt64.ofNat m) = .int .u64 (m : Int) := by
  unfold uval
  rw [UInt64.toNat_ofNat_of_lt' (by show m < 18446744073709551616; omega)]
set_option maxHeartbeats 1000000 in
theorem lengthsOf_any (A : Option Addr) (n cap B : Nat) (ls : List (List UInt8)) (w : World) (hl : ls.length = n) (hn : n ≤ 16) (hm : ∀ l ∈ ls, l.length ≤ 65536) (hb : Samples w B A ls) (hB : B ≤ w.heap.size) :
    Calls Try.prog 13 #[.slice A n cap] w fun e w' => ∃ g, e = .returned (.slice (some ⟨g, 0, none⟩) n n) ∧ NOwn w' w.heap.size (some ⟨g, 0, none⟩) n n (Texts.lens ls) ∧ Below w.heap.size w w' := by
  have hb := hb.wide hB
  have hmk := run_make_nums n (by omega) w
  have ho0 := own_nums w n (by simp only [maxLen]; omega)
  have hbel0 : Below w.heap.size w (w.alloc (.cells (madeCells #[.int .u64 0] n) 43)) := (Below.refl _ _).alloc (Nat.le_refl _) _
  generalize w.alloc (.cells (madeCells #[.int .u64 0] n) 43) = w0 at *
  have Hll := Lib.hid (show (Texts.lens ls).length = n from by rw [Texts.lens_length, hl])
  have Hl := Lib.hid hl
  have Hm := Lib.hid hm
  clear hl hm
  obtain ⟨g, hg⟩ : ∃ g, g = w.heap.size := ⟨_, rfl⟩
  rw [← hg] at hmk ho0 hbel0 hb ⊢
  clear hg
  go_enter Try.func13, Try.ntmps13
  go_wp2
  go_loopw [11] (fun i wr => ∃ (k : Nat), k ≤ n ∧ i = .int .i64 k ∧ NOwn wr g (some ⟨g, 0, none⟩) n n ((Texts.lens ls).take k ++ List.replicate (n - k) 0) ∧ Below g w wr) (fun i _ => n - (intOf i).toNat)
  case atStart => exact ⟨0, by omega, rfl, by simpa using ho0, hbel0⟩
  case round =>
    clear ho0 hbel0 hmk
    obtain ⟨k, hk, rfl, ho, hbel⟩ := hrel
    have hbr := hb.below hbel
    by_cases hlt : k < n
    · have hk' : k < ls.length := by have := Hl.out; omega
      obtain ⟨ad, Ai, ci, rfl, _, _, hcell, _⟩ := hbr.at_ hk'
      have hmk := Hm.out _ (List.getElem_mem hk')
      obtain ⟨hg1, hg2⟩ := fill_get (0 : UInt64) Hll.out hlt
      have hold := ho.cell hg1
      rw [hg2] at hold
      have hold' : wr.cell? ⟨g, k, none⟩ = some (.int .u64 0) := hold
      have hfree := ho.free k
      have hst := ho.store k ((Texts.lens ls)[k]'(by rw [Hll.out]; exact hlt))
      rw [fill_set (0 : UInt64) Hll.out hlt, show (Texts.lens ls)[k]'(by rw [Hll.out]; exact hlt) = UInt64.ofNat ls[k].length from by simp [Texts.lens], uval_len (by omega)] at hst
      generalize ls[k].length = m at *
      have Hst := Lib.hid hst
      have Hbl := Lib.hid (hbel.setCell (p := ⟨g, k, none⟩) (Nat.le_refl _) (.int .u64 (m : Int)))
      have i0 : (0 : Int) ≤ (m : Int) := by omega
      clear hst hold hg1 hg2 ho
      go_wp2
      go_roundw
      case rel => exact ⟨k + 1, by omega, by go_num, Hst.out, Hbl.out⟩
      case measure => simp [intOf]; omega
    · obtain rfl : k = n := by omega
      rw [Nat.sub_self, List.replicate_zero, List.append_nil, List.take_of_length_le (by rw [Hll.out]; exact Nat.le_refl _)] at ho
      go_wp2
      go_ret
      exact ⟨g, rfl, ho, hbel⟩
theorem longLine_any (Ai : Option Addr) (m ci : Nat) (w : World) : Calls Try.prog 8 #[.slice Ai m ci] w fun e w' => e = .returned (.bool (decide (65536 < m))) ∧ w = w' := by
  have e : decide (65536 < m) = decide ((65536 : Int) < (m : Int)) := decide_eq_decide.2 (by omega)
  rw [e]
  go_enter Try.func8, Try.ntmps8
  go_wp2
  go_ret
  exact ⟨rfl, rfl⟩
/-- is a line too long? -/
def Texts.long (l : List UInt8) : Bool := decide (65536 < l.length)
set_option maxHeartbeats 1000000 in
theorem txIndex_any (A : Option Addr) (n cap B : Nat) (ls : List (List UInt8)) (w : World) (hl : ls.length = n) (hn : n ≤ 4096) (hb : Samples w B A ls) :
    Calls Try.prog 14 #[.slice A n cap, .func (.func 8) #[] #[]] w fun e w' => (∃ x : Int, e = .returned (.int .i64 x) ∧ decide (0 ≤ x) = ls.any Texts.long) ∧ w = w' := by
  have Hl := Lib.hid hl; clear hl
  go_enter Try.func14, Try.ntmps14
  go_wp2
  go_loopw [8] (fun i wr => ∃ (k : Nat), k ≤ n ∧ i = .int .i64 k ∧ (ls.take k).any Texts.long = false ∧ w = wr) (fun i _ => n - (intOf i).toNat)
  case atStart => exact ⟨0, Nat.zero_le _, rfl, rfl, rfl⟩
  case round =>
    obtain ⟨k, hk, rfl, hno, rfl⟩ := hrel
    by_cases hlt : k < n
    · have hk' : k < ls.length := by have := Hl.out; omega
      obtain ⟨ad, Ai, ci, rfl, _, _, hcell, _⟩ := hb.at_ hk'
      have i1 : (k : Int) < (n : Int) := by omega
      have i0 : (0 : Int) ≤ (k : Int) := by omega
      have H := Lib.hid (longLine_any Ai ls[k].length ci w)
      have htk : (ls.take (k + 1)).any Texts.long = Texts.long ls[k] := by rw [List.take_succ_eq_append_getElem hk', List.any_append, hno]; simp
      have hmem := List.getElem_mem hk'
      have hu : Texts.long ls[k] = decide (65536 < ls[k].length) := rfl
      rw [← hu] at H
      generalize ls[k] = c at *
      generalize c.length = m at *
      clear hu
      go_wp2_with fail
      refine H.out.mono ?_
      rintro e w2 ⟨rfl, rfl⟩
      clear H
      rcases hbd : Texts.long c with _ | _
      · go_wp2
        go_roundw
        case rel => exact ⟨k + 1, by omega, by go_num, by rw [htk, hbd], trivial⟩
        case measure => simp [intOf]; omega
      · go_wp2
        go_ret
        exact ⟨⟨k, rfl, by rw [decide_eq_true i0]; exact (List.any_eq_true.2 ⟨c, hmem, hbd⟩).symm⟩, rfl⟩
    · have e : ls.take k = ls := List.take_of_length_le (by have := Hl.out; omega)
      rw [e] at hno
      go_wp2
      go_ret
      exact ⟨⟨-1, rfl, by rw [hno]; rfl⟩, rfl⟩
theorem txHas_any (A : Option Addr) (n cap B : Nat) (ls : List (List UInt8)) (w : World) (hl : ls.length = n) (hn : n ≤ 4096) (hb : Samples w B A ls) :
    Calls Try.prog 7 #[.slice A n cap, .func (.func 8) #[] #[]] w fun e w' => e = .returned (.bool (ls.any Texts.long)) ∧ w = w' := by
  have H := Lib.hid (txIndex_any A n cap B ls w hl hn hb)
  go_enter Try.func7, Try.ntmps7
  go_wp2_with fail
  refine H.out.mono ?_
  rintro e w2 ⟨⟨x, rfl, hx⟩, rfl⟩
  go_wp2
  go_ret
  exact ⟨by rw [← hx]; rfl, rfl⟩
end Go.Proofs.Ytoebeibmmclhpaa

/- texts.shorter and texts.Put. -/
namespace Go.Proofs.Ytoebeibmmclhpaa
open Go.RowKit
set_option maxRecDepth 100000
set_option maxHeartbeats 1000000 in
theorem shorter_any (A : Option Addr) (n cap B : Nat) (ls : List (List UInt8)) (w : World) (hl : ls.length = n) (h1 : 1 ≤ n) (hcap : n ≤ cap) (hn : n ≤ 1000000) (hm : ls.flatten.length ≤ 100000000)
    (hb : Samples w B A ls) (hB : B ≤ w.heap.size) :
    Calls Try.prog 9 #[.slice A n cap] w fun e w' => ∃ A' c, e = .returned (.tuple #[.int .u8 ((Texts.kind ls).toNat : Int), .slice A' (Texts.payload ls).length c]) ∧ Own w' w.heap.size A' (Texts.payload ls).length c (Texts.payload ls) ∧ Below w.heap.size w w' := by
  have hb := hb.wide hB
  have H1 := Lib.hid (join_any A n cap _ ls w hl h1 hcap hn (by omega) hb (Nat.le_refl _))
  have H2 := fun (At : Option Addr) (c : Nat) (w1 : World) (hc : ls.flatten.length ≤ c) (ht : Bytes w1 w1.heap.size At ls.flatten) => lzPack_any At ls.flatten.length c w1.heap.size ls.flatten w1 rfl hc (by omega) ht (Nat.le_refl _)
  have H3 := Lib.hid fun (At : Option Addr) (c : Nat) (w1 : World) (hc : ls.flatten.length ≤ c) (h1 : Samples w1 w1.heap.size A ls) (ht : Bytes w1 w1.heap.size At ls.flatten) => code_any A n cap w1.heap.size ls At ls.flatten.length c w1.heap.size w1 hl hn rfl hc (by omega) h1 (Nat.le_refl _) ht (Nat.le_refl _)
  have hpk : Lz.packed ls.flatten = Texts.packed ls := rfl
  rw [hpk] at H2
  have H2 := Lib.hid H2
  unfold JoinPost at H1
  unfold MadeAt at H2 H3
  have hkind : Texts.kind ls = if (Texts.coded ls).length < (Texts.packed ls).length then 2 else 1 := rfl
  have hpay : Texts.payload ls = if (Texts.coded ls).length < (Texts.packed ls).length then Texts.coded ls else Texts.packed ls := rfl
  rw [hkind, hpay]
  have hb' := Lib.hid hb
  generalize Texts.coded ls = X at *
  generalize Texts.packed ls = Y at *
  generalize ls.flatten = F at *
  obtain ⟨f, hf⟩ : ∃ f, F.length = f := ⟨_, rfl⟩
  rw [hf] at H1 H2 H3
  clear hkind hpay hpk hl hb hf hm
  go_enter Try.func9, Try.ntmps9
  go_wp2_with fail
  refine H1.out.mono ?_
  rintro e w1 ⟨A1, c1, rfl, hc1, hx1, hb1⟩
  clear H1
  go_wp2_with fail
  refine (H2.out A1 c1 w1 hc1 hx1).mono ?_
  rintro e w2 ⟨A2, c2, rfl, ho2, hb2⟩
  have hx2 := (hx1.below hb2).wide hb2.size
  have hbel2 := hb1.trans (hb2.mono hb1.size)
  have hs2 := (hb'.out.below hbel2).wide hbel2.size
  clear H2
  go_wp2_with fail
  refine (H3.out A1 c1 w2 hc1 hs2 hx2).mono ?_
  rintro e w3 ⟨A3, c3, rfl, ho3, hb3⟩
  have ho23 := ho2.below hb3
  have hbel3 := hbel2.trans (hb3.mono hbel2.size)
  have hw1 := hb1.size
  have hw2 := hbel2.size
  clear H3 hb'
  by_cases hlt : X.length < Y.length
  · have hlt' : (X.length : Int) < (Y.length : Int) := by omega
    go_wp2
    go_ret2
    exact ⟨A3, c3, rfl, ho3.low hw2, hbel3⟩
  · have hlt' : ¬ ((X.length : Int) < (Y.length : Int)) := by omega
    go_wp2
    go_ret2
    exact ⟨A2, c2, rfl, ho23.low hw1, hbel3⟩
set_option maxHeartbeats 1000000 in
theorem putTexts_any (Ab A : Option Addr) (m n capb cap : Nat) (b : List UInt8) (ls : List (List UInt8)) (w : World) (hlb : b.length = m) (hm : m ≤ 140737488351232) (hl : ls.length = n) (hcap : n ≤ cap) (hn : n ≤ 140737488351232)
    (hF : Texts.right ls = 0 → ls.flatten.length ≤ 2000 ∨ ls.flatten.length ≤ 1000000 ∧ m ≤ 1000000) (hbb : Bytes w w.heap.size Ab b) (hb : Samples w w.heap.size A ls) :
    Calls Try.prog 5 #[.slice Ab m capb, .slice A n cap] w (PairPost w (Texts.put b ls)) := by
  unfold Texts.put
  by_cases h16 : ls.length < 1 ∨ 16 < ls.length
  · have hr : Texts.right ls = 1 := by unfold Texts.right; rw [if_pos h16]
    rw [hr, if_neg (by decide)]
    rw [hl] at h16
    have h16' : (n : Int) < 1 ∨ 16 < (n : Int) := by omega
    clear hF hb hbb hl hlb hr
    go_enter Try.func5, Try.ntmps5
    rcases h16' with h | h
    · go_wp2
      go_ret2
      exact PairPost.none 1 (Below.refl _ _)
    · have h0 : ¬ ((n : Int) < 1) := by omega
      go_wp2
      go_ret2
      exact PairPost.none 1 (Below.refl _ _)
  · have hn16 : 1 ≤ n ∧ n ≤ 16 := by omega
    have g1 : ¬ ((n : Int) < 1) := by omega
    have g2 : ¬ ((16 : Int) < (n : Int)) := by omega
    have H1 := Lib.hid (txHas_any A n cap _ ls w hl (by omega) hb)
    have hr : Texts.right ls = if ls.any Texts.long = true then 5 else 0 := by unfold Texts.right; rw [if_neg h16]; rfl
    rw [hr] at hF ⊢
    rcases hany : ls.any Texts.long with _ | _
    · have hz : (if ls.any Texts.long = true then 5 else 0) = 0 := by rw [hany]; rfl
      rw [hany] at H1
      rw [hany] at hz
      rw [hany] at hr
      rw [hany] at hF
      rw [hz] at hF hr ⊢
      rw [if_pos rfl]
      have hF' := hF rfl
      have hok := Texts.right_lines hr
      have hpl := Texts.payload_length ls
      have hll := Texts.list_short (Texts.lens ls) (by rw [Texts.lens_length, hl]; omega)
      have H2 := Lib.hid (shorter_any A n cap _ ls w hl hn16.1 hcap (by omega) (by omega) hb (Nat.le_refl _))
      have H3 := Lib.hid fun (g : Nat) (A1 : Option Addr) (w1 : World) (k : UInt8) hbb hk hg hc1 hc2 => concat2_any g m capb 1 1 w1.heap.size Ab A1 b [k] w1 hlb rfl (by omega) (by omega) hbb hk (Nat.le_refl _) hg hc1 hc2
      have H4 := Lib.hid fun (w1 : World) (hb1 : Samples w1 w1.heap.size A ls) => lengthsOf_any A n cap w1.heap.size ls w1 hl (by omega) hok.2.2 hb1 (Nat.le_refl _)
      have hlt : (b ++ [Texts.kind ls] ++ Pfor.list (Texts.lens ls)).length = m + 1 + (Pfor.list (Texts.lens ls)).length := by rw [List.length_append, List.length_append, hlb]; rfl
      have H5 := Lib.hid fun (g1 c1 g2 : Nat) (w1 : World) hx hy => putList_wide (some ⟨g1, 0, none⟩) (some ⟨g2, 0, none⟩) (m + 1) c1 n n (b ++ [Texts.kind ls]) (Texts.lens ls) w1 (by rw [List.length_append, hlb]; rfl) (by rw [Texts.lens_length, hl]) (by omega) (by omega) (Nat.le_refl _) (by omega) hx hy
      have H6 := fun (g1 c1 : Nat) (A2 : Option Addr) (c2 : Nat) (w1 : World) hx hy => putRow_wide (some ⟨g1, 0, none⟩) A2 (b ++ [Texts.kind ls] ++ Pfor.list (Texts.lens ls)).length (Texts.payload ls).length c1 c2 w1.heap.size w1.heap.size (b ++ [Texts.kind ls] ++ Pfor.list (Texts.lens ls)) (Texts.payload ls) w1 rfl rfl (by omega) hx hy (Nat.le_refl _) (Nat.le_refl _)
      have hby : b ++ Texts.bytes ls = b ++ [Texts.kind ls] ++ Pfor.list (Texts.lens ls) ++ Num.row (Texts.payload ls) := by unfold Texts.bytes; simp
      rw [hby]
      have hsz : (b ++ [Texts.kind ls] ++ Pfor.list (Texts.lens ls) ++ Num.row (Texts.payload ls)).length = (b ++ [Texts.kind ls] ++ Pfor.list (Texts.lens ls)).length + (Num.size (Texts.payload ls).length + (Texts.payload ls).length) := by rw [List.length_append, Num.row_length]
      rw [← hsz] at H6
      have Hb := Lib.hid hb
      have Hbb := Lib.hid hbb
      have hk1 := fun (w1 : World) => own_one w1 (Texts.kind ls) ((Texts.kind ls).toNat : Int) rfl
      have Hk := Lib.hid hk1
      replace H6 := Lib.hid H6
      clear hF hF' hlt hsz hby hk1 hz hok hpl hll hb hbb hlb hl hany
      generalize b ++ [Texts.kind ls] ++ Pfor.list (Texts.lens ls) ++ Num.row (Texts.payload ls) = Z at *
      generalize b ++ [Texts.kind ls] ++ Pfor.list (Texts.lens ls) = Y at *
      generalize Texts.payload ls = P at *
      generalize Texts.kind ls = k at *
      generalize Texts.lens ls = L at *
      go_enter Try.func5, Try.ntmps5
      go_wp2_with fail
      refine H1.out.mono ?_
      rintro e w1 ⟨rfl, rfl⟩
      clear H1
      go_wp2_with fail
      refine H2.out.mono ?_
      rintro e w2 ⟨A2, c2, rfl, ho2, hb2⟩
      clear H2
      have ba : Below w2.heap.size w2 (w2.alloc (.cells #[.int .u8 (k.toNat : Int)] 5)) := (Below.refl _ _).alloc (Nat.le_refl _) _
      have ka := (Hk.out w2).bytes
      have bs := (Hb.out.below hb2).wide hb2.size
      have bb := (Hbb.out.below hb2).wide hb2.size
      have hw2 := hb2.size
      have sa : (w2.alloc (.cells #[.int .u8 (k.toNat : Int)] 5)).heap.size = w2.heap.size + 1 := by simp
      have bel2 := hb2.trans (ba.mono hw2)
      have os := ho2.below ba
      have ss := (bs.below ba).wide ba.size
      have sb := (bb.below ba).wide ba.size
      clear bs bb Hb Hbb Hk ho2 hb2
      generalize hwa : w2.alloc (.cells #[.int .u8 (k.toNat : Int)] 5) = wa at *
      have Hwa := Lib.hid hwa
      clear hwa
      have bc : Below wa.heap.size wa (wa.alloc (.cells #[.slice Ab m capb, .slice (some ⟨w2.heap.size, 0, none⟩) 1 1] 22)) := (Below.refl _ _).alloc (Nat.le_refl _) _
      have hcA : (wa.alloc (.cells #[.slice Ab m capb, .slice (some ⟨w2.heap.size, 0, none⟩) 1 1] 22)).cell? ⟨wa.heap.size, 0, none⟩ = some (.slice Ab m capb) := by rw [World.cell?_alloc_at _ _ _ _ rfl]; rfl
      have hcB : (wa.alloc (.cells #[.slice Ab m capb, .slice (some ⟨w2.heap.size, 0, none⟩) 1 1] 22)).cell? ⟨wa.heap.size, 1, none⟩ = some (.slice (some ⟨w2.heap.size, 0, none⟩) 1 1) := by rw [World.cell?_alloc_at _ _ _ _ rfl]; rfl
      have C3 := (H3.out wa.heap.size (some ⟨w2.heap.size, 0, none⟩) _ k ((sb.below bc).wide bc.size) ((ka.below bc).wide bc.size) (by simp) hcA hcB)
      rw [sa] at C3
      replace C3 := Lib.hid C3
      have bel3 := bel2.trans (bc.mono bel2.size)
      have s3 := (ss.below bc).wide bc.size
      have o3 := os.below bc
      have HS3 := Lib.hid s3
      have HO3 := Lib.hid o3
      have HB3 := Lib.hid bel3
      have hsz3 : w2.heap.size ≤ (wa.alloc (.cells #[.slice Ab m capb, .slice (some ⟨w2.heap.size, 0, none⟩) 1 1] 22)).heap.size := by simp; omega
      clear hcA hcB H3 bc ss sb ka os ba s3 o3 bel3 bel2 sa
      have e := Hwa.out
      subst e
      clear Hwa
      go_wp2_with fail
      generalize (w2.alloc (.cells #[.int .u8 (k.toNat : Int)] 5)).alloc (.cells #[.slice Ab m capb, .slice (some ⟨w2.heap.size, 0, none⟩) 1 1] 22) = w3 at *
      refine C3.out.mono ?_
      rintro e w4 ⟨g4, c4, rfl, ho4, hb4⟩
      have bel4 := HB3.out.trans (hb4.mono HB3.out.size)
      have s4 := (HS3.out.below hb4).wide hb4.size
      have o4 := HO3.out.below hb4
      clear C3 HS3 HO3 HB3
      have C4 := Lib.hid (H4.out w4 s4)
      clear H4 s4
      go_wp2_with fail
      refine C4.out.mono ?_
      rintro e w5 ⟨g5, rfl, ho5, hb5⟩
      have bel5 := bel4.trans (hb5.mono bel4.size)
      have o5 := o4.below hb5
      have x5 := ho4.below hb5
      clear C4 o4
      have C5 := Lib.hid (H5.out g4 c4 g5 w5 x5.bytes ho5.row)
      clear H5 x5
      go_wp2_with fail
      refine C5.out.mono ?_
      rintro e w6 ⟨g6, c6, rfl, ho6, hb6⟩
      have bel6 := bel5.trans (hb6.mono bel5.size)
      have o6 := o5.below hb6
      clear C5 o5
      have C6 := Lib.hid (H6.out g6 c6 A2 c2 w6 ho6.bytes o6.bytes)
      clear H6 ho6 o6
      go_wp2_with fail
      refine C6.out.mono ?_
      rintro e w7 ⟨g7, c7, rfl, ho7, hb7⟩
      clear C6
      go_wp2
      go_ret2
      exact ⟨_, c7, rfl, ho7.low bel6.size, bel6.trans (hb7.mono bel6.size)⟩
    · rw [hany] at H1 hr
      rw [if_pos rfl, if_neg (by decide)]
      clear hF hb hbb hl hlb hr
      go_enter Try.func5, Try.ntmps5
      go_wp2_with fail
      refine H1.out.mono ?_
      rintro e w1 ⟨rfl, rfl⟩
      clear H1
      go_wp2
      go_ret2
      exact PairPost.none 5 (Below.refl _ _)
end Go.Proofs.Ytoebeibmmclhpaa

/- The fixed fact on lines: plain. -/
namespace Go.Proofs.Ytoebeibmmclhpaa.Texts
theorem fix_pieces : Sym.pieces [[97, 98, 99]] 1024 = [[97, 98], [97, 98, 99], [98, 99]] := by decide +kernel
theorem fix_tab : tab [[97, 98, 99]] = [] := by
  unfold tab
  rw [fix_pieces]
  refine List.eq_nil_iff_forall_not_mem.2 fun s hs => ?_
  have h := Sym.mem_srt.1 (List.mem_of_mem_take hs)
  have hm := Sym.count_mem h
  rcases List.mem_cons.1 hm with rfl | hm
  · revert h; decide
  · rcases List.mem_cons.1 hm with rfl | hm
    · revert h; decide
    · rcases List.mem_cons.1 hm with rfl | hm
      · revert h; decide
      · cases hm
theorem fix_enc : Sym.encode [] [97, 98, 99] = [255, 97, 255, 98, 255, 99] := by
  have e : ∀ b, Sym.longest [] b = none := fun b => rfl
  unfold Sym.encode
  rw [e]
  simp only
  unfold Sym.encode
  rw [e]
  simp only
  unfold Sym.encode
  rw [e]
  simp only
  rw [Sym.encode_nil]
theorem fix_coded : coded [[97, 98, 99]] = [0, 255, 97, 255, 98, 255, 99] := by
  unfold coded
  rw [fix_tab, show List.flatten [[97, 98, 99]] = ([97, 98, 99] : List UInt8) from rfl, fix_enc]
  decide +kernel
theorem fix_packed : packed [[97, 98, 99]] = [48, 97, 98, 99] := by decide +kernel
theorem fix_list : Pfor.list (lens [[97, 98, 99]]) = [1, 1, 3, 0, 0] := by
  unfold Pfor.list
  rw [Pfor.blocks_cons (by simp [lens])]
  rw [show (lens [[97, 98, 99]]).drop 32 = [] from rfl, Pfor.blocks_nil]
  decide +kernel
theorem fix_put : put [] [[97, 98, 99]] = ([1, 1, 1, 3, 0, 0, 4, 48, 97, 98, 99], 0) := by
  have hr : right [[97, 98, 99]] = 0 := by decide
  have hk : kind [[97, 98, 99]] = 1 := by unfold kind; rw [fix_coded, fix_packed]; rfl
  have hp : payload [[97, 98, 99]] = [48, 97, 98, 99] := by unfold payload; rw [fix_coded, fix_packed]; rfl
  unfold put
  rw [if_pos hr]
  unfold bytes
  rw [hk, hp, fix_list]
  decide +kernel
end Go.Proofs.Ytoebeibmmclhpaa.Texts

/- What the laws on lines share: alive. -/
namespace Go.Proofs.Ytoebeibmmclhpaa
open Go.RowKit
set_option maxRecDepth 100000
theorem cell_marked (w : World) (C : Array Value) (t : TypeId) (m : Nat × Nat) (i : Nat) : (w.alloc (.cells C t m)).cell? ⟨w.heap.size, i, none⟩ = C[i]? := by
  have h : (w.alloc (.cells C t m)).heap[w.heap.size]? = some (.cells C t m) := by
    show (w.heap.push (.cells C t m))[w.heap.size]? = _
    simp
  simp only [World.cell?, h]
  rfl
theorem bytes_abc (w : World) : Bytes (w.alloc (.cells #[.int .u8 97, .int .u8 98, .int .u8 99] 5 (3, 4))) (w.alloc (.cells #[.int .u8 97, .int .u8 98, .int .u8 99] 5 (3, 4))).heap.size (some ⟨w.heap.size, 0, none⟩) [97, 98, 99] := fun _ =>
  ⟨_, rfl, by simp, fun i hi => match i, hi with
    | 0, _ => (cell_marked w _ _ _ 0).trans rfl
    | 1, _ => (cell_marked w _ _ _ 1).trans rfl
    | 2, _ => (cell_marked w _ _ _ 2).trans rfl
    | k + 3, h => absurd h (by simp)⟩
theorem run_abc (w : World) : (convert 22 22 (.slice (some ⟨w.heap.size, 0, none⟩) 3 3)).run Try.prog (w.alloc (.cells #[.int .u8 97, .int .u8 98, .int .u8 99] 5)) = .ok (.slice (some ⟨w.heap.size, 0, none⟩) 3 3) (w.alloc (.cells #[.int .u8 97, .int .u8 98, .int .u8 99] 5 (3, 4))) :=
  Lib.run_convert_bytes_const (P := Try.prog) w 22 5 #[.int .u8 97, .int .u8 98, .int .u8 99] 3 3 Try.underlying22 Try.underlying5
theorem samples_one (w : World) (A : Option Addr) (c : Nat) (l : List UInt8) (hc : l.length ≤ c) (h : Bytes w w.heap.size A l) :
    Samples (w.alloc (.cells #[.slice A l.length c] 22)) (w.alloc (.cells #[.slice A l.length c] 22)).heap.size (some ⟨w.heap.size, 0, none⟩) [l] := fun _ => by
  have hb : Below w.heap.size w (w.alloc (.cells #[.slice A l.length c] 22)) := (Below.refl _ _).alloc (Nat.le_refl _) _
  refine ⟨_, rfl, by simp, fun i hi => ?_⟩
  have h0 : i = 0 := by simp at hi; omega
  subst h0
  exact ⟨A, c, hc, cell_marked w _ _ _ 0, (h.below hb).wide hb.size⟩
theorem own_eleven (w : World) : Own (w.alloc (.cells #[.int .u8 1, .int .u8 1, .int .u8 1, .int .u8 3, .int .u8 0, .int .u8 0, .int .u8 4, .int .u8 48, .int .u8 97, .int .u8 98, .int .u8 99] 5)) w.heap.size (some ⟨w.heap.size, 0, none⟩) 11 11 [1, 1, 1, 3, 0, 0, 4, 48, 97, 98, 99] :=
  own_lit w w.heap.size [1, 1, 1, 3, 0, 0, 4, 48, 97, 98, 99] (Nat.le_refl _) (by simp [maxLen])
set_option maxHeartbeats 1000000 in
theorem txAlive_any (w : World) : Calls Try.prog 4 #[] w fun e w' => e = .returned (.bool true) ∧ Below w.heap.size w w' := by
  have h1 := bytes_abc w
  have hb1 : Below w.heap.size w (w.alloc (.cells #[.int .u8 97, .int .u8 98, .int .u8 99] 5 (3, 4))) := (Below.refl _ _).alloc (Nat.le_refl _) _
  have sz1 : (w.alloc (.cells #[.int .u8 97, .int .u8 98, .int .u8 99] 5 (3, 4))).heap.size = w.heap.size + 1 := by simp
  have hcv := run_abc w
  obtain ⟨w1, hw1⟩ : ∃ w1, w1 = w.alloc (.cells #[.int .u8 97, .int .u8 98, .int .u8 99] 5 (3, 4)) := ⟨_, rfl⟩
  rw [← hw1] at h1 hb1 sz1
  have h2 := samples_one w1 _ 3 [97, 98, 99] (by simp) h1
  have hb2 : Below w.heap.size w (w1.alloc (.cells #[.slice (some ⟨w.heap.size, 0, none⟩) 3 3] 22)) := hb1.alloc hb1.size _
  have P1 := putTexts_any none (some ⟨w1.heap.size, 0, none⟩) 0 1 0 1 [] [[97, 98, 99]] _ rfl (by omega) rfl (by omega) (by omega) (fun _ => .inl (by decide)) (Bytes.nil _ _ _) h2
  rw [Texts.fix_put] at P1
  unfold PairPost at P1
  simp only [List.length_cons, List.length_nil, Nat.zero_add, Nat.reduceAdd, Int.natCast_zero] at P1
  rw [sz1] at P1
  replace P1 := Lib.hid P1
  have HB2 := Lib.hid hb2
  have Hw := Lib.hid hw1
  clear h1 hb1 sz1 h2 hb2 hw1
  have e := Hw.out
  subst e
  clear Hw
  go_enter Try.func4, Try.ntmps4
  go_wp2_with fail
  generalize (w.alloc (.cells #[.int .u8 97, .int .u8 98, .int .u8 99] 5 (3, 4))).alloc (.cells #[.slice (some ⟨w.heap.size, 0, none⟩) 3 3] 22) = w2 at *
  refine P1.out.mono ?_
  rintro e w3 ⟨A3, c3, rfl, ho3, hb3⟩
  have hbel3 := HB2.out.trans (hb3.mono HB2.out.size)
  clear P1 HB2
  have S1 := same_any A3 _ 11 11 c3 11 _ _ [1, 1, 1, 3, 0, 0, 4, 48, 97, 98, 99] [1, 1, 1, 3, 0, 0, 4, 48, 97, 98, 99] _ rfl rfl (ho3.alloc (.cells #[.int .u8 1, .int .u8 1, .int .u8 1, .int .u8 3, .int .u8 0, .int .u8 0, .int .u8 4, .int .u8 48, .int .u8 97, .int .u8 98, .int .u8 99] 5)).bytes (own_eleven w3).bytes
  rw [beq_self_eq_true] at S1
  replace S1 := Lib.hid S1
  have hbel4 : Below w.heap.size w (w3.alloc (.cells #[.int .u8 1, .int .u8 1, .int .u8 1, .int .u8 3, .int .u8 0, .int .u8 0, .int .u8 4, .int .u8 48, .int .u8 97, .int .u8 98, .int .u8 99] 5)) := hbel3.alloc hbel3.size _
  go_wp2_with fail
  generalize w3.alloc (.cells #[.int .u8 1, .int .u8 1, .int .u8 1, .int .u8 3, .int .u8 0, .int .u8 0, .int .u8 4, .int .u8 48, .int .u8 97, .int .u8 98, .int .u8 99] 5) = w4 at *
  refine S1.out.mono ?_
  rintro e w5 ⟨rfl, rfl⟩
  clear S1
  go_wp2
  go_ret
  exact ⟨rfl, hbel4⟩
end Go.Proofs.Ytoebeibmmclhpaa

/- Slices of byte slices: what they hold. -/
namespace Go.Proofs.Ytoebeibmmclhpaa
open Go.RowKit
set_option maxRecDepth 100000
/-- A slice of byte slices with address A holds the lists ls, in blocks below B. -/
def Lists (w : World) (B : Nat) (A : Option Addr) (ls : List (List UInt8)) : Prop :=
  ls ≠ [] → ∃ ad, A = some ad ∧ ad.block < B ∧ ∀ i, (h : i < ls.length) → ∃ Ai ci, w.cell? (ad.add i) = some (.slice Ai ls[i].length ci) ∧ Bytes w B Ai ls[i]
namespace Lists
variable {w w' : World} {B B' : Nat} {A : Option Addr} {ls : List (List UInt8)}
theorem nil (w : World) (B : Nat) (A : Option Addr) : Lists w B A [] := fun h => absurd rfl h
theorem keep (h : Lists w B A ls) (hk : ∀ p : Addr, p.block < B → w'.cell? p = w.cell? p) : Lists w' B A ls := fun hn => by
  obtain ⟨ad, ha, hb, hc⟩ := h hn
  refine ⟨ad, ha, hb, fun i hi => ?_⟩
  obtain ⟨Ai, ci, h1, h2⟩ := hc i hi
  exact ⟨Ai, ci, (hk _ (by rw [addr_add_block]; exact hb)).trans h1, h2.keep hk⟩
theorem below (h : Lists w B A ls) (hb : Below B w w') : Lists w' B A ls := h.keep fun _ hp => hb.cell hp
theorem wide (h : Lists w B A ls) (hB : B ≤ B') : Lists w B' A ls := fun hn => by
  obtain ⟨ad, ha, hb, hc⟩ := h hn
  refine ⟨ad, ha, Nat.lt_of_lt_of_le hb hB, fun i hi => ?_⟩
  obtain ⟨Ai, ci, h1, h2⟩ := hc i hi
  exact ⟨Ai, ci, h1, h2.wide hB⟩
theorem drewN (h : Lists w B A ls) (q : Nat) : Lists (w.drewN q) B A ls := h
theorem take (h : Lists w B A ls) (k : Nat) : Lists w B A (ls.take k) := fun hn => by
  obtain ⟨ad, ha, hb, hc⟩ := h (fun e => hn (by subst e; simp))
  refine ⟨ad, ha, hb, fun i hi => ?_⟩
  have hi' : i < ls.length := by simp at hi; omega
  obtain ⟨Ai, ci, h1, h2⟩ := hc i hi'
  have e : (ls.take k)[i] = ls[i] := List.getElem_take
  rw [e]
  exact ⟨Ai, ci, h1, h2⟩
theorem at_ (h : Lists w B A ls) {k : Nat} (hk : k < ls.length) : ∃ ad Ai ci, A = some ad ∧ ad.block < B ∧ w.cell? (ad.add k) = some (.slice Ai ls[k].length ci) ∧ Bytes w B Ai ls[k] := by
  obtain ⟨ad, ha, hb, hc⟩ := h (fun e => by subst e; simp at hk)
  obtain ⟨Ai, ci, h1, h2⟩ := hc k hk
  exact ⟨ad, Ai, ci, ha, hb, h1, h2⟩
end Lists
end Go.Proofs.Ytoebeibmmclhpaa

/- What a byte slice is as an element. -/
namespace Go.Proofs.Ytoebeibmmclhpaa
open Go.RowKit
theorem list_info : (Try.prog.info? 22).map (fun i => (i.zero, i.size, i.bytes)) = some (some (.slice none 0 0), 1, 24) := by kernel_rfl
end Go.Proofs.Ytoebeibmmclhpaa

/- Lines alike: how few bytes their granule has; lines that are one slice again and again. -/
namespace Go.Proofs.Ytoebeibmmclhpaa
open Go.ChangeShapes Go.WideShapes Go.ChangeAt Go.RowKit
set_option maxRecDepth 100000
theorem Texts.block_small {l : List UInt64} (hl : l.length ≤ 16) (hs : ∀ x ∈ l, x.toNat < 8192) : (Pfor.block l).length ≤ 38 := by
  have h1 := Pfor.block_least l (w := 13) (by omega)
  rw [Pfor.byW_length] at h1
  have h2 := Num.size_le9 (Pfor.base_lt l)
  have hf : Bits.Fit 13 (Pfor.diffs l) := fun x hx => by
    obtain ⟨y, hy, rfl⟩ := List.mem_map.1 hx
    have := hs y hy
    rw [UInt64.toNat_ofNat_of_lt' (by show y.toNat - Pfor.base l < 18446744073709551616; omega)]
    omega
  have e := Pfor.excs_fit (i := 0) hf
  unfold Pfor.bodySize Bits.size at h1
  rw [e, Pfor.diffs_length, List.length_nil] at h1
  omega
theorem Texts.list_small {l : List UInt64} (hl : l.length ≤ 16) (hs : ∀ x ∈ l, x.toNat < 8192) : (Pfor.list l).length ≤ 39 := by
  have hn : (Num.num l.length).length = 1 := by rw [Num.num_length, Num.size, if_pos (by omega)]
  unfold Pfor.list
  rw [List.length_append, hn]
  by_cases h : l = []
  · subst h; rw [Pfor.blocks_nil]; simp
  · rw [Pfor.blocks_cons h, List.take_of_length_le (by omega), List.drop_eq_nil_of_le (by omega), Pfor.blocks_nil, List.append_nil]
    have := Texts.block_small hl hs
    omega
theorem Texts.flat_rep (l : List UInt8) : ∀ k, (List.replicate k l).flatten.length = k * l.length
  | 0 => by simp
  | k + 1 => by rw [List.replicate_succ, List.flatten_cons, List.length_append, Texts.flat_rep l k, Nat.succ_mul]; omega
theorem Texts.right_rep {l : List UInt8} {k : Nat} (h1 : 1 ≤ k) (h2 : k ≤ 16) (hl : l.length ≤ 65536) : Texts.right (List.replicate k l) = 0 := by
  unfold Texts.right
  rw [List.length_replicate, if_neg (by omega), if_neg]
  rw [List.any_eq_true]
  rintro ⟨x, hx, hd⟩
  have := List.eq_of_mem_replicate hx
  subst this
  have := of_decide_eq_true hd
  omega
theorem Texts.bytes_few {l : List UInt8} {k : Nat} (h2 : k ≤ 16) (hl : l.length ≤ 4096) : (Texts.bytes (List.replicate k l)).length ≤ k * l.length + k * l.length / 255 + 60 := by
  have hp := Texts.payload_length (List.replicate k l)
  rw [Texts.flat_rep] at hp
  have hk := Nat.mul_le_mul h2 hl
  have h9 := Num.size_le9 (v := (Texts.payload (List.replicate k l)).length) (by omega)
  have hs := Texts.list_small (l := Texts.lens (List.replicate k l)) (by rw [Texts.lens_length, List.length_replicate]; exact h2) (fun x hx => by
    obtain ⟨y, hy, rfl⟩ := List.mem_map.1 hx
    have := List.eq_of_mem_replicate hy
    subst this
    rw [UInt64.toNat_ofNat_of_lt' (by show y.length < 18446744073709551616; omega)]
    omega)
  rw [Texts.bytes_length]
  omega
/-- a slice as the one kind of value -/
def oneV (A : Option Addr) (n c : Nat) : Unit → Value := fun _ => .slice A n c
theorem elemOne (A : Option Addr) (n c : Nat) : Elem (oneV A n c) 24 22 24 := ⟨fun _ => rfl, Try.underlying24, by
  obtain ⟨i0, hi0, hz0, hz1, hz2⟩ := info_parts list_info
  exact ⟨i0, _, hi0, hz0, hz1, hz2, rfl⟩⟩
theorem rep_samples {w : World} {base B n c k ck : Nat} {A Al : Option Addr} {l : List UInt8} {us : List Unit} (h : ROwn (oneV Al n c) 22 w base A k ck us) (hl : l.length = n) (hc : n ≤ c) (hb : Bytes w B Al l) (hB : B ≤ w.heap.size) :
    Samples w w.heap.size A (List.replicate k l) := fun hn => by
  have hr := h.row
  have hul : us.length = k := h.len
  have hk : 0 < us.length := by
    rcases Nat.eq_zero_or_pos k with h0 | h0
    · subst h0; exact absurd rfl hn
    · omega
  obtain ⟨ad, e, hlt, _⟩ := hr.get hk
  refine ⟨ad, e, hlt, fun i hi => ?_⟩
  have hi' : i < us.length := by rw [List.length_replicate] at hi; omega
  obtain ⟨ad', e', _, hci⟩ := hr.get hi'
  rw [e] at e'
  injection e' with e'
  subst e'
  rw [List.getElem_replicate, hl]
  exact ⟨Al, c, hc, hci, hb.wide hB⟩
end Go.Proofs.Ytoebeibmmclhpaa
