/- PROVED: the law CrcBack (what is wrapped is unwrapped as it was; frames one behind the other are split as they were, cut anywhere those that are whole) returns true and leaves its arguments as they were, for any list of byte slices and any cut.
   Condition: the package variable crc.fourShifts holds what the program's text lays (the card ties it to the text, by the translator's look). -/
import Derived.Test.YtgjofpjijnbjeaaDoorArgs
import Derived.Test.YtgjofpjijnbjeaaDoorCat
import Derived.Test.YtgjofpjijnbjeaaDoorIntsOwn
import Derived.Test.YtgjofpjijnbjeaaDoorSplit
namespace Go.Proofs.YtgjofpjijnbjeaaDoor.crcBack
open Go.ChangeShapes Go.WideShapes Go.ChangeAt Go.RowKit

/-- the ends of the first k frames -/
def ends (ls : List (List UInt8)) (k : Nat) : List Int := (List.range k).map fun i => ((stop ls (i + 1) : Nat) : Int)
theorem ends_succ (ls : List (List UInt8)) (k : Nat) : ends ls (k + 1) = ends ls k ++ [((stop ls (k + 1) : Nat) : Int)] := by simp [ends, List.range_succ]
theorem ends_length (ls : List (List UInt8)) (k : Nat) : (ends ls k).length = k := by simp [ends]
/-- the first k lists are small -/
def Small (ls : List (List UInt8)) (k : Nat) : Prop := ∀ i, (h : i < ls.length) → i < k → ls[i].length ≤ 4096
theorem small_stop {ls : List (List UInt8)} : ∀ {k : Nat}, k ≤ ls.length → Small ls k → stop ls k ≤ k * 4104
  | 0, _, _ => by rw [stop_zero]; exact Nat.zero_le _
  | k + 1, hk, h => by
    have := small_stop (k := k) (by omega) fun i hi hik => h i hi (by omega)
    have := h k (by omega) (by omega)
    rw [stop_succ (by omega)]
    omega
theorem small_fit {ls : List (List UInt8)} (h : Small ls ls.length) : Fit ls := fun p hp => by
  obtain ⟨i, hi, rfl⟩ := List.getElem_of_mem hp
  have := h i hi hi
  omega

theorem run_to_bytes (A : Option Addr) (n cap hi : Nat) (h2 : hi ≤ cap) (W : World) :
    (Instr.slice 22 (.slice A n cap) none (some (.int .i64 (hi : Int))) none).run Tryd.prog W = .ok (.slice A hi cap) W := by
  rw [run_slice_h (P := Tryd.prog) (w := W) (kh := .i64) (h := (hi : Int)) (h0 := by omega) (h2 := by omega) (ht := by rw [elem22]; exact Tryd.underlying22)]
  rw [elem22, size8]
  by_cases hc : cap = 0 <;> cases A <;> simp [Result.andThen, sliced, Addr.add]
theorem elem35 : Tryd.prog.elem 35 = 22 := by kernel_rfl
theorem sizeB (W : World) : (sizeOf 22).run Tryd.prog W = .ok 1 W := by
  obtain ⟨i0, hi0, hz0, hz1, hz2⟩ := info_parts list_info
  simp [sizeOf, typeInfo, hi0, hz1]
theorem run_to_lists (A : Option Addr) (n cap hi : Nat) (h2 : hi ≤ cap) (W : World) :
    (Instr.slice 35 (.slice A n cap) none (some (.int .i64 (hi : Int))) none).run Tryd.prog W = .ok (.slice A hi cap) W := by
  rw [run_slice_h (P := Tryd.prog) (w := W) (kh := .i64) (h := (hi : Int)) (h0 := by omega) (h2 := by omega) (ht := by rw [elem35]; exact Tryd.underlying35)]
  rw [elem35, sizeB]
  by_cases hc : cap = 0 <;> cases A <;> simp [Result.andThen, sliced, Addr.add]

set_option maxRecDepth 100000 in
set_option maxHeartbeats 2000000 in
theorem walk (A : Option Addr) (n cap : Nat) (ls : List (List UInt8)) (cut : Nat) (w : World)
    (hl : ls.length = n) (hcap : n ≤ cap) (hm : n ≤ 9223372036854775807) (hL : Lists w w.heap.size A ls) (hin : ∀ i, (h : i < ls.length) → ls[i].length ≤ 9223372036854775807) (hcut : cut < 65536) (ht : Table w) :
    Calls Tryd.prog 7 #[.slice A n cap, .int .u16 (cut : Int)] w fun e w' => e = .returned (.bool true) ∧ Below w.heap.size w w' := by
  have Hl := Lib.hid hl; clear hl
  have hsz := ht.size
  go_enter Tryd.func7, Tryd.ntmps7
  go_wp2_with fail
  refine (alive_any w ht).mono ?_
  rintro e w1 ⟨rfl, hbel1⟩
  by_cases h30 : 30 < n
  · have hd : decide ((30 : Int) < (n : Int)) = true := by simp; omega
    go_wp2
    go_ret
    exact ⟨rfl, hbel1⟩
  have hd : decide ((30 : Int) < (n : Int)) = false := by simp; omega
  have ht1 := ht.below hbel1 hsz
  have hL1 := hL.below hbel1
  have hsz1 : 0 < w1.heap.size := Nat.lt_of_lt_of_le hsz hbel1.size
  clear hL ht hm
  have Hin := Lib.hid hin; clear hin
  go_wp2
  go_loopw [5, 6, 7] (fun v5 v6 i wr => ∃ (k n5 c5 c6 : Nat) (A5 A6 : Option Addr), k ≤ n ∧ i = .int .i64 k ∧ v5 = .slice A5 n5 c5 ∧ v6 = .slice A6 k c6 ∧ Own wr w1.heap.size A5 n5 c5 (cat (ls.take k)) ∧
    IntsOwn wr w1.heap.size A6 k c6 (ends ls k) ∧ Below w1.heap.size w1 wr ∧ Small ls k) (fun _ _ i _ => n - (intOf i).toNat)
  case atStart => exact ⟨0, 0, 0, 0, none, none, Nat.zero_le _, rfl, rfl, rfl, own_none _ _, IntsOwn.nil _ _, Below.refl _ _, fun i _ h => absurd h (by omega)⟩
  case round =>
    obtain ⟨k, n5, c5, c6, A5, A6, hk, rfl, rfl, rfl, ho5, ho6, hbel, hsm⟩ := hrel
    have Hsm := Lib.hid hsm; clear hsm
    by_cases hlt : k < n
    · have hk' : k < ls.length := by have := Hl.out; omega
      obtain ⟨ad, Ai, ci, rfl, had, hcell, hbi⟩ := ((hL1.wide hbel1.size).below hbel).at_ hk'
      have hil := Hin.out k hk'
      have Hn5 := Lib.hid (show n5 = stop ls k from ho5.len.symm)
      have hn5 : n5 ≤ 123120 := by have := small_stop (by omega) Hsm.out; rw [← Hn5.out] at this; omega
      have hnext := Lib.hid (stop_succ hk')
      have htake := Lib.hid (List.take_succ_eq_append_getElem hk')
      have hsm' := Lib.hid (show ls[k].length ≤ 4096 → Small ls (k + 1) from fun h i hi hik => by
        rcases Nat.lt_or_ge i k with hlt | hge
        · exact Hsm.out i hi hlt
        · obtain rfl : i = k := by omega
          exact h)
      have hes := Lib.hid (ends_succ ls k)
      generalize hp : ls[k] = p at *
      clear hp
      generalize hm : p.length = m at *
      have Hm := Lib.hid hm; clear hm
      by_cases hbig : 4096 < m
      · go_wp2
        go_ret
        exact ⟨rfl, hbel1.trans (hbel.mono hbel1.size)⟩
      · have htr := ht1.below hbel hsz1
        go_wp2_with fail
        refine (wrap_ok Ai m ci w1.heap.size p wr Hm.out (by omega) hbi hbel.size htr).mono ?_
        rintro e w2 ⟨A8, c8, rfl, ho8, hbel8⟩
        have hcap8 := ho8.cap
        go_wp2_with fail
        refine (unwrap_any A8 (m + 8) c8 w2.heap.size (frame p) w2 ho8.len (by omega) hcap8 ho8.bytes (Nat.le_refl _) (htr.below hbel8 (Nat.lt_of_lt_of_le hsz1 hbel.size))).mono ?_
        intro e w3 hp
        obtain ⟨A9, c9, rfl, ho9, hbel9⟩ := hp.uni
        clear hp
        have hu0 := unwrapErr_frame (p := p) (by rw [Hm.out]; omega)
        have hup : uPay (frame p) = p := by unfold uPay; rw [if_pos hu0, pay_frame (by rw [Hm.out]; omega)]
        have hul : uLen (frame p) = m := by unfold uLen; rw [if_pos hu0, word_frame (by rw [Hm.out]; omega), Hm.out]
        rw [hul, hup] at ho9
        rw [hul, hu0]
        clear hu0 hup hul
        have hb3 : Below wr.heap.size wr w3 := hbel8.trans (hbel9.mono hbel8.size)
        have hcell3 : w3.cell? (ad.add k) = some (.slice Ai m ci) := (hb3.cell (by rw [addr_add_block]; exact Nat.lt_of_lt_of_le had hbel.size)).trans hcell
        have hbi3 := hbi.below (hb3.mono hbel.size)
        have ho5' := ho5.below hb3
        have ho6' := ho6.below hb3
        have hb8 := ho8.bytes.below hbel9
        have HF := Lib.hid (show (frame p).length = m + 8 by rw [frame_length, Hm.out])
        have hb13 : Below w1.heap.size w1 w3 := hbel.trans (hb3.mono hbel.size)
        clear ho5 ho6 ho8 htr hbi hbel8 hbel9 hcell
        go_wp2_with fail
        refine (same_any A9 Ai m m c9 ci _ _ p p w3 Hm.out Hm.out ho9.bytes hbi3).mono ?_
        rintro e w4 ⟨rfl, rfl⟩
        rw [beq_self_eq_true]
        clear ho9 hbi3
        go_wp2_with (first | (at_builtin; refine wpList_append_bytes rfl (.tmp 63) (.tmp 64) rfl w1.heap.size A5 n5 c5 _ rfl ho5' _ A8 (m + 8) c8 (frame p) rfl HF.out hb8 (by omega) hb13.size ?_; intro A10 c10 w4 ho10 hg10 hat10; have hb14 : Below w1.heap.size w1 w4 := hb13.grown hg10 hb13.size (fun j hj => (ho5'.lt hj).1); have ho6x := ho6'.kept ho5' hg10) | (at_builtin; refine wpList_append_int rfl (.tmp 66) (.tmp 69) rfl w1.heap.size A6 k c6 _ rfl ho6x ((n5 : Int) + ((m : Int) + 8)) rfl (by omega) hb14.size ?_; intro A11 c11 w5 ho11 hb15 hkeep))
        have ho10' := hkeep ho10
        rw [← cat_snoc, ← htake.out] at ho10'
        have e6 : ends ls k ++ [(n5 : Int) + ((m : Int) + 8)] = ends ls (k + 1) := by rw [hes.out, hnext.out, ← Hn5.out]; congr 2
        rw [e6] at ho11
        have HO10 := Lib.hid ho10'
        have HO11 := Lib.hid ho11
        clear ho10' ho11 hkeep
        go_roundw
        case rel => exact ⟨k + 1, n5 + (m + 8), c10, c11, A10, A11, by omega, by go_num, rfl, rfl, HO10.out, HO11.out, hb14.trans hb15, hsm'.out (by omega)⟩
        case measure => simp [intOf]; omega
    · obtain rfl : k = n := by omega
      have Hall : Hid (ls.take k = ls) := List.take_of_length_le (by have := Hl.out; omega)
      rw [Hall.out] at ho5
      have hfit := Lib.hid (small_fit (ls := ls) (by rw [Hl.out]; exact Hsm.out))
      have Hn5 := Lib.hid (show (cat ls).length = n5 from ho5.len)
      have hn5 : n5 ≤ 123120 := by
        have := small_stop (ls := ls) (k := k) (by rw [Hl.out]; omega) Hsm.out
        unfold stop at this
        rw [Hall.out, Hn5.out] at this
        omega
      have Hwhole := Lib.hid (split_whole hfit.out)
      have htr := ht1.below hbel hsz1
      have hcap5 := ho5.cap
      have hLr := (hL1.wide hbel1.size).below hbel
      go_wp2_with fail
      refine (split_any A5 n5 c5 wr.heap.size (cat ls) wr Hn5.out (by omega) hcap5 ho5.bytes (Nat.le_refl _) htr).mono ?_
      rintro e w2 ⟨A12, c12, rfl, ho12, hbel12⟩
      rw [Hwhole.out] at ho12 ⊢
      rw [Hn5.out, Hl.out]
      rw [Hl.out] at ho12
      have hL2 := (hLr.wide hbel.size).below hbel12
      have ho52 := ho5.below hbel12
      have ho62 := ho6.below hbel12
      have ht2 := htr.below hbel12 (Nat.lt_of_lt_of_le hsz1 hbel.size)
      go_wp2_with fail
      refine (lists_same A12 A k c12 cap _ _ ls w2 Hl.out (by omega) ho12.lists hL2).mono ?_
      rintro e w3 ⟨rfl, hd3⟩
      have hb23 := hd3.below w2.heap.size
      have ho53 := ho52.below hb23
      have ho63 := ho62.below hb23
      have hL3 := hL2.below (hd3.below _)
      have ht3 := ht2.below hb23 (Nat.lt_of_lt_of_le hsz1 (Nat.le_trans hbel.size hbel12.size))
      have hb13 : Below w1.heap.size w1 w3 := hbel.trans ((hbel12.trans (hb23.mono hbel12.size)).mono hbel.size)
      have hwr3 : wr.heap.size ≤ w3.heap.size := Nat.le_trans hbel12.size hb23.size
      clear ho12 ho52 ho62 hL2 ht2 hLr htr ho5 ho6 hL1 ht1 hd3 hb23 hbel12 hbel
      obtain ⟨C, hC⟩ : ∃ C : Nat, C = cut % (n5 + 1) := ⟨_, rfl⟩
      have hCn : C ≤ n5 := by have := Nat.mod_lt cut (show 0 < n5 + 1 by omega); omega
      have hrem : (cut : Int) % ((n5 : Int) + 1) = (C : Int) := by rw [hC, Int.natCast_emod, Int.natCast_add]; rfl
      clear hC
      have hto := run_to_bytes A5 n5 c5 C (by omega)
      go_wp2
      go_loop [16, 17] (fun a b => ∃ j : Nat, j ≤ k ∧ a = .int .i64 j ∧ b = .int .i64 ((stop ls j : Nat) : Int) ∧ stop ls j ≤ C) (fun a _ => k - (intOf a).toNat)
      case atStart => exact ⟨0, Nat.zero_le _, rfl, by rw [stop_zero]; rfl, by rw [stop_zero]; exact Nat.zero_le _⟩
      case round =>
        obtain ⟨j, hj, rfl, rfl, hjC⟩ := hrel
        have hsj := stop_le ls j
        rw [Hn5.out] at hsj
        by_cases hgo : j < k ∧ stop ls (j + 1) ≤ C
        · obtain ⟨hjk, hle⟩ := hgo
          obtain ⟨g, rfl, hc⟩ := ho63.get (k := j) (by rw [ends_length]; exact hjk)
          have he : (ends ls k)[j]'(by rw [ends_length]; exact hjk) = ((stop ls (j + 1) : Nat) : Int) := by simp [ends]
          rw [he] at hc
          have Hle := Lib.hid hle
          have hle2 : ((stop ls (j + 1) : Nat) : Int) ≤ (C : Int) := by omega
          clear he hle
          generalize hs1 : stop ls (j + 1) = s1 at *
          have Hs1 := Lib.hid hs1; clear hs1
          generalize stop ls j = s0 at *
          go_wp2
          go_round
          case rel => exact ⟨j + 1, by omega, by go_num, by rw [Hs1.out], by rw [Hs1.out]; exact Hle.out⟩
          case measure => simp [intOf]; omega
        · have hex : j < ls.length → C < stop ls (j + 1) := fun h => by
            rcases Nat.lt_or_ge C (stop ls (j + 1)) with h1 | h1
            · exact h1
            · exact absurd ⟨by have := Hl.out; omega, h1⟩ hgo
          have Hsp := Lib.hid (split_cut hfit.out (cut := C) (k := j) (by rw [Hn5.out]; exact hCn) (by rw [Hl.out]; exact hj) hjC hex)
          have hjl : (ls.take j).length = j := by rw [List.length_take, Hl.out]; omega
          have Hjl := Lib.hid hjl
          have HtC := Lib.hid (show ((cat ls).take C).length = C by rw [List.length_take, Hn5.out]; omega)
          have hcutB := ho53.bytes.take C
          have hcap3 : C ≤ c5 := by omega
          have hlto := run_to_lists A k cap j (by omega)
          have hsplit := Lib.hid (split_any A5 C c5 w3.heap.size ((cat ls).take C) w3 HtC.out (by omega) hcap3 hcutB (Nat.le_refl _) ht3)
          have hpre : (∃ g, A6 = some ⟨g, 0, none⟩ ∧ w3.cell? ⟨g, j, none⟩ = some (.int .i64 ((stop ls (j + 1) : Nat) : Int))) ∨ ¬ j < k := by
            by_cases hjk : j < k
            · obtain ⟨g, hA, hc⟩ := ho63.get (k := j) (by rw [ends_length]; exact hjk)
              have he : (ends ls k)[j]'(by rw [ends_length]; exact hjk) = ((stop ls (j + 1) : Nat) : Int) := by simp [ends]
              rw [he] at hc
              exact .inl ⟨g, hA, hc⟩
            · exact .inr hjk
          have Hpre := Lib.hid hpre
          have Hex := Lib.hid hex
          clear hpre hex hgo hcutB ho63 ho53 hjl
          generalize hs0 : stop ls j = s0 at *
          have Hs0 := Lib.hid hs0; clear hs0
          by_cases hjk : j < k
          · rcases Hpre.out with ⟨g, rfl, hc⟩ | hno
            rotate_left
            · exact absurd hjk hno
            have hgt := Hex.out (by rw [Hl.out]; exact hjk)
            have hd1 : decide (j < k) = true := by simp; omega
            have hd2 : decide (stop ls (j + 1) ≤ C) = false := by simp; omega
            generalize stop ls (j + 1) = s1 at *
            go_wp2_with fail
            refine hsplit.out.mono ?_
            rintro e w4 ⟨A13, c13, rfl, ho13, hbel13⟩
            clear hsplit hc
            have hLt := ((hL3.wide hwr3).below hbel13).take j
            by_cases hE : s0 = C
            · have Hsp' := Hsp.out
              rw [if_pos hE] at Hsp'
              rw [Hsp'] at ho13 ⊢
              clear Hsp'
              rw [Hjl.out] at ho13 ⊢
              have hne : ((s0 : Int) == (C : Int)) = true := by rw [beq_iff_eq]; omega
              clear hE
              go_wp2_with fail
              refine (lists_same A13 A j c13 cap _ _ (ls.take j) w4 Hjl.out (by omega) ho13.lists hLt).mono ?_
              rintro e w5 ⟨rfl, hd5⟩
              have hfin := hbel1.trans ((hb13.trans ((hbel13.trans (hd5.below _)).mono hb13.size)).mono hbel1.size)
              clear ho13 hLt hd5 hbel13 hto hlto
              go_wp2
              go_ret
              exact ⟨rfl, hfin⟩
            · have Hsp' := Hsp.out
              rw [if_neg hE] at Hsp'
              rw [Hsp'] at ho13 ⊢
              clear Hsp'
              rw [Hjl.out] at ho13 ⊢
              have hne : ((s0 : Int) == (C : Int)) = false := by rw [beq_eq_false_iff_ne]; omega
              clear hE
              go_wp2_with fail
              refine (lists_same A13 A j c13 cap _ _ (ls.take j) w4 Hjl.out (by omega) ho13.lists hLt).mono ?_
              rintro e w5 ⟨rfl, hd5⟩
              have hfin := hbel1.trans ((hb13.trans ((hbel13.trans (hd5.below _)).mono hb13.size)).mono hbel1.size)
              clear ho13 hLt hd5 hbel13 hto hlto
              go_wp2
              go_ret
              exact ⟨rfl, hfin⟩
          · have hd1 : decide (j < k) = false := by simp; omega
            go_wp2_with fail
            refine hsplit.out.mono ?_
            rintro e w4 ⟨A13, c13, rfl, ho13, hbel13⟩
            clear hsplit
            have hLt := ((hL3.wide hwr3).below hbel13).take j
            by_cases hE : s0 = C
            · have Hsp' := Hsp.out
              rw [if_pos hE] at Hsp'
              rw [Hsp'] at ho13 ⊢
              clear Hsp'
              rw [Hjl.out] at ho13 ⊢
              have hne : ((s0 : Int) == (C : Int)) = true := by rw [beq_iff_eq]; omega
              clear hE
              go_wp2_with fail
              refine (lists_same A13 A j c13 cap _ _ (ls.take j) w4 Hjl.out (by omega) ho13.lists hLt).mono ?_
              rintro e w5 ⟨rfl, hd5⟩
              have hfin := hbel1.trans ((hb13.trans ((hbel13.trans (hd5.below _)).mono hb13.size)).mono hbel1.size)
              clear ho13 hLt hd5 hbel13 hto hlto
              go_wp2
              go_ret
              exact ⟨rfl, hfin⟩
            · have Hsp' := Hsp.out
              rw [if_neg hE] at Hsp'
              rw [Hsp'] at ho13 ⊢
              clear Hsp'
              rw [Hjl.out] at ho13 ⊢
              have hne : ((s0 : Int) == (C : Int)) = false := by rw [beq_eq_false_iff_ne]; omega
              clear hE
              go_wp2_with fail
              refine (lists_same A13 A j c13 cap _ _ (ls.take j) w4 Hjl.out (by omega) ho13.lists hLt).mono ?_
              rintro e w5 ⟨rfl, hd5⟩
              have hfin := hbel1.trans ((hb13.trans ((hbel13.trans (hd5.below _)).mono hb13.size)).mono hbel1.size)
              clear ho13 hLt hd5 hbel13 hto hlto
              go_wp2
              go_ret
              exact ⟨rfl, hfin⟩

/-- WHAT THE WALK GIVES, FOR EVERY ARGUMENT AND EVERY WORLD THAT HOLDS THE TABLE. -/
theorem contract (H : Type) (enc : TypeId × Value → H) (W : World) (base : Nat) (args : Array Value) (ds gs : List (DataW H)) (before : List MemPlace)
    (hval : ∀ (j : Nat) t v, Tryd.f7.params[j]? = some t → args[j]? = some v → Value.okWide Tryd.prog W .any base t v)
    (hW : DataW.Whole enc Tryd.prog Tryd.f7.params.toList Rows.crcBackSpec.vars false W args.toList ds gs before) (hL : laidMetH Tryd.prog Rows.crcBackRow.laid W)
    (hsz0 : (DataW.weightsEach Tryd.prog (Tryd.f7.params.toList ++ Rows.crcBackSpec.plain.varTypes Tryd.prog) (ds ++ gs)).all (· ≤ reachBytes) = true) :
    Calls Tryd.prog 7 args W fun e W' => ∃ v, e = .returned v ∧ Rows.crcBackSpec.post enc Tryd.prog Tryd.f7 false true false false W args v W' := by
  have hW' := hW
  obtain ⟨p, q, hA0, hV, rfl, hfz, hnd⟩ := hW
  have hA : DataW.TrodAll enc Tryd.prog W 0 (fun _ => true) true Tryd.f7.params.toList args.toList ds p := hA0
  rw [Tryd.params7] at hA hval hsz0
  obtain ⟨v0, vs0, d0, ds0, p0, q0, hargs, rfl, rfl, h0, r0⟩ := trodAll_cons hA
  obtain ⟨v1, vs1, d1, ds1, p1, q1, rfl, rfl, rfl, h1, r1⟩ := trodAll_cons r0
  obtain ⟨rfl, rfl, rfl⟩ := trodAll_nil r1
  obtain rfl : args = #[v0, v1] := by cases args; simp_all
  obtain ⟨rfl, rfl⟩ := trodVars_none hV
  obtain ⟨a0, len0, cap0, rfl⟩ := okWide_slice Tryd.underlying35 (hval 0 35 v0 rfl rfl)
  have lt0 : ∀ x ∈ p0, x.block < W.heap.size := by obtain ⟨m, hm⟩ := h0; exact DataW.trod_lt m _ _ _ hm
  obtain ⟨l0, e0, ec0, em0, b0, bin0⟩ := open_lists h0
  obtain ⟨x1, rfl, rfl, rfl, w1⟩ := open_int Tryd.underlying39 (hval 1 39 v1 rfl rfl) h1
  obtain ⟨c1, rfl⟩ := Int.eq_ofNat_of_zero_le (bounds_u16 w1).1
  clear hA0
  refine (walk a0 len0 cap0 l0 c1 W e0 ec0 em0 b0 bin0 (by have := (bounds_u16 w1).2; omega) (table hL)).mono fun e W' ⟨he, bel⟩ => ?_
  subst he
  exact ⟨_, rfl, _, _, _, [], _, [], hW', trodAll_mk1 (shut_bool Tryd.underlying4 _), (trodAll_cons_mk (Below.trod laidOut (by kernel_rfl) (of_decide_eq_true (by kernel_rfl)) h0 bel lt0) (trodAll_cons_mk (shut_int Tryd.underlying39 w1) trodAll_mk0)), rfl, bel.frame _, fun h => by cases h⟩

theorem laid_met (os : Os) : laidMet Tryd.prog Rows.crcBackRow.laid ((laidWorld os).forCall (fun _ _ => 0) ⟨#[], #[.slice none 0 0, .int .u16 0], []⟩).memory :=
  laidMet_of_run' 8 (by kernel_rfl) (by kernel_rfl)
theorem reads (os : Os) {H : Type} (enc : TypeId × Value → H) : ∃ places, DataW.whole enc Tryd.prog ((laidWorld os).forCall (fun _ _ => 0) ⟨#[], #[.slice none 0 0, .int .u16 0], []⟩).memory Tryd.f7.params.toList Rows.crcBackSpec.vars false #[Value.slice none 0 0, .int .u16 0].toList 8 = some ([.nil, .lit (.int .u16 0)], [], places) :=
  ⟨[], by kernel_rfl⟩

set_option maxRecDepth 100000 in
theorem lifted (os : Os) (started : os.Started) (H : Type) (enc : TypeId × Value → H) (F : Stop.Interp) :
    ReturnsInHanded {} Tryd.checked os 7 .any ((OpenSpec.ofChange Rows.crcBackSpec).preRow enc Tryd.prog Tryd.f7 Rows.crcBackRow.domain false Rows.crcBackRow.laid) (((OpenSpec.ofChange Rows.crcBackSpec).at F).post enc Tryd.prog Tryd.f7 false true false false) := by
  obtain ⟨places, hx⟩ := reads os enc
  refine returnsInHanded_of_row (C := Tryd.checked) (s := OpenSpec.ofChange Rows.crcBackSpec) own started (by kernel_rfl) Tryd.func7
    (witness_row_at (enc := enc) (C := Tryd.checked) false (laidWorld os) #[.slice none 0 0, .int .u16 0] rfl (by kernel_rfl) (by kernel_rfl) (by kernel_rfl)
      (OpenSpec.preRow_of_cond 8 hx (by kernel_rfl) (fun k hk => by cases hk) (by kernel_rfl) (laid_met os))) ?_
  intro W base args ds gs before hval hW _ _ hsz hL _ _
  exact contract H enc W base args ds gs before hval hW hL hsz

theorem said : Rows.CrcBackSaid :=
  OpenClaim.holds_of_cond 7 Tryd.f7 rfl rfl rfl rfl rfl rfl rfl ⟨rfl, rfl, rfl, rfl, rfl⟩ rfl rfl rfl rfl rfl (by kernel_rfl) Tryd.func7 (by kernel_rfl)
    (of_decide_eq_true (by kernel_rfl)) (by unfold Func.isWrapper; first | (rw [if_pos (by decide +kernel)]; kernel_rfl) | (rw [if_neg (by decide +kernel)]; exact ⟨rfl, rfl⟩))
    (fun os started H enc _ F => by rw [OpenClaim.pre_eq_preRow]; exact lifted os started H enc F)

theorem plain (f : FuncId) (fn : Func) (hf : Tryd.pinned.checked.prog.funcNamed "dragnet/dragnetlaw01.CrcBack" = some f) (hfn : Tryd.pinned.checked.prog.funcs[f]? = some fn) :
    false = Tryd.pinned.checked.prog.looks [] ∧ ∀ (j : Nat) t, fn.params[j]? = some t → Tryd.pinned.checked.prog.wantsStandIn t = false := by
  obtain rfl : f = 7 := Option.some.inj ((show Tryd.prog.funcNamed "dragnet/dragnetlaw01.CrcBack" = some 7 by kernel_rfl).symm.trans hf) |>.symm
  obtain rfl : fn = Tryd.f7 := (Option.some.inj (Tryd.func7.symm.trans hfn)).symm
  refine ⟨by kernel_rfl, fun j t ht => ?_⟩
  rw [Tryd.params7] at ht
  have hm : t = 35 ∨ t = 39 := by simpa using Array.mem_of_getElem? ht
  rcases hm with rfl | rfl
  · exact (show Tryd.prog.wantsStandIn 35 = false by kernel_rfl)
  · exact (show Tryd.prog.wantsStandIn 39 = false by kernel_rfl)

/-- THE CARD -/
theorem card : Rows.CrcBackCardSaid :=
  Claim7.holds_tied_plain_at .later [] _ _ _ _ said (fun _ h => by cases h) (by kernel_rfl) (fun _ h => by cases h) crcBack_row_tie rfl ⟨rfl, rfl⟩ (by kernel_rfl) rfl plain (by kernel_rfl)
end Go.Proofs.YtgjofpjijnbjeaaDoor.crcBack
