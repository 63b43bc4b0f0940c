/- PROVED: the law CrcSums (the checksum of any bytes, at once and in two parts, is the document's) returns true and leaves its arguments as they were, for any two byte slices.
   Condition: the package variable crc.fourShifts holds what the program's text lays (the card ties it to the text, by the translator's look). -/
import Derived.Test.YtgjofpjijnbjeaaDoorLaw
import Derived.Test.YtgjofpjijnbjeaaDoorRefSum
namespace Go.Proofs.YtgjofpjijnbjeaaDoor.crcSums
open Go.ChangeShapes Go.WideShapes Go.ChangeAt Go.RowKit

set_option maxHeartbeats 1000000 in
theorem walk (A1 : Option Addr) (n1 cap1 : Nat) (l1 : List UInt8) (A2 : Option Addr) (n2 cap2 : Nat) (l2 : List UInt8) (w : World)
    (hl1 : l1.length = n1) (_ : n1 ≤ cap1) (hn1 : n1 ≤ 140737488351232) (hb1 : Bytes w w.heap.size A1 l1)
    (hl2 : l2.length = n2) (_ : n2 ≤ cap2) (hn2 : n2 ≤ 140737488351232) (hb2 : Bytes w w.heap.size A2 l2) (ht : Table w) :
    Calls Tryd.prog 3 #[.slice A1 n1 cap1, .slice A2 n2 cap2] w fun e w' => e = .returned (.bool true) ∧ Below w.heap.size w w' := by
  have Hl1 := Lib.hid hl1; clear hl1
  have Hl2 := Lib.hid hl2; clear hl2
  have hsz := ht.size
  go_enter Tryd.func3, Tryd.ntmps3
  go_wp2_with fail
  refine (alive_any w ht).mono ?_
  rintro e w1 ⟨rfl, hbel1⟩
  have ht1 := ht.below hbel1 hsz
  have hx1 := hb1.below hbel1
  have hx2 := hb2.below hbel1
  by_cases hbig1 : 65536 < n1
  · go_wp2
    go_ret
    exact ⟨rfl, hbel1⟩
  by_cases hbig2 : 65536 < n2
  · have hd : decide ((65536 : Int) < (n1 : Int)) = false := by simp; omega
    go_wp2
    go_ret
    exact ⟨rfl, hbel1⟩
  have hd1 : decide ((65536 : Int) < (n1 : Int)) = false := by simp; omega
  have hd2 : decide ((65536 : Int) < (n2 : Int)) = false := by simp; omega
  go_wp2_with fail
  refine (copy_any A1 n1 cap1 w.heap.size l1 w1 Hl1.out (by omega) hx1 hbel1.size).mono ?_
  rintro e w2 ⟨A3, c3, rfl, ho2, hbel2⟩
  have hx3 := (hx2.wide hbel1.size).below hbel2
  go_wp2_with (at_builtin; refine wpList_append_bytes rfl (.tmp 17) (.tmp 18) rfl w1.heap.size A3 n1 c3 l1 rfl ho2 _ A2 n2 cap2 l2 rfl Hl2.out hx3 (by omega) hbel2.size ?_; intro A4 c4 w4 ho4 hg4 hat4)
  have hbel4 : Below w1.heap.size w1 w4 := hbel2.grown hg4 hbel2.size fun k hk => (ho2.lt hk).1
  have ht4 := ht1.below hbel4 (Nat.lt_of_lt_of_le hsz hbel1.size)
  have hy1 := (hx1.wide hbel1.size).below hbel4
  have hy2 := (hx2.wide hbel1.size).below hbel4
  have hlen := Lib.hid ho4.len
  refine (sum_any A4 (n1 + n2) c4 w4.heap.size (l1 ++ l2) w4 ho4.len (by omega) ho4.bytes ht4).mono ?_
  rintro e w5 ⟨rfl, rfl⟩
  go_wp2_with fail
  refine (refSum_any A4 (n1 + n2) c4 w4.heap.size (l1 ++ l2) w4 ho4.len (by omega) ho4.bytes).mono ?_
  rintro e w5 ⟨rfl, rfl⟩
  go_wp2_with fail
  refine (sum_any A1 n1 cap1 w1.heap.size l1 w4 Hl1.out (by omega) hy1 ht4).mono ?_
  rintro e w5 ⟨rfl, rfl⟩
  go_wp2_with fail
  refine (more_any _ A2 n2 cap2 w1.heap.size l2 w4 (Plain.sum_lt l1) Hl2.out (by omega) hy2 ht4).mono ?_
  rintro e w5 ⟨rfl, rfl⟩
  rw [Plain.more_sum]
  go_wp2_with fail
  refine (refSum_any A4 (n1 + n2) c4 w4.heap.size (l1 ++ l2) w4 ho4.len (by omega) ho4.bytes).mono ?_
  rintro e w5 ⟨rfl, rfl⟩
  go_wp2_with fail
  refine (more_any 0 A1 n1 cap1 w1.heap.size l1 w4 (by omega) Hl1.out (by omega) hy1 ht4).mono ?_
  rintro e w5 ⟨rfl, rfl⟩
  rw [Plain.more_zero]
  go_wp2_with fail
  refine (refSum_any A1 n1 cap1 w1.heap.size l1 w4 Hl1.out (by omega) hy1).mono ?_
  rintro e w5 ⟨rfl, rfl⟩
  go_wp2
  go_ret
  exact ⟨rfl, hbel1.trans (hbel4.mono hbel1.size)⟩

/-- WHAT THE WALK GIVES, FOR EVERY ARGUMENT AND EVERY WORLD THAT HOLDS THE TABLE. -/
theorem contract (H : Type) (enc : TypeId × Value → H) (W : World) (base : Nat) (args : Array Value) (ds gs : List (DataW H)) (before : List MemPlace)
    (hval : ∀ (j : Nat) t v, Tryd.f3.params[j]? = some t → args[j]? = some v → Value.okWide Tryd.prog W .any base t v)
    (hW : DataW.Whole enc Tryd.prog Tryd.f3.params.toList Rows.crcSumsSpec.vars false W args.toList ds gs before) (hL : laidMetH Tryd.prog Rows.crcSumsRow.laid W)
    (hsz0 : (DataW.weightsEach Tryd.prog (Tryd.f3.params.toList ++ Rows.crcSumsSpec.plain.varTypes Tryd.prog) (ds ++ gs)).all (· ≤ reachBytes) = true) :
    Calls Tryd.prog 3 args W fun e W' => ∃ v, e = .returned v ∧ Rows.crcSumsSpec.post enc Tryd.prog Tryd.f3 false true false false W args v W' := by
  have hW' := hW
  obtain ⟨p, q, hA0, hV, rfl, hfz, hnd⟩ := hW
  have hA : DataW.TrodAll enc Tryd.prog W 0 (fun _ => true) true Tryd.f3.params.toList args.toList ds p := hA0
  rw [Tryd.params3] at hA hval hsz0
  obtain ⟨v0, vs0, d0, ds0, p0, q0, hargs, rfl, rfl, h0, r0⟩ := trodAll_cons hA
  obtain ⟨v1, vs1, d1, ds1, p1, q1, rfl, rfl, rfl, h1, r1⟩ := trodAll_cons r0
  obtain ⟨rfl, rfl, rfl⟩ := trodAll_nil r1
  obtain rfl : args = #[v0, v1] := by cases args; simp_all
  obtain ⟨rfl, rfl⟩ := trodVars_none hV
  obtain ⟨a0, len0, cap0, rfl⟩ := okWide_slice Tryd.underlying22 (hval 0 22 v0 rfl rfl)
  have lt0 : ∀ x ∈ p0, x.block < W.heap.size := by obtain ⟨m, hm⟩ := h0; exact DataW.trod_lt m _ _ _ hm
  obtain ⟨l0, e0, ec0, b0, k0⟩ := open_bytes h0
  have reach0 := reach_bytes hsz0 (j := 0) rfl rfl k0
  obtain ⟨a1, len1, cap1, rfl⟩ := okWide_slice Tryd.underlying22 (hval 1 22 v1 rfl rfl)
  have lt1 : ∀ x ∈ p1, x.block < W.heap.size := by obtain ⟨m, hm⟩ := h1; exact DataW.trod_lt m _ _ _ hm
  obtain ⟨l1, e1, ec1, b1, k1⟩ := open_bytes h1
  have reach1 := reach_bytes hsz0 (j := 1) rfl rfl k1
  clear hA0
  refine (walk a0 len0 cap0 l0 a1 len1 cap1 l1 W e0 ec0 reach0 b0 e1 ec1 reach1 b1 (table hL)).mono fun e W' ⟨he, bel⟩ => ?_
  subst he
  exact ⟨_, rfl, _, _, _, [], _, [], hW', trodAll_mk1 (shut_bool Tryd.underlying4 _), (trodAll_cons_mk (Below.trod laidOut (by kernel_rfl) (of_decide_eq_true (by kernel_rfl)) h0 bel lt0) (trodAll_cons_mk (Below.trod laidOut (by kernel_rfl) (of_decide_eq_true (by kernel_rfl)) h1 bel lt1) trodAll_mk0)), rfl, bel.frame _, fun h => by cases h⟩

theorem laid_met (os : Os) : laidMet Tryd.prog Rows.crcSumsRow.laid ((laidWorld os).forCall (fun _ _ => 0) ⟨#[], #[.slice none 0 0, .slice none 0 0], []⟩).memory :=
  laidMet_of_run' 8 (by kernel_rfl) (by kernel_rfl)
theorem reads (os : Os) {H : Type} (enc : TypeId × Value → H) : ∃ places, DataW.whole enc Tryd.prog ((laidWorld os).forCall (fun _ _ => 0) ⟨#[], #[.slice none 0 0, .slice none 0 0], []⟩).memory Tryd.f3.params.toList Rows.crcSumsSpec.vars false #[Value.slice none 0 0, .slice none 0 0].toList 8 = some ([.nil, .nil], [], places) :=
  ⟨[], by kernel_rfl⟩

set_option maxRecDepth 100000 in
theorem lifted (os : Os) (started : os.Started) (H : Type) (enc : TypeId × Value → H) (F : Stop.Interp) :
    ReturnsInHanded {} Tryd.checked os 3 .any ((OpenSpec.ofChange Rows.crcSumsSpec).preRow enc Tryd.prog Tryd.f3 Rows.crcSumsRow.domain false Rows.crcSumsRow.laid) (((OpenSpec.ofChange Rows.crcSumsSpec).at F).post enc Tryd.prog Tryd.f3 false true false false) := by
  obtain ⟨places, hx⟩ := reads os enc
  refine returnsInHanded_of_row (C := Tryd.checked) (s := OpenSpec.ofChange Rows.crcSumsSpec) own started (by kernel_rfl) Tryd.func3
    (witness_row_at (enc := enc) (C := Tryd.checked) false (laidWorld os) #[.slice none 0 0, .slice none 0 0] rfl (by kernel_rfl) (by kernel_rfl) (by kernel_rfl)
      (OpenSpec.preRow_of_cond 8 hx (by kernel_rfl) (fun k hk => by cases hk) (by kernel_rfl) (laid_met os))) ?_
  intro W base args ds gs before hval hW _ _ hsz hL _ _
  exact contract H enc W base args ds gs before hval hW hL hsz

theorem said : Rows.CrcSumsSaid :=
  OpenClaim.holds_of_cond 3 Tryd.f3 rfl rfl rfl rfl rfl rfl rfl ⟨rfl, rfl, rfl, rfl, rfl⟩ rfl rfl rfl rfl rfl (by kernel_rfl) Tryd.func3 (by kernel_rfl)
    (of_decide_eq_true (by kernel_rfl)) (by unfold Func.isWrapper; first | (rw [if_pos (by decide +kernel)]; kernel_rfl) | (rw [if_neg (by decide +kernel)]; exact ⟨rfl, rfl⟩))
    (fun os started H enc _ F => by rw [OpenClaim.pre_eq_preRow]; exact lifted os started H enc F)

theorem plain (f : FuncId) (fn : Func) (hf : Tryd.pinned.checked.prog.funcNamed "dragnet/dragnetlaw01.CrcSums" = some f) (hfn : Tryd.pinned.checked.prog.funcs[f]? = some fn) :
    false = Tryd.pinned.checked.prog.looks [] ∧ ∀ (j : Nat) t, fn.params[j]? = some t → Tryd.pinned.checked.prog.wantsStandIn t = false := by
  obtain rfl : f = 3 := Option.some.inj ((show Tryd.prog.funcNamed "dragnet/dragnetlaw01.CrcSums" = some 3 by kernel_rfl).symm.trans hf) |>.symm
  obtain rfl : fn = Tryd.f3 := (Option.some.inj (Tryd.func3.symm.trans hfn)).symm
  refine ⟨by kernel_rfl, fun j t ht => ?_⟩
  rw [Tryd.params3] at ht
  have hm : t = 22 ∨ t = 22 := by simpa using Array.mem_of_getElem? ht
  rcases hm with rfl | rfl
  · exact (show Tryd.prog.wantsStandIn 22 = false by kernel_rfl)
  · exact (show Tryd.prog.wantsStandIn 22 = false by kernel_rfl)

/-- THE CARD -/
theorem card : Rows.CrcSumsCardSaid :=
  Claim7.holds_tied_plain_at .later [] _ _ _ _ said (fun _ h => by cases h) (by kernel_rfl) (fun _ h => by cases h) crcSums_row_tie rfl ⟨rfl, rfl⟩ (by kernel_rfl) rfl plain (by kernel_rfl)
end Go.Proofs.YtgjofpjijnbjeaaDoor.crcSums
