/- PROVED: the law CrcSplits (any bytes are split into frames as the document says) returns true and leaves its argument as it was, for any byte slice that holds at most 1,048,576 values.
   Conditions: the bound on the size just named (the second form); the package variable crc.fourShifts holds what the program's text lays (the card ties it to the text, by the translator's look). -/
import Derived.Test.YtgjofpjijnbjeaaDoorLaw
import Derived.Test.YtgjofpjijnbjeaaDoorSplit
namespace Go.Proofs.YtgjofpjijnbjeaaDoor.crcSplits
open Go.ChangeShapes Go.WideShapes Go.ChangeAt Go.RowKit

theorem split_len (f : Nat) (l : List UInt8) : (split f l).1.length ≤ f := by
  induction f generalizing l with
  | zero => simp [split]
  | succ f ih =>
    rw [split]
    split
    · simp
    · split
      · simp
      · have := ih (l.drop (word l + 8))
        simp
        omega
theorem split_size (f : Nat) (l : List UInt8) : (split f l).2.1 ≤ l.length := by
  induction f generalizing l with
  | zero => simp [split]
  | succ f ih =>
    rw [split]
    split
    · simp
    · split
      · simp
      · rename_i h0
        have h0' : frameErr l = 0 := by omega
        have h1 := ih (l.drop (word l + 8))
        have h2 := (sizeErr_zero (frameErr_zero h0').1).2.2
        simp at h1 ⊢
        omega

set_option maxHeartbeats 1000000 in
theorem walk (A : Option Addr) (n cap : Nat) (l : List UInt8) (w : World)
    (hl : l.length = n) (hcap : n ≤ cap) (_ : n ≤ 140737488351232) (hb : Bytes w w.heap.size A l) (hm : n ≤ 1048576) (ht : Table w) :
    Calls Tryd.prog 6 #[.slice A n cap] w fun e w' => e = .returned (.bool true) ∧ Below w.heap.size w w' := by
  have hsl := split_len l.length l
  have hss := split_size l.length l
  rw [hl] at hss
  have hsl' : (split l.length l).1.length ≤ n := by omega
  have Hl := Lib.hid hl
  clear hl hsl
  have hsz := ht.size
  go_enter Tryd.func6, Tryd.ntmps6
  go_wp2_with fail
  refine (alive_any w ht).mono ?_
  rintro e w1 ⟨rfl, hbel1⟩
  have ht1 := ht.below hbel1 hsz
  have hx1 := hb.below hbel1
  go_wp2_with fail
  refine (split_any A n cap w.heap.size l w1 Hl.out (by omega) hcap hx1 hbel1.size ht1).mono ?_
  rintro e w2 ⟨A2, c2, rfl, ho2, hbel2⟩
  have hx2 := (hx1.wide hbel1.size).below hbel2
  go_wp2_with fail
  refine (refSplit_any A n cap w1.heap.size l w2 Hl.out (by omega) hcap hx2 hbel2.size).mono ?_
  rintro e w3 ⟨A3, c3, rfl, ho3, hbel3⟩
  have hq2 := ho2.lists.below hbel3
  have hq3 := ho3.lists
  clear ht ht1 hb hx1 hx2 ho2 ho3
  generalize hls : (split l.length l).1 = ls at *
  clear hls
  generalize (split l.length l).2.1 = sz at *
  generalize (split l.length l).2.2 = er at *
  have hlen := Lib.hid (rfl : ls.length = ls.length)
  generalize hk : ls.length = k at *
  have Hk := Lib.hid hk; clear hk hlen
  go_wp2_with fail
  refine (lists_same A2 A3 k c2 c3 _ _ ls w3 Hk.out (by omega) hq2 hq3).mono ?_
  rintro e w4 ⟨rfl, q, rfl⟩
  go_wp2
  go_ret
  exact ⟨rfl, hbel1.trans ((hbel2.trans ((below_drewN hbel3 q).mono hbel2.size)).mono hbel1.size)⟩

theorem short {H : Type} {d0 : DataW H} {n0 : Nat} (hk : Rows.uptoSmall H [d0] = true)
    (h0 : d0 = .nil ∧ n0 = 0 ∨ ∃ elems spare, d0 = .slice elems spare ∧ elems.length = n0) : n0 ≤ 1048576 := by
  have h : Rows.uptoBulkAll [d0] ≤ 1048576 := of_decide_eq_true hk
  simp only [Rows.uptoBulkAll] at h
  have g0 := bulk_le h0
  omega

/-- WHAT THE WALK GIVES, FOR EVERY ARGUMENT AND EVERY WORLD THAT HOLDS THE TABLE. -/
theorem contract (H : Type) (enc : TypeId × Value → H) (W : World) (base : Nat) (args : Array Value) (ds gs : List (DataW H)) (before : List MemPlace)
    (hval : ∀ (j : Nat) t v, Tryd.f6.params[j]? = some t → args[j]? = some v → Value.okWide Tryd.prog W .any base t v)
    (hW : DataW.Whole enc Tryd.prog Tryd.f6.params.toList Rows.crcSplitsSpec.vars false W args.toList ds gs before) (hL : laidMetH Tryd.prog Rows.crcSplitsUptoRow.laid W)
    (hsz0 : (DataW.weightsEach Tryd.prog (Tryd.f6.params.toList ++ Rows.crcSplitsSpec.plain.varTypes Tryd.prog) (ds ++ gs)).all (· ≤ reachBytes) = true) (hk : Rows.uptoSmall H (ds ++ gs) = true) :
    Calls Tryd.prog 6 args W fun e W' => ∃ v, e = .returned v ∧ Rows.crcSplitsSpec.post enc Tryd.prog Tryd.f6 false true false false W args v W' := by
  have hW' := hW
  obtain ⟨p, q, hA0, hV, rfl, hfz, hnd⟩ := hW
  have hA : DataW.TrodAll enc Tryd.prog W 0 (fun _ => true) true Tryd.f6.params.toList args.toList ds p := hA0
  rw [Tryd.params6] at hA hval hsz0
  obtain ⟨v0, vs0, d0, ds0, p0, q0, hargs, rfl, rfl, h0, r0⟩ := trodAll_cons hA
  obtain ⟨rfl, rfl, rfl⟩ := trodAll_nil r0
  obtain rfl : args = #[v0] := by cases args; simp_all
  obtain ⟨rfl, rfl⟩ := trodVars_none hV
  obtain ⟨a0, len0, cap0, rfl⟩ := okWide_slice Tryd.underlying22 (hval 0 22 v0 rfl rfl)
  have lt0 : ∀ x ∈ p0, x.block < W.heap.size := by obtain ⟨m, hm⟩ := h0; exact DataW.trod_lt m _ _ _ hm
  obtain ⟨l0, e0, ec0, b0, k0⟩ := open_bytes h0
  have reach0 := reach_bytes hsz0 (j := 0) rfl rfl k0
  clear hA0
  have hs := short (by simpa using hk) k0
  refine (walk a0 len0 cap0 l0 W e0 ec0 reach0 b0 hs (table hL)).mono fun e W' ⟨he, bel⟩ => ?_
  subst he
  exact ⟨_, rfl, _, _, _, [], _, [], hW', trodAll_mk1 (shut_bool Tryd.underlying4 _), (trodAll_cons_mk (Below.trod laidOut (by kernel_rfl) (of_decide_eq_true (by kernel_rfl)) h0 bel lt0) trodAll_mk0), rfl, bel.frame _, fun h => by cases h⟩

theorem laid_met (os : Os) : laidMet Tryd.prog Rows.crcSplitsUptoRow.laid ((laidWorld os).forCall (fun _ _ => 0) ⟨#[], #[.slice none 0 0], []⟩).memory :=
  laidMet_of_run' 8 (by kernel_rfl) (by kernel_rfl)
theorem reads (os : Os) {H : Type} (enc : TypeId × Value → H) : ∃ places, DataW.whole enc Tryd.prog ((laidWorld os).forCall (fun _ _ => 0) ⟨#[], #[.slice none 0 0], []⟩).memory Tryd.f6.params.toList Rows.crcSplitsSpec.vars false #[Value.slice none 0 0].toList 8 = some ([.nil], [], places) :=
  ⟨[], by kernel_rfl⟩

set_option maxRecDepth 100000 in
theorem lifted (os : Os) (started : os.Started) (H : Type) (enc : TypeId × Value → H) (F : Stop.Interp) :
    ReturnsInHanded {} Tryd.checked os 6 .any ((Rows.OpenSpec.upto Rows.crcSplitsSpec).preRow enc Tryd.prog Tryd.f6 Rows.crcSplitsUptoRow.domain false Rows.crcSplitsUptoRow.laid) (((Rows.OpenSpec.upto Rows.crcSplitsSpec).at F).post enc Tryd.prog Tryd.f6 false true false false) := by
  obtain ⟨places, hx⟩ := reads os enc
  refine returnsInHanded_of_row (C := Tryd.checked) (s := Rows.OpenSpec.upto Rows.crcSplitsSpec) own started (by kernel_rfl) Tryd.func6
    (witness_row_at (enc := enc) (C := Tryd.checked) false (laidWorld os) #[.slice none 0 0] rfl (by kernel_rfl) (by kernel_rfl) (by kernel_rfl)
      (OpenSpec.preRow_of_cond 8 hx (by kernel_rfl) (fun k hk => by cases hk; kernel_rfl) (by kernel_rfl) (laid_met os))) ?_
  intro W base args ds gs before hval hW _ hcond hsz hL _ _
  exact contract H enc W base args ds gs before hval hW hL hsz (hcond _ rfl)

theorem said : Rows.CrcSplitsUptoSaid :=
  OpenClaim.holds_of_cond 6 Tryd.f6 rfl rfl rfl rfl rfl rfl rfl ⟨rfl, rfl, rfl, rfl, rfl⟩ rfl rfl rfl rfl rfl (by kernel_rfl) Tryd.func6 (by kernel_rfl)
    (of_decide_eq_true (by kernel_rfl)) (by unfold Func.isWrapper; first | (rw [if_pos (by decide +kernel)]; kernel_rfl) | (rw [if_neg (by decide +kernel)]; exact ⟨rfl, rfl⟩))
    (fun os started H enc _ F => by rw [OpenClaim.pre_eq_preRow]; exact lifted os started H enc F)

theorem plain (f : FuncId) (fn : Func) (hf : Tryd.pinned.checked.prog.funcNamed "dragnet/dragnetlaw01.CrcSplits" = some f) (hfn : Tryd.pinned.checked.prog.funcs[f]? = some fn) :
    false = Tryd.pinned.checked.prog.looks [] ∧ ∀ (j : Nat) t, fn.params[j]? = some t → Tryd.pinned.checked.prog.wantsStandIn t = false := by
  obtain rfl : f = 6 := Option.some.inj ((show Tryd.prog.funcNamed "dragnet/dragnetlaw01.CrcSplits" = some 6 by kernel_rfl).symm.trans hf) |>.symm
  obtain rfl : fn = Tryd.f6 := (Option.some.inj (Tryd.func6.symm.trans hfn)).symm
  refine ⟨by kernel_rfl, fun j t ht => ?_⟩
  rw [Tryd.params6] at ht
  obtain rfl : t = 22 := by simpa using Array.mem_of_getElem? ht
  exact (show Tryd.prog.wantsStandIn 22 = false by kernel_rfl)

/-- THE CARD -/
theorem card : Rows.CrcSplitsUptoCardSaid :=
  Claim7.holds_tied_plain_at .later [] _ _ _ _ said (fun _ h => by cases h) (by kernel_rfl) (fun _ h => by cases h) crcSplitsUpto_row_tie rfl ⟨rfl, rfl⟩ (by kernel_rfl) rfl plain (by kernel_rfl)
end Go.Proofs.YtgjofpjijnbjeaaDoor.crcSplits
