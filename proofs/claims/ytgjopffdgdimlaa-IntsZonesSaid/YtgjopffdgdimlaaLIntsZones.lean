/- PROVED: the law IntsZones (the zones of any column are the document's) returns true and leaves its argument as it was, for every argument.
   Conditions: none but the form's own reach (a slice has fewer than 2^47 bytes). -/
import Derived.Test.YtgjopffdgdimlaaBF

namespace Go.Proofs.Ytgjopffdgdimlaa.intsZones
open Go.ChangeShapes Go.WideShapes Go.ChangeAt Go.RowKit

set_option maxHeartbeats 2000000 in
set_option maxRecDepth 100000 in
theorem walk (A : Option Addr) (n cap : Nat) (l : List (Bool × Int)) (w : World) (hl : l.length = n) (hcap : n ≤ cap) (hn : 16 * n ≤ 140737488351232) (_hf : Ict.fits l) (hb : Cols w w.heap.size A l) :
    Calls Try.prog 5 #[.slice A n cap] w fun e w' => e = .returned (.bool true) ∧ Below w.heap.size w w' := by
  have HZ := Lib.hid (fun W (hbel : Below w.heap.size w W) => icZones_any A n cap w.heap.size l W hl hcap (hb.below hbel) hbel.size)
  have HR := Lib.hid (fun W (hbel : Below w.heap.size w W) => refZones_any A n cap w.heap.size l W hl hn (hb.below hbel) hbel.size)
  have hZs : (Ict.zones l).length ≤ 256 := by rw [Ict.zones_length]; exact Ict.count_le l
  generalize Ict.zones l = Z at *
  clear hb hl hn hcap
  go_enter Try.func5, Try.ntmps5
  go_wp2_with fail
  refine (alive_any w).mono ?_
  rintro e w1 ⟨rfl, hb1⟩
  have HZ' := Lib.hid (HZ.out w1 hb1)
  go_wp2_with fail
  refine HZ'.out.mono ?_
  rintro e w2 ⟨A1, c1, rfl, ho1, hb2⟩
  have hb12 := hb1.trans (hb2.mono hb1.size)
  have HR' := Lib.hid (HR.out w2 hb12)
  clear HZ HZ' HR
  go_wp2_with fail
  refine HR'.out.mono ?_
  rintro e w3 ⟨A2, c2, rfl, ho2, hb3⟩
  have ho1 := ho1.below hb3
  have hb13 := hb12.trans (hb3.mono hb12.size)
  have hzz : ((Z.length : Int) != (Z.length : Int)) = false := by simp
  clear HR' hb3
  go_wp2
  go_loopw [5] (fun i wr => ∃ (k q : Nat), k ≤ Z.length ∧ i = .int .i64 (k : Int) ∧ wr = w3.drewN q) (fun i _ => Z.length - (intOf i).toNat)
  case atStart => exact ⟨0, 0, by omega, rfl, rfl⟩
  case round =>
    obtain ⟨k, q, hk, rfl, hwr⟩ := hrel
    have hdr : Drawn w3 wr := ⟨q, hwr⟩
    clear hwr
    by_cases hlt : k < Z.length
    · obtain ⟨g1, rfl, _, _⟩ := ho1.at_ (by omega)
      obtain ⟨g2, rfl, _, _⟩ := ho2.at_ (by omega)
      have d := fun j (hj : j < 3) => (ho1.drawn hdr).cell (fun _ => rfl) hlt hj
      have d' := fun j (hj : j < 3) => (ho2.drawn hdr).cell (fun _ => rfl) hlt hj
      have i1 : (k : Int) < (Z.length : Int) := by omega
      have i0 : (0 : Int) ≤ (k : Int) := by omega
      generalize Z[k] = z at *
      obtain ⟨s, lo, hi⟩ := z
      have x0 : wr.cell? ⟨g1, k * 3, none⟩ = some (.bool s) := d 0 (by omega)
      have x1 : wr.cell? ⟨g1, k * 3 + 1, none⟩ = some (.int .i64 lo) := d 1 (by omega)
      have x2 : wr.cell? ⟨g1, k * 3 + 2, none⟩ = some (.int .i64 hi) := d 2 (by omega)
      have y0 : wr.cell? ⟨g2, k * 3, none⟩ = some (.bool s) := d' 0 (by omega)
      have y1 : wr.cell? ⟨g2, k * 3 + 1, none⟩ = some (.int .i64 lo) := d' 1 (by omega)
      have y2 : wr.cell? ⟨g2, k * 3 + 2, none⟩ = some (.int .i64 hi) := d' 2 (by omega)
      have hgd := guard_zone
      have hrun := fun W => run_eq_zone s s lo lo hi hi W
      rw [decide_eq_true rfl] at hrun
      clear d d'
      go_wp2
      go_quiet (fail)
      go_wp2
      go_roundw
      case rel => obtain ⟨q, hq⟩ := hdr.drewN nq; exact ⟨k + 1, q, by omega, by go_num, hq⟩
      case measure => simp [intOf]; omega
    · go_wp2
      go_ret
      exact ⟨rfl, hb13.trans (hdr.below _)⟩

set_option maxRecDepth 100000 in
/-- from the walk to the post of the row -/
theorem contract (H : Type) (enc : TypeId × Value → H) (W : World) (base : Nat) (args : Array Value) (ds gs : List (DataW H)) (before : List MemPlace)
    (hval : ∀ (j : Nat) t v, Try.f5.params[j]? = some t → args[j]? = some v → Value.okWide Try.prog W .any base t v)
    (hW : DataW.Whole enc Try.prog Try.f5.params.toList Rows.intsZonesSpec.vars false W args.toList ds gs before) (_ : laidMetH Try.prog Rows.intsZonesRow.laid W)
    (hsz0 : (DataW.weightsEach Try.prog (Try.f5.params.toList ++ Rows.intsZonesSpec.plain.varTypes Try.prog) (ds ++ gs)).all (· ≤ reachBytes) = true) :
    Calls Try.prog 5 args W fun e W' => ∃ v, e = .returned v ∧ Rows.intsZonesSpec.post enc Try.prog Try.f5 false true false false W args v W' := by
  have hW' := hW
  obtain ⟨p, q, hA0, hV, rfl, hfz, hnd⟩ := hW
  have hA : DataW.TrodAll enc Try.prog W 0 (fun _ => true) true Try.f5.params.toList args.toList ds p := hA0
  rw [Try.params5] at hA hval hsz0
  obtain ⟨v0, vs0, d0, ds0, p0, q0, hargs, rfl, rfl, h0, r0⟩ := trodAll_cons hA
  obtain ⟨rfl, rfl, rfl⟩ := trodAll_nil r0
  obtain rfl : args = #[v0] := by cases args; simp_all
  obtain ⟨rfl, rfl⟩ := trodVars_none hV
  obtain ⟨a0, len0, cap0, rfl⟩ := okWide_slice Try.underlying23 (hval 0 23 v0 rfl rfl)
  have lt0 : ∀ x ∈ p0, x.block < W.heap.size := by obtain ⟨m, hm⟩ := h0; exact DataW.trod_lt m _ _ _ hm
  obtain ⟨l0, e0, ec0, ef0, b0, k0⟩ := open_cells h0
  have reach0 := reach_cells hsz0 (j := 0) rfl rfl k0
  clear hA0
  refine (walk a0 len0 cap0 l0 W e0 ec0 reach0 ef0 b0).mono fun e W' ⟨he, bel⟩ => ?_
  subst he
  exact ⟨_, rfl, _, _, _, [], _, [], hW', trodAll_mk1 (shut_bool Try.underlying4 _), (trodAll_cons_mk (Below.trod laidOut (by kernel_rfl) (of_decide_eq_true (by kernel_rfl)) h0 bel lt0) trodAll_mk0), rfl, bel.frame _, fun h => by cases h⟩

theorem laid_met (os : Os) : laidMet Try.prog Rows.intsZonesRow.laid ((World.holding Try.prog os ⟨#[], #[], []⟩).forCall (fun _ _ => 0) ⟨#[], #[.slice none 0 0], []⟩).memory :=
  laidMet_of_run' 8 (by kernel_rfl) (by kernel_rfl)
theorem reads (os : Os) {H : Type} (enc : TypeId × Value → H) : ∃ places, DataW.whole enc Try.prog ((World.holding Try.prog os ⟨#[], #[], []⟩).forCall (fun _ _ => 0) ⟨#[], #[.slice none 0 0], []⟩).memory Try.f5.params.toList Rows.intsZonesSpec.vars false #[Value.slice none 0 0].toList 8 = some ([.nil], [], places) :=
  ⟨[], by kernel_rfl⟩

set_option maxRecDepth 100000 in
theorem lifted (os : Os) (started : os.Started) (H : Type) (enc : TypeId × Value → H) (F : Stop.Interp) :
    ReturnsInHanded {} Try.checked os 5 .any ((OpenSpec.ofChange Rows.intsZonesSpec).preRow enc Try.prog Try.f5 Rows.intsZonesRow.domain false Rows.intsZonesRow.laid) (((OpenSpec.ofChange Rows.intsZonesSpec).at F).post enc Try.prog Try.f5 false true false false) := by
  obtain ⟨places, hx⟩ := reads os enc
  refine returnsInHanded_of_row (C := Try.checked) (s := OpenSpec.ofChange Rows.intsZonesSpec) own started (by kernel_rfl) Try.func5
    (witness_row_at (enc := enc) (C := Try.checked) false (World.holding Try.prog os ⟨#[], #[], []⟩) #[.slice none 0 0] rfl (by kernel_rfl) (by kernel_rfl) (by kernel_rfl)
      (OpenSpec.preRow_of_cond 8 hx (by kernel_rfl) (fun k hk => by cases hk) (by kernel_rfl) (laid_met os))) ?_
  intro W base args ds gs before hval hW _ _ hsz hL _ _
  exact contract H enc W base args ds gs before hval hW hL hsz

theorem said : Rows.IntsZonesSaid :=
  OpenClaim.holds_of_cond 5 Try.f5 rfl rfl rfl rfl rfl rfl rfl ⟨rfl, rfl, rfl, rfl, rfl⟩ rfl rfl rfl rfl rfl (by kernel_rfl) Try.func5 (by kernel_rfl)
    (of_decide_eq_true (by kernel_rfl)) (by unfold Func.isWrapper; first | (rw [if_pos (by decide +kernel)]; kernel_rfl) | (rw [if_neg (by decide +kernel)]; exact ⟨rfl, rfl⟩))
    (fun os started H enc _ F => by rw [OpenClaim.pre_eq_preRow]; exact lifted os started H enc F)

end Go.Proofs.Ytgjopffdgdimlaa.intsZones
