/- PROVED: the law FieldOnce (a line has at most 16 fields, of unlike keys, each of which is got by its key) returns true and leaves its argument as it was, for any byte slice.
   Condition: the listed package variables (of strconv, math/bits) hold what the program's text lays (the card ties them to the text, by the translator's look). -/
import Derived.Test.YtbjoboemhdcalaaDoorFldVars
import Derived.BigQuiet
namespace Go.Proofs.YtbjoboemhdcalaaDoor.fieldOnce
open Go.ChangeShapes Go.WideShapes Go.ChangeAt Go.RowKit
set_option maxRecDepth 100000

set_option maxHeartbeats 2000000 in
theorem walk (A : Option Addr) (n cap : Nat) (l : List UInt8) (w : World)
    (hl : l.length = n) (hcap : n ≤ cap) (hn : n ≤ 140737488351232) (hb : Bytes w w.heap.size A l) (hv : Vars w) :
    Calls Tryd.prog 8 #[.slice A n cap] w fun e w' => e = .returned (.bool true) ∧ Below w.heap.size w w' := by
  have HA := Lib.hid (fldAlive_any w hv)
  have C1 := fun w' hb hv => read_any A n cap l w' hl hcap (by omega) hb hv
  have C2 := fun key w' hb hv => get_any A n cap l key w' hl hcap (by omega) hb hv
  have HBV := Lib.hid (fun w' (h : Below w.heap.size w w') => And.intro ((hb.below h).wide h.size) (hv.below h))
  have hle := Fld.read_le l
  have hG := Fld.read_good l
  have hO := Fld.read_once l
  unfold ReadPost at C1
  unfold AtPost at C2
  generalize Fld.read l = X at *
  replace C1 := Lib.hid C1
  replace C2 := Lib.hid C2
  have HG := Lib.hid hG
  have HO := Lib.hid hO
  have hle16 : (X.length : Int) ≤ 16 := by omega
  have hd16 : decide ((X.length : Int) ≤ 16) = true := decide_eq_true hle16
  clear hl hv hb hG hO hle
  go_enter Tryd.func8, Tryd.ntmps8
  go_wp2_with fail
  refine HA.out.mono ?_
  rintro e w1 ⟨rfl, hbel1⟩
  go_wp2_with fail
  refine (C1.out _ (HBV.out _ hbel1).1 (HBV.out _ hbel1).2).mono ?_
  rintro e w2 ⟨A2, c2, rfl, ho2, hb2⟩
  have hbel2 := hbel1.trans (hb2.mono hbel1.size)
  have hf2 := ho2.flds
  clear C1 ho2 hb2 HA
  go_wp2
  go_loopw [4] (fun i wr => ∃ (k : Nat), k ≤ X.length ∧ i = .int .i64 (k : Int) ∧ Flds wr A2 X ∧ Below w.heap.size w wr) (fun i _ => X.length - (intOf i).toNat)
  case atStart => exact ⟨0, by omega, rfl, hf2, hbel2⟩
  case round =>
    clear hf2 hbel2
    obtain ⟨k, hk, rfl, hf, hbel⟩ := hrel
    by_cases hlt : k < X.length
    · have hgood := HG.out _ (List.getElem_mem hlt)
      have hone := HO.out k hlt
      obtain ⟨g, hA2, hg, c0, c1, c2', c3⟩ := hf.get hlt
      have i1 : (k : Int) < (X.length : Int) := by omega
      have i0 : (0 : Int) ≤ (k : Int) := by omega
      generalize X[k] = f at *
      obtain ⟨fk, fd, fi, ft⟩ := f
      simp only at hgood hone c0 c1 c2' c3
      have HK := isKey_any fk
      rw [hgood.1] at HK
      replace HK := Lib.hid (fun W => HK W (by have := (Fld.isKey_all hgood.1).2.1; omega))
      have h64 : ¬ (64 : Int) < (ft.length : Int) := by omega
      have hd64 : decide ((64 : Int) < (ft.length : Int)) = false := decide_eq_false h64
      have C3 := C2.out fk wr (HBV.out _ hbel).1 (HBV.out _ hbel).2
      rw [hone] at C3
      simp only [Option.getD_some, Option.isSome_some, fval] at C3
      replace C3 := Lib.hid C3
      have hrun : ∀ W, _ := fun W => run_eq_field fk fk fd fd fi fi ft ft W
      rw [decide_eq_true rfl] at hrun
      have hgd := guard_field
      clear hgood hone
      obtain rfl := hA2
      go_wp2_with fail
      refine C3.out.mono ?_
      rintro e w3 ⟨rfl, hb3⟩
      have hb4 := hb3.alloc hb3.size (.cells #[.string ⟨fk.toArray⟩, .int .i64 fd, .int .i64 fi, .string ⟨ft.toArray⟩] 27)
      have hbel4 := hbel.trans (hb4.mono hbel.size)
      have hf4 := hf.below hb4
      have hbx4 := (FBox.new w3 ⟨fk, fd, fi, ft⟩).cell
      obtain ⟨k0, k1, k2, k3⟩ := hbx4
      simp only at k0 k1 k2 k3
      have m0 := (hb4.cell (p := ⟨g, k * 4, none⟩) hg).trans c0
      have m1 := (hb4.cell (p := ⟨g, k * 4 + 1, none⟩) hg).trans c1
      have m2 := (hb4.cell (p := ⟨g, k * 4 + 2, none⟩) hg).trans c2'
      have m3 := (hb4.cell (p := ⟨g, k * 4 + 3, none⟩) hg).trans c3
      clear c0 c1 c2' c3 hb3 hb4 C3
      go_wp2
      go_quiet ((go_at_call 14; exact quiet_left (HK.out _)))
      go_wp2
      go_roundw
      case rel => exact ⟨k + 1, by omega, by go_num, hf4, below_drewN hbel4 _⟩
      case measure => simp [intOf]; omega
    · go_wp2
      go_ret
      exact ⟨rfl, hbel⟩

/-- from the walk to the post of the row -/
theorem contract (H : Type) (enc : TypeId × Value → H) (W : World) (base : Nat) (args : Array Value) (ds gs : List (DataW H)) (before : List MemPlace)
    (hval : ∀ (j : Nat) t v, Tryd.f8.params[j]? = some t → args[j]? = some v → Value.okWide Tryd.prog W .any base t v)
    (hW : DataW.Whole enc Tryd.prog Tryd.f8.params.toList Rows.fieldOnceSpec.vars false W args.toList ds gs before) (hL : laidMetH Tryd.prog Rows.fieldOnceRow.laid W)
    (hsz0 : (DataW.weightsEach Tryd.prog (Tryd.f8.params.toList ++ Rows.fieldOnceSpec.plain.varTypes Tryd.prog) (ds ++ gs)).all (· ≤ reachBytes) = true) :
    Calls Tryd.prog 8 args W fun e W' => ∃ v, e = .returned v ∧ Rows.fieldOnceSpec.post enc Tryd.prog Tryd.f8 false true false false W args v W' := by
  have hW' := hW
  obtain ⟨p, q, hA0, hV, rfl, hfz, hnd⟩ := hW
  have hA : DataW.TrodAll enc Tryd.prog W 0 (fun _ => true) true Tryd.f8.params.toList args.toList ds p := hA0
  rw [Tryd.params8] at hA hval hsz0
  obtain ⟨v0, vs0, d0, ds0, p0, q0, hargs, rfl, rfl, h0, r0⟩ := trodAll_cons hA
  obtain ⟨rfl, rfl, rfl⟩ := trodAll_nil r0
  obtain rfl : args = #[v0] := by cases args; simp_all
  obtain ⟨rfl, rfl⟩ := trodVars_none hV
  obtain ⟨a0, len0, cap0, rfl⟩ := okWide_slice Tryd.underlying31 (hval 0 31 v0 rfl rfl)
  have lt0 : ∀ x ∈ p0, x.block < W.heap.size := by obtain ⟨m, hm⟩ := h0; exact DataW.trod_lt m _ _ _ hm
  obtain ⟨l0, e0, ec0, b0, k0⟩ := open_bytes h0
  have reach0 := reach_bytes hsz0 (j := 0) rfl rfl k0
  clear hA0
  refine (walk a0 len0 cap0 l0 W e0 ec0 reach0 b0 (vars hL)).mono fun e W' ⟨he, bel⟩ => ?_
  subst he
  exact ⟨_, rfl, _, _, _, [], _, [], hW', trodAll_mk1 (shut_bool Tryd.underlying4 _), (trodAll_cons_mk (Below.trod laidOut (by kernel_rfl) (of_decide_eq_true (by kernel_rfl)) h0 bel lt0) trodAll_mk0), rfl, bel.frame _, fun h => by cases h⟩

theorem laid_met (os : Os) : laidMet Tryd.prog Rows.fieldOnceRow.laid ((laidWorld os).forCall (fun _ _ => 0) ⟨#[], #[.slice none 0 0], []⟩).memory :=
  laidMet_of_run' 8 (by kernel_rfl) (by kernel_rfl)
theorem reads (os : Os) {H : Type} (enc : TypeId × Value → H) : ∃ places, DataW.whole enc Tryd.prog ((laidWorld os).forCall (fun _ _ => 0) ⟨#[], #[.slice none 0 0], []⟩).memory Tryd.f8.params.toList Rows.fieldOnceSpec.vars false #[Value.slice none 0 0].toList 8 = some ([.nil], [], places) :=
  ⟨[], by kernel_rfl⟩

set_option maxRecDepth 100000 in
theorem lifted (os : Os) (started : os.Started) (H : Type) (enc : TypeId × Value → H) (F : Stop.Interp) :
    ReturnsInHanded {} Tryd.checked os 8 .any ((OpenSpec.ofChange Rows.fieldOnceSpec).preRow enc Tryd.prog Tryd.f8 Rows.fieldOnceRow.domain false Rows.fieldOnceRow.laid) (((OpenSpec.ofChange Rows.fieldOnceSpec).at F).post enc Tryd.prog Tryd.f8 false true false false) := by
  obtain ⟨places, hx⟩ := reads os enc
  refine returnsInHanded_of_row (C := Tryd.checked) (s := OpenSpec.ofChange Rows.fieldOnceSpec) own started (by kernel_rfl) Tryd.func8
    (witness_row_at (enc := enc) (C := Tryd.checked) false (laidWorld os) #[.slice none 0 0] rfl (by kernel_rfl) (by kernel_rfl) (by kernel_rfl)
      (OpenSpec.preRow_of_cond 8 hx (by kernel_rfl) (fun k hk => by cases hk) (by kernel_rfl) (laid_met os))) ?_
  intro W base args ds gs before hval hW _ _ hsz hL _ _
  exact contract H enc W base args ds gs before hval hW hL hsz

theorem said : Rows.FieldOnceSaid :=
  OpenClaim.holds_of_cond 8 Tryd.f8 rfl rfl rfl rfl rfl rfl rfl ⟨rfl, rfl, rfl, rfl, rfl⟩ rfl rfl rfl rfl rfl (by kernel_rfl) Tryd.func8 (by kernel_rfl)
    (of_decide_eq_true (by kernel_rfl)) (by unfold Func.isWrapper; first | (rw [if_pos (by decide +kernel)]; kernel_rfl) | (rw [if_neg (by decide +kernel)]; exact ⟨rfl, rfl⟩))
    (fun os started H enc _ F => by rw [OpenClaim.pre_eq_preRow]; exact lifted os started H enc F)

theorem plain (f : FuncId) (fn : Func) (hf : Tryd.pinned.checked.prog.funcNamed "dragnet/dragnetlaw08.FieldOnce" = some f) (hfn : Tryd.pinned.checked.prog.funcs[f]? = some fn) :
    true = Tryd.pinned.checked.prog.looks [] ∧ ∀ (j : Nat) t, fn.params[j]? = some t → Tryd.pinned.checked.prog.wantsStandIn t = false := by
  obtain rfl : f = 8 := Option.some.inj ((show Tryd.prog.funcNamed "dragnet/dragnetlaw08.FieldOnce" = some 8 by kernel_rfl).symm.trans hf) |>.symm
  obtain rfl : fn = Tryd.f8 := (Option.some.inj (Tryd.func8.symm.trans hfn)).symm
  refine ⟨by kernel_rfl, fun j t ht => ?_⟩
  rw [Tryd.params8] at ht
  obtain rfl : t = 31 := by simpa using Array.mem_of_getElem? ht
  exact (show Tryd.prog.wantsStandIn 31 = false by kernel_rfl)

/-- THE CARD -/
theorem card : Rows.FieldOnceCardSaid :=
  Claim7.holds_tied_plain_at .later [] _ _ _ _ said (fun _ h => by cases h) (by kernel_rfl) (fun _ h => by cases h) fieldOnce_row_tie rfl ⟨rfl, rfl⟩ (by kernel_rfl) rfl plain (by kernel_rfl)
end Go.Proofs.YtbjoboemhdcalaaDoor.fieldOnce
