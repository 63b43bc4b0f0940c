/- Numbers' texts: strconv.Itoa and strconv.Atoi as they stand here, field.Number, field.Show; the variables that they read. -/
import Derived.Test.YtbjoboemhdcalaaDoorFldLay
import Derived.Test.YtbjoboemhdcalaaDoorFldKey
import Derived.Lib.AppendIntMem
import Derived.Lib.SmallJoins
namespace Go.Proofs.YtbjoboemhdcalaaDoor
open Go.RowKit
set_option maxRecDepth 100000

/-- what the package variables that are read hold -/
structure Vars (w : World) : Prop where
  tab : Lib.TabIs Tryd.prog w "internal/strconv.uint64pow10" .u64 Lib.pow10Tab
  syn : ∃ ev, w.cell? ⟨0, 0, none⟩ = some ev ∧ (ev = .nilIface ∨ ∃ te pe, ev = .iface te pe)
  rng : ∃ ev, w.cell? ⟨1, 0, none⟩ = some ev ∧ (ev = .nilIface ∨ ∃ te pe, ev = .iface te pe)
  size : 6 ≤ w.heap.size
theorem gPow : Tryd.prog.globalNamed "internal/strconv.uint64pow10" = some 3 := by kernel_rfl
theorem Vars.below {w w' : World} (h : Vars w) (hb : Below w.heap.size w w') : Vars w' := by
  have h6 := h.size
  refine ⟨Go.Joins.tab_stays gPow h.tab hb (Nat.le_refl _), ?_, ?_, Nat.le_trans h.size hb.size⟩
  · obtain ⟨ev, hc, hf⟩ := h.syn
    exact ⟨ev, (hb.cell (p := ⟨0, 0, none⟩) (show 0 < _ by omega)).trans hc, hf⟩
  · obtain ⟨ev, hc, hf⟩ := h.rng
    exact ⟨ev, (hb.cell (p := ⟨1, 0, none⟩) (show 1 < _ by omega)).trans hc, hf⟩

theorem size_of (s : List UInt8) : (⟨s.toArray⟩ : ByteArray).size = s.length := by rw [ByteArray.size, List.size_toArray]

theorem itoa_any (n : Int) (w : World) (h0 : -9223372036854775808 ≤ n) (h1 : n ≤ 9223372036854775807) (hv : Vars w) :
    Calls Tryd.prog 25 #[.int .i64 n] w fun e w' => e = .returned (.string ⟨(Lib.itoa n).toArray⟩) ∧ Below w.heap.size w w' :=
  (Any.strconv_Itoa Tryd.itoaL n h0 h1 w hv.tab).mono fun _ _ ⟨he, k, os, hw⟩ => ⟨he, by rw [hw]; exact Lib.below_grow _ w (Nat.le_refl _) k os⟩
/-- what Atoi answers -/
def AtoiPost (s : List UInt8) (w : World) (e : Ending) (w' : World) : Prop :=
  Below w.heap.size w w' ∧ ((∃ v, Lib.atoiAll s = .ok v ∧ e = .returned (.tuple #[.int .i64 v, .nilIface])) ∨ ((∀ v, Lib.atoiAll s ≠ .ok v) ∧ ∃ z t p, e = .returned (.tuple #[.int .i64 z, .iface t (.pointer p)])))
theorem atoi_any (s : List UInt8) (w : World) (hs : s.length ≤ 140737488355328) (hv : Vars w) :
    Calls Tryd.prog 24 #[.string ⟨s.toArray⟩] w (AtoiPost s w) := by
  have hl : (⟨s.toArray⟩ : ByteArray).data.toList = s := rfl
  rcases h : Lib.atoiAll s with v | _ | _
  · exact (Any.strconv_Atoi_ok Tryd.atoiL ⟨s.toArray⟩ (by rw [size_of]; omega) v h w).mono fun _ _ ⟨he, hw⟩ => ⟨by
      rcases hw with rfl | ⟨t, rfl⟩
      · exact Below.refl _ _
      · exact Go.Joins.below_bytesWorld _ w _ t (Nat.le_refl _), .inl ⟨v, h, he⟩⟩
  · obtain ⟨ev, hc, hf⟩ := hv.syn
    exact (Any.strconv_Atoi_syntax Tryd.atoiL ⟨s.toArray⟩ (by rw [size_of]; omega) h ev w hc hf).mono fun _ _ ⟨N, he, _, _, hb⟩ => ⟨hb, .inr ⟨(fun v hv => by rw [h] at hv; cases hv), _, _, _, he⟩⟩
  · obtain ⟨ev, hc, hf⟩ := hv.rng
    exact (Any.strconv_Atoi_range Tryd.atoiL ⟨s.toArray⟩ (by rw [size_of]; omega) h ev w hc hf).mono fun _ _ ⟨N, he, _, _, hb⟩ => ⟨hb, .inr ⟨(fun v hv => by rw [h] at hv; cases hv), _, _, _, he⟩⟩
/-- what Number answers -/
def NumPost (s : List UInt8) (w : World) (e : Ending) (w' : World) : Prop :=
  e = .returned (.tuple #[.int .i64 ((Fld.num s).getD 0), .bool (Fld.num s).isSome]) ∧ Below w.heap.size w w'
set_option maxHeartbeats 1000000 in
theorem number_any (s : List UInt8) (w : World) (hs : s.length ≤ 140737488355328) (hv : Vars w) :
    Calls Tryd.prog 10 #[.string ⟨s.toArray⟩] w (NumPost s w) := by
  have HA := Lib.hid (atoi_any s w hs hv)
  have HI := Lib.hid (fun n W h0 h1 hb => itoa_any n W h0 h1 (hv.below hb))
  clear hv
  go_enter Tryd.func10, Tryd.ntmps10
  go_wp2_with fail
  refine HA.out.mono ?_
  rintro e w1 ⟨hb1, ⟨v, hok, rfl⟩ | ⟨hno, z, t, p, rfl⟩⟩
  · have hbd := Fld.atoi_bounds hok
    have HI2 := Lib.hid (HI.out v w1 hbd.1 hbd.2 hb1)
    by_cases heq : Lib.itoa v = s
    · have HR := Lib.hid (show Fld.num s = some v from Fld.num_iff.2 ⟨heq, hbd⟩)
      have hne : (Lib.itoa v == s) = true := by rw [heq]; simp
      clear hok heq HA HI hbd
      go_wp2_with fail
      refine HI2.out.mono ?_
      rintro e w2 ⟨rfl, hb2⟩
      go_wp2
      go_ret2
      exact ⟨by rw [HR.out]; rfl, hb1.trans (hb2.mono hb1.size)⟩
    · have HR := Lib.hid (show Fld.num s = none from by
        cases hn : Fld.num s with
        | none => rfl
        | some u =>
          obtain ⟨h1, h2⟩ := Fld.num_iff.1 hn
          have h3 := Fld.atoi_itoa h2.1 h2.2
          rw [h1, hok] at h3
          injection h3 with h3
          rw [h3] at heq
          exact absurd h1 heq)
      have hne : (Lib.itoa v == s) = false := by simpa using heq
      clear hok heq HA HI hbd
      go_wp2_with fail
      refine HI2.out.mono ?_
      rintro e w2 ⟨rfl, hb2⟩
      go_wp2
      go_ret2
      exact ⟨by rw [HR.out]; rfl, hb1.trans (hb2.mono hb1.size)⟩
  · have HR := Lib.hid (show Fld.num s = none from by
      cases hn : Fld.num s with
      | none => rfl
      | some u =>
        obtain ⟨h1, h2⟩ := Fld.num_iff.1 hn
        have h3 := Fld.atoi_itoa h2.1 h2.2
        rw [h1] at h3
        exact absurd h3 (hno u))
    clear hno HA HI
    go_wp2
    go_ret2
    exact ⟨by rw [HR.out]; rfl, hb1⟩

/-- a string as a value -/
def sval (l : List UInt8) : Value := .string ⟨l.toArray⟩
/-- a field as a value -/
def fval (f : Fld.F) : Value := .agg #[.string ⟨f.key.toArray⟩, .int .i64 f.kind, .int .i64 f.int, .string ⟨f.text.toArray⟩]
/-- the text of a field's value -/
def Fld.show_ (f : Fld.F) : List UInt8 := if f.kind = 1 then Lib.itoa f.int else f.text
theorem clone_any (s : List UInt8) (w : World) (hs : s.length ≤ 140737488355328) :
    Calls Tryd.prog 26 #[.string ⟨s.toArray⟩] w fun e w' => e = .returned (.string ⟨s.toArray⟩) ∧ Below w.heap.size w w' := by
  have HC := Lib.hid (Any.stringslite_Clone Tryd.cloneL ⟨s.toArray⟩ w (by rw [size_of]; omega))
  go_enter Tryd.func26, Tryd.ntmps26
  go_wp2_with fail
  refine HC.out.mono ?_
  rintro e w1 ⟨rfl, hb⟩
  go_wp2
  go_ret
  exact ⟨rfl, hb⟩
set_option maxHeartbeats 1000000 in
theorem show_any (f : Fld.F) (w : World) (h0 : -9223372036854775808 ≤ f.int) (h1 : f.int ≤ 9223372036854775807) (hs : f.text.length ≤ 140737488355328) (hv : Vars w) :
    Calls Tryd.prog 12 #[fval f] w fun e w' => e = .returned (.string ⟨(Fld.show_ f).toArray⟩) ∧ Below w.heap.size w w' := by
  obtain ⟨k, kd, n, t⟩ := f
  unfold fval Fld.show_
  simp only at h0 h1 hs ⊢
  have hb0 : ∀ cs : Array Value, Below w.heap.size w (w.alloc (.cells cs 27)) := fun cs => (Below.refl _ w).alloc (Nat.le_refl _) _
  have HI := Lib.hid (fun cs => itoa_any n (w.alloc (.cells cs 27)) h0 h1 (hv.below (hb0 cs)))
  have HC := Lib.hid (fun cs => clone_any t (w.alloc (.cells cs 27)) hs)
  have HB := Lib.hid hb0
  clear hv hb0
  by_cases hk : kd = 1
  · subst hk
    go_enter Tryd.func12, Tryd.ntmps12
    go_wp2_with fail
    refine (HI.out _).mono ?_
    rintro e w1 ⟨rfl, hb⟩
    go_wp2
    go_ret
    exact ⟨rfl, (HB.out _).trans (hb.mono (by simp))⟩
  · have hk' : (kd == 1) = false := by simpa using hk
    go_enter Tryd.func12, Tryd.ntmps12
    go_wp2_with fail
    refine (HC.out _).mono ?_
    rintro e w1 ⟨rfl, hb⟩
    go_wp2
    go_ret
    exact ⟨rfl, (HB.out _).trans (hb.mono (by simp))⟩
end Go.Proofs.YtbjoboemhdcalaaDoor
