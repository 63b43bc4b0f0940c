/- lz.history: find and add: the last places of four bytes, in a map. -/
import Derived.Test.YtonknkmbkfndcaaLzFns
import Derived.Maps.OwnSet
import Derived.Deep.RegionHeld3
import Derived.StillTailTactics
namespace Go.Proofs.Ytonknkmbkfndcaa
open Go.RowKit Go.Maps

theorem keyLaw : Keyed Try.prog 51 := int_keyed Try.underlying51
theorem zeroInt (w : World) : (zeroValue 3).run Try.prog w = .ok (.int .i64 0) w := by kernel_rfl
theorem key_wf {q : Nat} (h : q < 4294967296) : (Lit.int .u32 (q : Int)).wf = true := WalkArith.wf_u32 (by omega)
theorem keyIs {q : Nat} (h : q < 4294967296) : keyOf Try.prog 51 (.int .u32 (q : Int)) = some (.int .u32 (q : Int)) := keyOf_int_mk Try.underlying51 (key_wf h)

/-- what a datum says of the four bytes q -/
def Says (D : DataW Unit) (q : Nat) : Option Nat → Prop
  | none => Maps.has D (.int .u32 (q : Int)) = false
  | some p => Maps.has D (.int .u32 (q : Int)) = true ∧ D.atKey (.int .u32 (q : Int)) (.lit (.int .i64 0)) = .lit (.int .i64 (p : Int))
/-- block M is a map that knows the last places ahead of i -/
def Hist (w : World) (M : Nat) (b : List UInt8) (i : Nat) : Prop :=
  ∃ (D : DataW Unit) (k : Nat), k ≤ i ∧ w.ownsMap Try.prog 51 (plainElem Try.prog 3) M k D ∧ ∀ q, q < 4294967296 → ∃ r, Lz.IsLast b i q r ∧ Says D q r
theorem Hist.drawn {w w' : World} {M : Nat} {b : List UInt8} {i : Nat} (h : Hist w M b i) (hd : Drawn w w') : Hist w' M b i := by
  obtain ⟨q, rfl⟩ := hd
  exact h
theorem Hist.lt {w : World} {M : Nat} {b : List UInt8} {i : Nat} (h : Hist w M b i) : M < w.heap.size := by
  obtain ⟨D, k, _, h, _⟩ := h
  exact h.lt
theorem Hist.kept {w w' : World} {M : Nat} {b : List UInt8} {i : Nat} {row : Option Nat} (h : Hist w M b i) (hg : w.grownBy w' row) (hne : some M ≠ row) : Hist w' M b i := by
  obtain ⟨D, k, hk, h, r⟩ := h
  exact ⟨D, k, hk, h.kept hg hne, r⟩

/-- what find answers -/
def foundVal : Option Nat → Value
  | none => .tuple #[.int .i64 0, .bool false]
  | some k => .tuple #[.int .i64 (k : Int), .bool true]

set_option maxHeartbeats 1000000 in
theorem find_any (A : Option Addr) (n cap B M i : Nat) (l : List UInt8) (w : World) (hl : l.length = n) (hn : i + 4 ≤ n) (hm : n ≤ 281474976710656) (hb : Bytes w B A l) (hB : B ≤ w.heap.size) (hh : Hist w M l i) :
    Calls Try.prog 15 #[.agg #[.slice A n cap, .map (some M)], .int .i64 (i : Int)] w fun e w' => e = .returned (foundVal (Lz.before l i i)) ∧ Below w.heap.size w w' := by
  have hq := Lz.quad_lt l i
  obtain ⟨D, k, hk, hown, hall⟩ := hh
  obtain ⟨r, hr, hs⟩ := hall _ hq
  obtain rfl : r = Lz.before l i i := Lz.IsLast.unique hr (Lz.before_last l i)
  have hval : ∃ c f, foundVal (Lz.before l i i) = .tuple #[.int .i64 c, .bool f] ∧ Maps.has D (.int .u32 (Lz.quad l i : Int)) = f ∧ D.atKey (.int .u32 (Lz.quad l i : Int)) (.lit (.int .i64 0)) = .lit (.int .i64 c) := by
    generalize Lz.before l i i = r at hs
    match r, hs with
    | none, hs => exact ⟨0, false, rfl, hs, atKey_of_not_has hs _⟩
    | some p, hs => exact ⟨p, true, rfl, hs.1, hs.2⟩
  obtain ⟨c, f, hv, hf, hc⟩ := hval
  rw [hv]
  have H1 := fun w' hb' => quadAt_any A n cap B i l w' hl hn hm hb'
  generalize Lz.quad l i = q at *
  clear hr hs hall hv
  have hown1 := hown.alloc (.cells #[.slice A n cap, .map (some M)] 36)
  have hbel : Below w.heap.size w (w.alloc (.cells #[.slice A n cap, .map (some M)] 36)) := (Below.refl _ _).alloc (Nat.le_refl _) _
  have hb1 := hb.below (hbel.mono hB)
  have c0 : (w.alloc (.cells #[.slice A n cap, .map (some M)] 36)).cell? ⟨w.heap.size, 0, none⟩ = some (.slice A n cap) := by rw [World.cell?_alloc_at _ _ _ _ rfl]; rfl
  have c1 : (w.alloc (.cells #[.slice A n cap, .map (some M)] 36)).cell? ⟨w.heap.size, 1, none⟩ = some (.map (some M)) := by rw [World.cell?_alloc_at _ _ _ _ rfl]; rfl
  have hrun : ∀ m, (Instr.lookup 34 (.map (some M)) (.int .u32 (q : Int)) true).run Try.prog ((w.alloc (.cells #[.slice A n cap, .map (some M)] 36)).drewN m) = .ok (.tuple #[.int .i64 c, .bool f]) ((w.alloc (.cells #[.slice A n cap, .map (some M)] 36)).drewN m) := fun m => by
    have hownm : ((w.alloc (.cells #[.slice A n cap, .map (some M)] 36)).drewN m).ownsMap Try.prog 51 (plainElem Try.prog 3) M k D := hown1
    obtain ⟨v, ps, h1, h2⟩ := hownm.look_ok keyLaw Try.underlying34 (zeroInt _) (plainElem_int (H := Unit) Try.underlying3 (by decide)) (keyIs hq)
    obtain ⟨a, rfl, h3, _⟩ := plainElem_int_inv Try.underlying3 h2
    have h4 := congrArg Prod.fst h3
    simp only [hc] at h4
    injection h4 with h4
    injection h4 with _ h4
    rw [h1, hf, h4]
  have H2 := fun m => H1 ((w.alloc (.cells #[.slice A n cap, .map (some M)] 36)).drewN m) (hb1.drewN m)
  have h0m : M ≠ w.heap.size := by have := hown.lt; omega
  clear hown1 hown hb1 hb H1 hf hc hl
  go_enter Try.func15, Try.ntmps15
  go_wp2_with fail
  generalize w.alloc (.cells #[.slice A n cap, .map (some M)] 36) = wb at *
  replace H2 := Lib.hid H2
  go_quiet ((go_at_call 26; exact quiet_drawn (H2.out _)))
  go_wp2
  go_ret2
  exact ⟨rfl, hbel.trans ((Drawn.drewN (Drawn.refl _) _).below _)⟩
end Go.Proofs.Ytonknkmbkfndcaa
