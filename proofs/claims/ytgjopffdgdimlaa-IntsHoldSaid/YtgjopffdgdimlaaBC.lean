/- Texts of several layers, one behind the other: Reader High ReadBlock TakeBlock PforRef RefBy RefBlock RefTakeBlock. -/
import Derived.Test.YtgjopffdgdimlaaBB
import Derived.Lib.BufferOwn
import Derived.Deep.RegionHeld3
import Derived.RegionTactic
/- The document's Reader: its cells, Number, Count. -/
namespace Go.Proofs.Ytgjopffdgdimlaa
open Go.RowKit
set_option maxRecDepth 100000

/-- The reader at block g, over the slice A, stands at at_; bad or not. -/
structure Rd (w : World) (g : Nat) (A : Option Addr) (n cap at_ : Nat) (bad : Bool) : Prop where
  b : w.cell? ⟨g, 0, none⟩ = some (.slice A n cap)
  at' : w.cell? ⟨g, 1, none⟩ = some (.int .i64 (at_ : Int))
  bad' : w.cell? ⟨g, 2, none⟩ = some (.bool bad)
  f1 : w.frozen? ⟨g, 1, none⟩ = false
  f2 : w.frozen? ⟨g, 2, none⟩ = false
  lt : g < w.heap.size

namespace Rd
variable {w w' : World} {g : Nat} {A : Option Addr} {n cap at_ : Nat} {bad : Bool}
theorem below (h : Rd w g A n cap at_ bad) (hb : Below w.heap.size w w') : Rd w' g A n cap at_ bad :=
  ⟨(hb.cell (p := ⟨g, 0, none⟩) h.lt).trans h.b, (hb.cell (p := ⟨g, 1, none⟩) h.lt).trans h.at', (hb.cell (p := ⟨g, 2, none⟩) h.lt).trans h.bad',
    (hb.frozen (p := ⟨g, 1, none⟩) h.lt).trans h.f1, (hb.frozen (p := ⟨g, 2, none⟩) h.lt).trans h.f2, Nat.lt_of_lt_of_le h.lt hb.size⟩
end Rd
theorem heap_size_setCell (w : World) (a : Addr) (v : Value) : (w.setCell a v).heap.size = w.heap.size := by simp
theorem Rd.setAt {w : World} {g : Nat} {A : Option Addr} {n cap at_ : Nat} {bad : Bool} (h : Rd w g A n cap at_ bad) (k : Nat) : Rd (w.setCell ⟨g, 1, none⟩ (.int .i64 (k : Int))) g A n cap k bad := by
  refine ⟨?_, ?_, ?_, ?_, ?_, by rw [heap_size_setCell]; exact h.lt⟩
  · rw [World.cell?_setCell_other _ _ _ _ (by simp)]; exact h.b
  · exact World.cell?_setCell_same' _ _ _ (by rw [h.at']; rfl)
  · rw [World.cell?_setCell_other _ _ _ _ (by simp)]; exact h.bad'
  · rw [World.frozen?_setCell]; exact h.f1
  · rw [World.frozen?_setCell]; exact h.f2
theorem Rd.setBad {w : World} {g : Nat} {A : Option Addr} {n cap at_ : Nat} {bad : Bool} (h : Rd w g A n cap at_ bad) (k : Bool) : Rd (w.setCell ⟨g, 2, none⟩ (.bool k)) g A n cap at_ k := by
  refine ⟨?_, ?_, ?_, ?_, ?_, by rw [heap_size_setCell]; exact h.lt⟩
  · rw [World.cell?_setCell_other _ _ _ _ (by simp)]; exact h.b
  · rw [World.cell?_setCell_other _ _ _ _ (by simp)]; exact h.at'
  · exact World.cell?_setCell_same' _ _ _ (by rw [h.bad']; rfl)
  · rw [World.frozen?_setCell]; exact h.f1
  · rw [World.frozen?_setCell]; exact h.f2

/-- what a number that is read comes to: it, where one stands then, whether it was bad -/
def Pfor.rd (most : Nat) (b : List UInt8) (at_ : Nat) : Nat × Nat × Bool :=
  if (Num.take (b.drop at_)).2.2 = 0 ∧ (Num.take (b.drop at_)).1 ≤ most then ((Num.take (b.drop at_)).1, at_ + (Num.take (b.drop at_)).2.1, false) else (0, at_ + (Num.take (b.drop at_)).2.1, true)

theorem number_bad (g n cap at_ : Nat) (A : Option Addr) (z : Int) (w : World) (h : Rd w g A n cap at_ true) :
    Calls Try.prog 90 #[.pointer (some ⟨g, 0, none⟩), .int .u64 z] w fun e w' => e = .returned (.int .u64 0) ∧ w = w' := by
  have h2 := h.bad'
  clear h
  go_enter Try.func90, Try.ntmps90
  go_wp2
  go_ret
  exact ⟨rfl, rfl⟩

set_option maxHeartbeats 2000000 in
theorem number_any (g n cap at_ B most : Nat) (A : Option Addr) (b : List UInt8) (w : World) (h : Rd w g A n cap at_ false) (hl : b.length = n) (hcap : n ≤ cap) (hm : n ≤ 140737488355328) (hat : at_ ≤ n) (hb : Bytes w B A b) (hmost : most < 18446744073709551616) :
    Calls Try.prog 90 #[.pointer (some ⟨g, 0, none⟩), .int .u64 (most : Int)] w fun e w' => e = .returned (.int .u64 ((Pfor.rd most b at_).1 : Int)) ∧
      Rd w' g A n cap (Pfor.rd most b at_).2.1 (Pfor.rd most b at_).2.2 ∧ w.grownBy w' (some g) := by
  have hcut := hb.cut (k := at_) (cap := cap) (by omega) (by omega)
  have HT := fun (w' : World) (hc : Bytes w' B (cutAt A cap at_) (b.drop at_)) => refTake_any (cutAt A cap at_) (n - at_) (cap - at_) B (b.drop at_) w' (by rw [List.length_drop, hl]) (by omega) hc
  unfold RefTakePost at HT
  have hsl := run_cut_from A n cap at_ (n - at_) (by omega)
  obtain ⟨M, hM, hM0, hM1⟩ : ∃ M : Int, M = (most : Int) ∧ 0 ≤ M ∧ M ≤ 18446744073709551615 := ⟨_, rfl, by omega, by omega⟩
  rw [← hM]
  have hc0 := h.b
  have hc1 := h.at'
  have hc2 := h.bad'
  generalize cutAt A cap at_ = A1 at *
  unfold Pfor.rd
  rcases Num.take_cases (b.drop at_) with ⟨v, s, ht⟩ | ⟨e, ht, he⟩
  · obtain ⟨hq1, hq2, hsl2, hv⟩ := Num.num_take ht
    clear hq1 hq2
    rw [List.length_drop, hl] at hsl2
    simp only [ht, true_and] at HT ⊢
    obtain ⟨V, hV, hV0, hV1⟩ : ∃ V : Int, V = (v : Int) ∧ 0 ≤ V ∧ V ≤ 18446744073709551615 := ⟨_, rfl, by omega, by omega⟩
    rw [← hV] at HT
    replace HT := Lib.hid HT
    by_cases hle : v ≤ most
    · rw [if_pos hle]
      have hVM : decide (M < V) = false := decide_eq_false (by omega)
      have HV := Lib.hid hV
      clear hV hM hle hmost ht hb hl hv
      go_enter Try.func90, Try.ntmps90
      go_wp2_with fail
      go_region_held3 (fun w' => w'.cell? ⟨g, 0, none⟩ = some (.slice A n cap) ∧ w'.cell? ⟨g, 1, none⟩ = some (.int .i64 (at_ : Int))) (first | exact ⟨hc0, hc1⟩ | exact ⟨(h.below (below_of_drew hbel)).b, (h.below (below_of_drew hbel)).at'⟩) (first | (go_at_call 39; refine (HT.out _ (by exact hcut)).mono ?_; rintro e w1 ⟨rfl, hbel⟩))
      have hbel1 := below_of_drew hbel
      have hr1 := h.below hbel1
      have d1 := hr1.at'
      have d2 := hr1.bad'
      have d3 := hr1.f1
      have d4 := hr1.f2
      have hr2 := (hr1.setAt (at_ + s)).setBad false
      rw [show ((at_ + s : Nat) : Int) = (at_ : Int) + (s : Int) from by omega] at hr2
      have hgr : w.grownBy ((w1.setCell ⟨g, 1, none⟩ (.int .i64 ((at_ : Int) + (s : Int)))).setCell ⟨g, 2, none⟩ (.bool false)) (some g) := Lib.grownBy_setB (Lib.grownBy_setB (Lib.grownBy_below (World.grownBy.refl w (some g)) hbel1) 1 _) 2 _
      have Hr2 := Lib.hid hr2
      have Hgr := Lib.hid hgr
      clear hr2 hgr hr1 hbel HT h hc0 hc1 hc2 hsl hcut
      go_wp2
      go_ret
      exact ⟨by rw [← HV.out]; rfl, Hr2.out, Hgr.out⟩
    · rw [if_neg hle]
      have hVM : M < V := by omega
      clear hV hM hle hmost ht hb hl hv
      go_enter Try.func90, Try.ntmps90
      go_wp2_with fail
      go_region_held3 (fun w' => w'.cell? ⟨g, 0, none⟩ = some (.slice A n cap) ∧ w'.cell? ⟨g, 1, none⟩ = some (.int .i64 (at_ : Int))) (first | exact ⟨hc0, hc1⟩ | exact ⟨(h.below (below_of_drew hbel)).b, (h.below (below_of_drew hbel)).at'⟩) (first | (go_at_call 39; refine (HT.out _ (by exact hcut)).mono ?_; rintro e w1 ⟨rfl, hbel⟩))
      have hbel1 := below_of_drew hbel
      have hr1 := h.below hbel1
      have d1 := hr1.at'
      have d2 := hr1.bad'
      have d3 := hr1.f1
      have d4 := hr1.f2
      have hr2 := (hr1.setAt (at_ + s)).setBad true
      rw [show ((at_ + s : Nat) : Int) = (at_ : Int) + (s : Int) from by omega] at hr2
      have hgr : w.grownBy ((w1.setCell ⟨g, 1, none⟩ (.int .i64 ((at_ : Int) + (s : Int)))).setCell ⟨g, 2, none⟩ (.bool true)) (some g) := Lib.grownBy_setB (Lib.grownBy_setB (Lib.grownBy_below (World.grownBy.refl w (some g)) hbel1) 1 _) 2 _
      have Hr2 := Lib.hid hr2
      have Hgr := Lib.hid hgr
      clear hr2 hgr hr1 hbel HT h hc0 hc1 hc2 hsl hcut
      go_wp2
      go_ret
      exact ⟨rfl, Hr2.out, Hgr.out⟩
  · simp only [ht] at HT ⊢
    have he' : ¬ ((e : Int) = 0) := by omega
    rw [if_neg (by omega)]
    replace HT := Lib.hid HT
    clear hM hmost ht hb hl he
    go_enter Try.func90, Try.ntmps90
    go_wp2_with fail
    go_region_held3 (fun w' => w'.cell? ⟨g, 0, none⟩ = some (.slice A n cap) ∧ w'.cell? ⟨g, 1, none⟩ = some (.int .i64 (at_ : Int))) (first | exact ⟨hc0, hc1⟩ | exact ⟨(h.below (below_of_drew hbel)).b, (h.below (below_of_drew hbel)).at'⟩) (first | (go_at_call 39; refine (HT.out _ (by exact hcut)).mono ?_; rintro e w1 ⟨rfl, hbel⟩))
    have hbel1 := below_of_drew hbel
    have hr1 := h.below hbel1
    have d1 := hr1.at'
    have d2 := hr1.bad'
    have d3 := hr1.f1
    have d4 := hr1.f2
    have hr2 := (hr1.setAt (at_ + 0)).setBad true
    rw [show ((at_ + 0 : Nat) : Int) = (at_ : Int) + ((0 : Nat) : Int) from by omega] at hr2
    have hgr : w.grownBy ((w1.setCell ⟨g, 1, none⟩ (.int .i64 ((at_ : Int) + ((0 : Nat) : Int)))).setCell ⟨g, 2, none⟩ (.bool true)) (some g) := Lib.grownBy_setB (Lib.grownBy_setB (Lib.grownBy_below (World.grownBy.refl w (some g)) hbel1) 1 _) 2 _
    have Hr2 := Lib.hid hr2
    have Hgr := Lib.hid hgr
    clear hr2 hgr hr1 hbel HT h hc0 hc1 hc2 hsl hcut
    go_wp2
    go_ret
    exact ⟨rfl, Hr2.out, Hgr.out⟩

theorem count_bad (g n cap at_ : Nat) (A : Option Addr) (most : Nat) (w : World) (hmost : most ≤ 64) (h : Rd w g A n cap at_ true) :
    Calls Try.prog 89 #[.pointer (some ⟨g, 0, none⟩), .int .i64 (most : Int)] w fun e w' => e = .returned (.int .i64 0) ∧ w = w' := by
  have H := Lib.hid (number_bad g n cap at_ A (most : Int) w h)
  clear h
  go_enter Try.func89, Try.ntmps89
  go_wp2_with fail
  refine H.out.mono ?_
  rintro e w1 ⟨rfl, rfl⟩
  clear H
  go_wp2
  go_ret
  exact ⟨rfl, rfl⟩

theorem Pfor.rd_le (most : Nat) (b : List UInt8) (at_ : Nat) : (Pfor.rd most b at_).1 ≤ most := by
  unfold Pfor.rd
  split
  · rename_i h; exact h.2
  · exact Nat.zero_le _

theorem count_any (g n cap at_ B most : Nat) (A : Option Addr) (b : List UInt8) (w : World) (h : Rd w g A n cap at_ false) (hl : b.length = n) (hcap : n ≤ cap) (hm : n ≤ 140737488355328) (hat : at_ ≤ n) (hb : Bytes w B A b) (hmost : most ≤ 64) :
    Calls Try.prog 89 #[.pointer (some ⟨g, 0, none⟩), .int .i64 (most : Int)] w fun e w' => e = .returned (.int .i64 ((Pfor.rd most b at_).1 : Int)) ∧
      Rd w' g A n cap (Pfor.rd most b at_).2.1 (Pfor.rd most b at_).2.2 ∧ w.grownBy w' (some g) := by
  have H := Lib.hid (number_any g n cap at_ B most A b w h hl hcap hm hat hb (by omega))
  have hle := Pfor.rd_le most b at_
  generalize Pfor.rd most b at_ = R at *
  clear h hl hb
  go_enter Try.func89, Try.ntmps89
  go_wp2_with fail
  refine H.out.mono ?_
  rintro e w1 ⟨rfl, hr, hg⟩
  clear H
  go_wp2
  go_ret
  exact ⟨rfl, hr, hg⟩
end Go.Proofs.Ytgjopffdgdimlaa

/- bytes.Equal, bytes.HasPrefix; pfor.addHighBits. -/
namespace Go.Proofs.Ytgjopffdgdimlaa
open Go.RowKit
set_option maxRecDepth 100000

theorem bytesEqual_any (A1 A2 : Option Addr) (n1 n2 c1 c2 B1 B2 : Nat) (l1 l2 : List UInt8) (w : World) (hl1 : l1.length = n1) (hl2 : l2.length = n2) (hb1 : Bytes w B1 A1 l1) (hb2 : Bytes w B2 A2 l2) :
    Calls Try.prog 95 #[.slice A1 n1 c1, .slice A2 n2 c2] w fun e w' => e = .returned (.bool (l1 == l2)) ∧ w = w' := by
  have h1 := run_string_of hb1 c1
  have h2 := run_string_of hb2 c2
  rw [hl1] at h1
  rw [hl2] at h2
  clear hl1 hl2 hb1 hb2
  go_enter Try.func95, Try.ntmps95
  go_wp2
  go_ret
  exact ⟨rfl, rfl⟩

/-- what HasPrefix answers -/
def PrefixPost (w : World) (l1 l2 : List UInt8) (e : Ending) (w' : World) : Prop := ∃ r : Bool, e = .returned (.bool r) ∧ (r = true ↔ l2 <+: l1) ∧ w = w'

theorem hasPrefix_any (A1 A2 : Option Addr) (n1 n2 c1 c2 B1 B2 : Nat) (l1 l2 : List UInt8) (w : World) (hl1 : l1.length = n1) (hl2 : l2.length = n2) (hc : n1 ≤ c1) (hb1 : Bytes w B1 A1 l1) (hb2 : Bytes w B2 A2 l2) :
    Calls Try.prog 88 #[.slice A1 n1 c1, .slice A2 n2 c2] w (PrefixPost w l1 l2) := by
  by_cases h : n2 ≤ n1
  · have hsl := run_cut_h A1 n1 c1 n2 (by omega)
    have H := bytesEqual_any A1 A2 n2 n2 c1 c2 B1 B2 (l1.take n2) l2 w (by simp; omega) hl2 (hb1.take n2) hb2
    have hiff : (l1.take n2 == l2) = true ↔ l2 <+: l1 := by
      rw [beq_iff_eq, List.prefix_iff_eq_take, hl2]
      exact eq_comm
    generalize (l1.take n2 == l2) = r at *
    have Hiff := Lib.hid hiff
    replace H := Lib.hid H
    have hd : (n2 : Int) ≤ (n1 : Int) := by omega
    clear hl1 hl2 hb1 hb2 hiff
    go_enter Try.func88, Try.ntmps88
    go_wp2_with fail
    refine H.out.mono ?_
    rintro e w1 ⟨rfl, rfl⟩
    clear H hsl
    go_wp2
    go_ret
    exact ⟨r, rfl, Hiff.out, rfl⟩
  · have hnot : ¬ l2 <+: l1 := fun hp => by have := hp.length_le; omega
    have Hnot := Lib.hid hnot
    have hd : ¬ ((n2 : Int) ≤ (n1 : Int)) := by omega
    clear hl1 hl2 hb1 hb2 hnot h
    go_enter Try.func88, Try.ntmps88
    go_wp2
    go_ret
    exact ⟨false, rfl, ⟨(fun h => by cases h), (fun h => absurd h Hnot.out)⟩, rfl⟩

theorem wrap_shl (y v : Nat) : IntKind.u64.wrap ((y : Int) * 2 ^ v) = ((y * 2 ^ v % 18446744073709551616 : Nat) : Int) := by
  have e : IntKind.u64.wrap ((y * 2 ^ v : Nat) : Int) = ((y * 2 ^ v : Nat) : Int) % 18446744073709551616 := by simp [IntKind.wrap, IntKind.bits, IntKind.signed]
  have h : (y : Int) * 2 ^ v = ((y * 2 ^ v : Nat) : Int) := by rw [Int.natCast_mul, Int.natCast_pow]; rfl
  rw [h, e, Int.natCast_emod]
  rfl
theorem or_over {d y v : Nat} {x z : Int} (hx : x = (d : Int)) (hz : z = (y : Int)) (hd : d < 18446744073709551616) : bits .or .u64 x (IntKind.u64.wrap (z * 2 ^ v)) = ((Pfor.over v d y : Nat) : Int) := by
  have h2 : y * 2 ^ v % 18446744073709551616 < 18446744073709551616 := Nat.mod_lt _ (by omega)
  rw [hz, wrap_shl, hx, u64_or_nat _ _ hd h2]
  rfl
theorem over_lt {d y v : Nat} (hd : d < 18446744073709551616) : Pfor.over v d y < 18446744073709551616 := by
  have h2 : y * 2 ^ v % 18446744073709551616 < 18446744073709551616 := Nat.mod_lt _ (by omega)
  exact Nat.or_lt_two_pow (n := 64) hd h2

set_option maxHeartbeats 2000000 in
theorem addHighBits_any (g n c base v m cap k : Nat) (A : Option Addr) (ds : List UInt64) (b : List UInt8) (w : World) (hown : NOwn w base (some ⟨g, 0, none⟩) n c ds) (_hn : n ≤ 4096) (hv : v ≤ 64) (hk : k ≤ 255)
    (hl : b.length = m) (hcap : m ≤ cap) (hm : m ≤ 281474976710656) (hb : Bytes w base A b) :
    Calls Try.prog 94 #[.slice (some ⟨g, 0, none⟩) n c, .int .i64 (v : Int), .slice A m cap, .int .i64 (k : Int)] w fun e w' =>
      (∃ ds', Pfor.addHigh v k ds b = some ds' ∧ e = .returned (.bool true) ∧ NOwn w' base (some ⟨g, 0, none⟩) n c ds' ∧ Below base w w') ∨ (Pfor.addHigh v k ds b = none ∧ e = .returned (.bool false) ∧ Below base w w') := by
  generalize hR : Pfor.addHigh v k ds b = R
  go_enter Try.func94, Try.ntmps94
  go_wp2
  go_loopw [2, 13] (fun s i wr => ∃ (j m' cap' : Nat) (A' : Option Addr) (ds' : List UInt64) (b' : List UInt8), j ≤ k ∧ i = .int .i64 j ∧ s = .slice A' m' cap' ∧ b'.length = m' ∧ m' ≤ cap' ∧ m' ≤ 281474976710656 ∧
    Pfor.addHigh v (k - j) ds' b' = R ∧ NOwn wr base (some ⟨g, 0, none⟩) n c ds' ∧ Bytes wr base A' b' ∧ Below base w wr) (fun _ i _ => k - (intOf i).toNat)
  case atStart => exact ⟨0, m, cap, A, ds, b, by omega, rfl, rfl, hl, hcap, hm, hR, hown, hb, Below.refl _ _⟩
  case round =>
    clear hown hl hcap hm hb hR
    obtain ⟨j, m, cap, A, ds, b, hj, rfl, rfl, hl, hcap, hm, hR, hown, hb, hbr⟩ := hrel
    have hdl := hown.len
    have hgb := hown.block.1
    by_cases hlt : j < k
    · obtain ⟨i, hi⟩ : ∃ i, k - j = i + 1 := ⟨k - j - 1, by omega⟩
      rw [hi] at hR
      rcases b with _ | ⟨p, r⟩
      · rw [Pfor.addHigh] at hR
        have HR := Lib.hid hR
        obtain rfl : 0 = m := by simpa using hl
        clear hR hi hb hown
        go_wp2
        go_ret
        exact .inr ⟨HR.out.symm, rfl, hbr⟩
      · obtain ⟨ad, rfl, hlt', hcell⟩ := hb.get (k := 0) (by simp)
        simp only [List.getElem_cons_zero, Addr.add, if_true] at hcell
        have hl' : r.length + 1 = m := by simpa using hl
        have hp256 := Num.byte_lt p
        rw [Pfor.addHigh] at hR
        by_cases hp : p.toNat < ds.length
        · rw [if_pos hp] at hR
          have hcut := hb.cut (k := 1) (cap := cap) (by simp) (by omega)
          rw [List.drop_succ_cons, List.drop_zero] at hcut
          have hsl := run_cut_from (some ad) m cap 1 r.length (by omega)
          rw [Int.natCast_one] at hsl
          have HT := take_any (cutAt (some ad) cap 1) r.length (cap - 1) base r wr rfl (by omega) (by omega) hcut
          unfold TakePost at HT
          have hpn : p.toNat < n := by omega
          have hm0 : ¬ ((m : Int) = 0) := by omega
          rcases Num.take_cases r with ⟨y, s, ht⟩ | ⟨e, ht, he⟩
          · obtain ⟨hnum, hss, hsl2, hy⟩ := Num.num_take ht
            have hslb := run_cut_from (some ad) m cap (1 + s) (r.drop s).length (by rw [List.length_drop]; omega)
            rw [show ((1 + s : Nat) : Int) = 1 + (s : Int) from by omega] at hslb
            have hcut2 := hb.cut (k := 1 + s) (cap := cap) (by simp; omega) (by omega)
            rw [Nat.add_comm 1 s, List.drop_succ_cons, Nat.add_comm s 1] at hcut2
            simp only [ht, if_true] at hR HT
            have hcd := hown.cell hp
            simp only [uval] at hcd
            have hfree := hown.free p.toNat
            have hgd : (ds.getD p.toNat 0).toNat = ds[p.toNat].toNat := by simp [List.getD_eq_getElem?_getD, List.getElem?_eq_getElem hp]
            have hd64 := Bits.u64_lt ds[p.toNat]
            rw [hgd] at hR
            generalize ds[p.toNat].toNat = dn at *
            have hst := hown.store p.toNat (UInt64.ofNat (Pfor.over v dn y))
            have hu := uval_small (over_lt (y := y) (v := v) hd64)
            rw [hu] at hst
            obtain ⟨x, hx⟩ : ∃ x : Int, x = (dn : Int) := ⟨_, rfl⟩
            obtain ⟨z, hz, hz0, hz1⟩ : ∃ z : Int, z = (y : Int) ∧ 0 ≤ z ∧ z ≤ 18446744073709551615 := ⟨y, rfl, by omega, by omega⟩
            have hor := or_over (v := v) hx hz hd64
            rw [← hor] at hst
            rw [← hx] at hcd
            rw [← hz] at HT
            have Hst := Lib.hid hst
            have HR := Lib.hid hR
            have Hbl := Lib.hid (hbr.setCell (p := ⟨g, p.toNat, none⟩) hgb (.int .u64 (bits .or .u64 x (IntKind.u64.wrap (z * 2 ^ v)))))
            have Hcut2 := Lib.hid (hcut2.keep (w' := wr.setCell ⟨g, p.toNat, none⟩ (.int .u64 (bits .or .u64 x (IntKind.u64.wrap (z * 2 ^ v))))) (fun q hq => by
              have := ((Below.refl base wr).setCell (p := ⟨g, p.toNat, none⟩) hgb (.int .u64 (bits .or .u64 x (IntKind.u64.wrap (z * 2 ^ v))))).cell hq
              exact this))
            have Hlen2 : (r.drop s).length ≤ 281474976710656 := by rw [List.length_drop]; omega
            have Hcap2 : (r.drop s).length ≤ cap - (1 + s) := by rw [List.length_drop]; omega
            have hi1 : ¬ ((n : Int) ≤ (p.toNat : Int)) := by omega
            replace HT := Lib.hid HT
            have hs1m : 1 + s ≤ m := by omega
            clear hst hR hcut hcut2 hor hx hz hu hgd hown hb hl hss hnum ht hy
            generalize hrd : (r.drop s).length = m2 at *
            have Hrd := Lib.hid hrd; clear hrd hl' hsl2 hp hd64
            generalize cutAt (some ad) cap (1 + s) = A2 at *
            generalize cutAt (some ad) cap 1 = A1 at *
            generalize p.toNat = P at *
            go_wp2_with fail
            refine HT.out.mono ?_
            rintro e w1 ⟨rfl, rfl⟩
            clear HT
            go_wp2_with fail
            go_region
            go_wp2
            go_roundw
            case rel => exact ⟨j + 1, m2, cap - (1 + s), A2, _, _, by omega, by go_num, rfl, Hrd.out, Hcap2, Hlen2, by rw [show k - (j + 1) = i from by omega]; exact HR.out, Hst.out, Hcut2.out, Hbl.out.drew⟩
            case measure => simp [intOf]; omega
          · have he' : ¬ ((e : Int) = 0) := by omega
            simp only [ht] at hR HT
            rw [if_neg (by omega)] at hR
            have HR := Lib.hid hR
            replace HT := Lib.hid HT
            have hi1 : ¬ ((n : Int) ≤ (p.toNat : Int)) := by omega
            clear hR hcut hown hb hl ht he hl' hp
            generalize cutAt (some ad) cap 1 = A1 at *
            generalize p.toNat = P at *
            generalize r.length = rl at *
            go_wp2_with fail
            refine HT.out.mono ?_
            rintro e' w1 ⟨rfl, rfl⟩
            clear HT
            go_wp2
            go_ret
            exact .inr ⟨HR.out.symm, rfl, hbr⟩
        · rw [if_neg hp] at hR
          have HR := Lib.hid hR
          have hi1 : (n : Int) ≤ (p.toNat : Int) := by omega
          have hm0 : ¬ ((m : Int) = 0) := by omega
          have hmp : 0 < m := by omega
          clear hR hown hb hl hl' hp
          generalize p.toNat = P at *
          go_wp2
          go_ret
          exact .inr ⟨HR.out.symm, rfl, hbr⟩
    · obtain rfl : j = k := by omega
      rw [Nat.sub_self, Pfor.addHigh] at hR
      have HR := Lib.hid hR
      clear hR
      go_wp2
      go_ret
      exact .inl ⟨ds, HR.out.symm, rfl, hown, hbr⟩
end Go.Proofs.Ytgjopffdgdimlaa

/- pfor.readBlock. -/
namespace Go.Proofs.Ytgjopffdgdimlaa
open Go.RowKit
set_option maxRecDepth 100000

/-- what readBlock answers -/
def ReadPost (w : World) (R : Option (List UInt64)) (e : Ending) (w' : World) : Prop :=
  (∃ L A c, R = some L ∧ e = .returned (.tuple #[.slice A L.length c, .bool true]) ∧ 1 ≤ L.length ∧ L.length ≤ 32 ∧ NOwn w' w.heap.size A L.length c L ∧ Below w.heap.size w w') ∨
    (R = none ∧ e = .returned (.tuple #[.slice none 0 0, .bool false]) ∧ Below w.heap.size w w')

theorem Bits.unpack_le64 {b : List UInt8} {n w : Int} {l : List UInt64} (h : Bits.unpack b n w = (l, 0)) : w ≤ 64 ∧ l.length = n.toNat := by
  have h2 := Bits.pack_unpack h
  unfold Bits.unpack at h
  split at h
  · cases h
  · rename_i h3
    refine ⟨by omega, by omega⟩

theorem plus_get {b : Nat} {l : List UInt64} {k : Nat} (hk : k < l.length) : (Pfor.plus b l)[k]'(by rw [Pfor.plus_length]; exact hk) = UInt64.ofNat (l[k].toNat + b) := by simp [Pfor.plus]
/-- what a slice holds when k of its cells are turned -/
theorem turn_set {α : Type} {l m : List α} {n k : Nat} (hl : l.length = n) (hm : m.length = n) (hk : k < n) : (m.take k ++ l.drop k).set k (m[k]'(by omega)) = m.take (k + 1) ++ l.drop (k + 1) := by
  have hlk : (m.take k).length = k := by simp; omega
  rw [List.set_append_right _ _ (by omega), hlk, Nat.sub_self, List.drop_eq_getElem_cons (by omega), List.set_cons_zero, List.take_succ_eq_append_getElem (by omega), List.append_assoc]
  rfl
theorem turn_get {α : Type} {l m : List α} {n k : Nat} (hl : l.length = n) (hm : m.length = n) (hk : k < n) : ∃ h : k < (m.take k ++ l.drop k).length, (m.take k ++ l.drop k)[k] = l[k]'(by omega) := by
  have hlk : (m.take k).length = k := by simp; omega
  refine ⟨by simp; omega, ?_⟩
  rw [List.getElem_append_right (by omega)]
  simp [hlk]
theorem wrap_add {d b : Nat} {x y : Int} (hx : x = (d : Int)) (hy : y = (b : Int)) : uval (UInt64.ofNat (d + b)) = .int .u64 (IntKind.u64.wrap (x + y)) := by
  have e : IntKind.u64.wrap ((d + b : Nat) : Int) = ((d + b : Nat) : Int) % 18446744073709551616 := by simp [IntKind.wrap, IntKind.bits, IntKind.signed]
  unfold uval
  rw [hx, hy, ← Int.natCast_add, e, UInt64.toNat_ofNat']
  congr 1

theorem read_cons (c : UInt8) (r : List UInt8) : Pfor.read (c :: r) = if 1 ≤ c.toNat ∧ c.toNat ≤ 32 then
      (if (Num.take r).2.2 = 0 then
        (match r.drop (Num.take r).2.1 with
          | v :: x :: t => if Bits.size c.toNat v.toNat ≤ t.length then
              (if (Bits.unpack (t.take (Bits.size c.toNat v.toNat)) c.toNat v.toNat).2 = 0 then
                (Pfor.addHigh v.toNat x.toNat (Bits.unpack (t.take (Bits.size c.toNat v.toNat)) c.toNat v.toNat).1 (t.drop (Bits.size c.toNat v.toNat))).map (Pfor.plus (Num.take r).1)
              else none)
            else none
          | _ => none)
      else none)
    else none := rfl

set_option maxHeartbeats 4000000 in
theorem readBlock_any (A : Option Addr) (n cap B : Nat) (b : List UInt8) (w : World) (hl : b.length = n) (hcap : n ≤ cap) (hm : n ≤ 281474976710656) (hb : Bytes w B A b) (hB : B ≤ w.heap.size) :
    Calls Try.prog 87 #[.slice A n cap] w (ReadPost w (Pfor.read b)) := by
  have hb := hb.wide hB
  rcases b with _ | ⟨c, r⟩
  · obtain rfl : 0 = n := by simpa using hl
    go_enter Try.func87, Try.ntmps87
    go_wp2
    go_ret2
    exact .inr ⟨rfl, rfl, Below.refl _ _⟩
  obtain ⟨ad, rfl, hlt', hcell⟩ := hb.get (k := 0) (by simp)
  simp only [List.getElem_cons_zero, Addr.add, if_true] at hcell
  have hl' : r.length + 1 = n := by simpa using hl
  have hc256 := Num.byte_lt c
  have H0 := isBlockLength_any (c.toNat : Int) w
  have hn0 : ¬ ((n : Int) = 0) := by omega
  have hn1 : 0 < n := by omega
  rw [read_cons]
  by_cases hc : 1 ≤ c.toNat ∧ c.toNat ≤ 32
  · rw [if_pos hc]
    rw [decide_eq_true (show 1 ≤ (c.toNat : Int) ∧ (c.toNat : Int) ≤ 32 by omega)] at H0
    replace H0 := Lib.hid H0
    have hcut := hb.cut (k := 1) (cap := cap) (by simp) (by omega)
    rw [List.drop_succ_cons, List.drop_zero] at hcut
    have hsl := run_cut_from (some ad) n cap 1 r.length (by omega)
    rw [Int.natCast_one] at hsl
    have HT := take_any (cutAt (some ad) cap 1) r.length (cap - 1) w.heap.size r w rfl (by omega) (by omega) hcut
    unfold TakePost at HT
    obtain ⟨p, hp⟩ : ∃ p, p = c.toNat := ⟨_, rfl⟩
    rw [← hp] at hcell H0 hc hc256 ⊢
    have Hp := Lib.hid hp; clear hp
    obtain ⟨hp1, hp32⟩ := hc
    have hcutAll : ∀ s, 1 + s ≤ n → Bytes w w.heap.size (cutAt (some ad) cap (1 + s)) (r.drop s) := fun s hs => by
      have h := hb.cut (k := 1 + s) (cap := cap) (by rw [hl]; exact hs) (by omega)
      rw [Nat.add_comm 1 s, List.drop_succ_cons, Nat.add_comm s 1] at h
      exact h
    rcases Num.take_cases r with ⟨y, s, ht⟩ | ⟨e, ht, he⟩
    · obtain ⟨hnum, hss, hsl2, hy⟩ := Num.num_take ht
      simp only [ht, if_true] at HT ⊢
      obtain ⟨z, hz, hz0, hz1⟩ : ∃ z : Int, z = (y : Int) ∧ 0 ≤ z ∧ z ≤ 18446744073709551615 := ⟨y, rfl, by omega, by omega⟩
      rw [← hz] at HT
      have Hz := Lib.hid hz; clear hz
      replace HT := Lib.hid HT
      have hs9 : s ≤ 9 := by rw [hss]; exact Num.size_le9 hy
      have Hy := Lib.hid hy
      clear hcut hnum hss ht hy
      generalize cutAt (some ad) cap 1 = A1 at *
      rcases hrd : r.drop s with _ | ⟨v, _ | ⟨x, t⟩⟩
      · have hlen : r.length - s = 0 := by rw [← List.length_drop, hrd]; rfl
        have hshort : (n : Int) < 1 + (s : Int) + 2 := by omega
        clear hb hl hl' hsl2 hcutAll
        generalize r.length = rl at *
        go_enter Try.func87, Try.ntmps87
        go_wp2_with fail
        refine H0.out.mono ?_
        rintro e w1 ⟨rfl, rfl⟩
        clear H0
        go_wp2_with fail
        refine HT.out.mono ?_
        rintro e w1 ⟨rfl, rfl⟩
        clear HT
        go_wp2
        go_ret2
        exact .inr ⟨rfl, rfl, Below.refl _ _⟩
      · have hlen : r.length - s = 1 := by rw [← List.length_drop, hrd]; rfl
        have hshort : (n : Int) < 1 + (s : Int) + 2 := by omega
        clear hb hl hl' hsl2 hcutAll
        generalize r.length = rl at *
        go_enter Try.func87, Try.ntmps87
        go_wp2_with fail
        refine H0.out.mono ?_
        rintro e w1 ⟨rfl, rfl⟩
        clear H0
        go_wp2_with fail
        refine HT.out.mono ?_
        rintro e w1 ⟨rfl, rfl⟩
        clear HT
        go_wp2
        go_ret2
        exact .inr ⟨rfl, rfl, Below.refl _ _⟩
      · have hlen : r.length - s = t.length + 2 := by rw [← List.length_drop, hrd]; rfl
        have hlong : ¬ ((n : Int) < 1 + (s : Int) + 2) := by omega
        have hslb := run_cut_from (some ad) n cap (1 + s) (t.length + 2) (by omega)
        rw [show ((1 + s : Nat) : Int) = 1 + (s : Int) from by omega] at hslb
        have hb1 := hcutAll s (by omega)
        rw [hrd] at hb1
        obtain ⟨ad1, hA1, _, hc0⟩ := hb1.get (k := 0) (by simp)
        obtain ⟨ad1', hA1', _, hc1⟩ := hb1.get (k := 1) (by simp)
        rw [hA1] at hA1' hslb hb1
        cases hA1'
        simp only [List.getElem_cons_zero, List.getElem_cons_succ, Addr.add, if_true, Nat.one_ne_zero, if_false] at hc0 hc1
        have hb2 := hb1.cut (k := 2) (cap := cap - (1 + s)) (by simp) (by simp; omega)
        rw [List.drop_succ_cons, List.drop_succ_cons, List.drop_zero] at hb2
        have hslc := run_cut_from (some ad1) (t.length + 2) (cap - (1 + s)) 2 t.length (by omega)
        rw [show ((2 : Nat) : Int) = 2 from rfl] at hslc
        have hv256 := Num.byte_lt v
        have hx256 := Num.byte_lt x
        have htcap : t.length ≤ cap - (1 + s) - 2 := by omega
        have htm : t.length ≤ 281474976710656 := by omega
        have hrl : r.length - s = t.length + 2 := hlen
        clear hb hl hcutAll hrd hA1 hb1 hlen
        simp only
        generalize cap - (1 + s) = capb at *
        generalize cutAt (some ad1) capb 2 = A2 at *
        generalize hvv : v.toNat = V at *
        generalize hxx : x.toNat = X at *
        clear hvv hxx
        have hpv : p * V ≤ 32 * 256 := Nat.mul_le_mul hp32 (by omega)
        have HS := Lib.hid (fun w' => ppackedSize_any p V w' (by omega))
        have hS : Bits.size p V ≤ 1100 := by unfold Bits.size; omega
        by_cases hfit : Bits.size p V ≤ t.length
        · rw [if_pos hfit]
          have hslt := run_cut_h A2 t.length (capb - 2) (Bits.size p V) (by omega)
          have htl : (t.take (Bits.size p V)).length = Bits.size p V := by simp; omega
          have HU := fun (w' : World) (hb2 : Bytes w' w'.heap.size A2 t) => unpack_any A2 (Bits.size p V) (capb - 2) _ (p : Int) (V : Int) (t.take (Bits.size p V)) w' htl (hb2.take _) (Nat.le_refl _) (by omega)
          have hsld := run_cut_from A2 t.length (capb - 2) (Bits.size p V) (t.length - Bits.size p V) (by omega)
          have hb3 := hb2.cut (k := Bits.size p V) (cap := capb - 2) hfit htcap
          have hdl : (t.drop (Bits.size p V)).length = t.length - Bits.size p V := List.length_drop
          have hcapd : t.length - Bits.size p V ≤ capb - 2 - Bits.size p V := by omega
          unfold UnpackPost at HU
          rcases Bits.unpack_cases (t.take (Bits.size p V)) (p : Int) (V : Int) with ⟨L0, hu⟩ | ⟨e, hu, he⟩
          · obtain ⟨hV64', hL0⟩ := Bits.unpack_le64 hu
            rw [hu] at HU ⊢
            rw [Int.toNat_natCast] at hL0
            have hV64 : V ≤ 64 := by omega
            simp only [if_true, hL0] at HU ⊢
            have HA := Lib.hid (fun (g3 c3 : Nat) (w1 : World) (ho : NOwn w1 w.heap.size (some ⟨g3, 0, none⟩) p c3 L0) (hbb : Bytes w1 w.heap.size (cutAt A2 (capb - 2) (Bits.size p V)) (t.drop (Bits.size p V))) =>
              addHighBits_any g3 p c3 w.heap.size V (t.length - Bits.size p V) (capb - 2 - Bits.size p V) X (cutAt A2 (capb - 2) (Bits.size p V)) L0 (t.drop (Bits.size p V)) w1 ho (by omega) hV64 (by omega) hdl hcapd (by omega) hbb)
            replace HU := Lib.hid HU
            have Hb2 := Lib.hid hb2
            have Hb3 := Lib.hid hb3
            clear hu hb2 hb3 htl hdl hpv hl' hsl2 hrl hV64' hL0
            generalize cutAt A2 (capb - 2) (Bits.size p V) = A3 at *
            generalize t.drop (Bits.size p V) = td at *
            generalize r.length = rl at *
            generalize t.length = tl at *
            generalize Bits.size p V = S at *
            go_enter Try.func87, Try.ntmps87
            go_wp2_with fail
            refine H0.out.mono ?_
            rintro e w1 ⟨rfl, rfl⟩
            clear H0
            go_wp2_with fail
            refine HT.out.mono ?_
            rintro e w1 ⟨rfl, rfl⟩
            clear HT
            go_wp2_with fail
            go_quiet (fail)
            obtain ⟨wq, hwq, hsq, hb2q, hb3q, hbq⟩ : ∃ wq, wq = w.drewN nq ∧ wq.heap.size = w.heap.size ∧ Bytes wq wq.heap.size A2 t ∧ Bytes wq w.heap.size A3 td ∧ Below w.heap.size w wq := ⟨_, rfl, rfl, Hb2.out, Hb3.out, below_drewN (Below.refl _ w) nq⟩
            rw [← hwq]
            clear hwq Hb2 Hb3 hcell hc0 hc1 hsl hslb
            have HUq := Lib.hid (HU.out wq hb2q)
            rw [hsq] at HUq
            clear HU
            go_wp2_with fail
            refine (HS.out _).mono ?_
            rintro e w1 ⟨rfl, rfl⟩
            clear HS
            go_wp2_with fail
            refine HUq.out.mono ?_
            rintro e w1 ⟨A4, c4, rfl, ho4, hb4⟩
            clear HUq
            obtain ⟨g4, rfl, _⟩ := ho4.at_ (by omega)
            have hb4' := hbq.trans hb4
            have HA1 := Lib.hid (HA.out g4 c4 w1 ho4 (hb3q.below hb4))
            clear HA hb3q
            go_wp2_with fail
            refine HA1.out.mono ?_
            clear HA1 ho4
            rintro e w2 (⟨ds, hds, rfl, ho5, hb5⟩ | ⟨hds, rfl, hb5⟩)
            · have hdl := ho5.len
              have hpl : (Pfor.plus y ds).length = p := by rw [Pfor.plus_length, hdl]
              have Hds := Lib.hid hds
              have Hdl := Lib.hid hdl
              have Hpl := Lib.hid hpl
              have hb6 := hb4'.trans hb5
              have hg4 := ho5.block.1
              clear hdl hpl hds hb5 hb4 hb4' hbq hsld hslc hslt
              go_wp2
              go_loopw [89] (fun i wr => ∃ (k : Nat), k ≤ p ∧ i = .int .i64 k ∧ NOwn wr w.heap.size (some ⟨g4, 0, none⟩) p c4 ((Pfor.plus y ds).take k ++ ds.drop k) ∧ Below w.heap.size w wr) (fun i _ => p - (intOf i).toNat)
              case atStart => exact ⟨0, by omega, rfl, by simpa using ho5, hb6⟩
              case round =>
                clear ho5 hb6
                obtain ⟨k, hk, rfl, ho, hbel⟩ := hrel
                by_cases hlt : k < p
                · have hk' : k < ds.length := by have := Hdl.out; omega
                  obtain ⟨hg1, hg2⟩ := turn_get Hdl.out Hpl.out hlt
                  have hold := ho.cell hg1
                  rw [hg2] at hold
                  simp only [uval] at hold
                  have hfree := ho.free k
                  have hst := ho.store k ((Pfor.plus y ds)[k]'(by rw [Hpl.out]; exact hlt))
                  rw [turn_set Hdl.out Hpl.out hlt, plus_get hk'] at hst
                  obtain ⟨q, hq, hq0, hq1⟩ : ∃ q : Int, q = (ds[k].toNat : Int) ∧ 0 ≤ q ∧ q ≤ 18446744073709551615 := ⟨_, rfl, by omega, by have := Bits.u64_lt ds[k]; omega⟩
                  rw [wrap_add hq Hz.out] at hst
                  rw [← hq] at hold
                  have Hst := Lib.hid hst
                  have Hbl := Lib.hid (hbel.setCell (p := ⟨g4, k, none⟩) hg4 (.int .u64 (IntKind.u64.wrap (q + z))))
                  clear hst hq hg1 hg2 ho
                  go_wp2
                  go_roundw
                  case rel => exact ⟨k + 1, by omega, by go_num, Hst.out, Hbl.out⟩
                  case measure => simp [intOf]; omega
                · obtain rfl : k = p := by omega
                  rw [List.take_of_length_le (by rw [Hpl.out]; exact Nat.le_refl _), List.drop_of_length_le (by rw [Hdl.out]; exact Nat.le_refl _), List.append_nil] at ho
                  go_wp2
                  go_ret2
                  refine .inl ⟨Pfor.plus y ds, some ⟨g4, 0, none⟩, c4, by rw [Hds.out]; rfl, ?_⟩
                  rw [Hpl.out]
                  exact ⟨rfl, hp1, hp32, ho, hbel⟩
            · have Hds := Lib.hid hds
              clear hds hsld hslc hslt
              go_wp2
              go_ret2
              exact .inr ⟨by rw [Hds.out]; rfl, rfl, hb4'.trans hb5⟩
          · rw [hu] at HU ⊢
            simp only [if_neg he, List.length_nil] at HU ⊢
            have he' : ¬ ((e : Int) = 0) := by omega
            replace HU := Lib.hid HU
            have Hb2 := Lib.hid hb2
            clear hu hb2 hb3 htl hdl hpv hl' hsl2 hrl he hsld
            generalize r.length = rl at *
            generalize t.length = tl at *
            generalize Bits.size p V = S at *
            go_enter Try.func87, Try.ntmps87
            go_wp2_with fail
            refine H0.out.mono ?_
            rintro e w1 ⟨rfl, rfl⟩
            clear H0
            go_wp2_with fail
            refine HT.out.mono ?_
            rintro e w1 ⟨rfl, rfl⟩
            clear HT
            go_wp2_with fail
            go_quiet (fail)
            obtain ⟨wq, hwq, hsq, hb2q, hbq⟩ : ∃ wq, wq = w.drewN nq ∧ wq.heap.size = w.heap.size ∧ Bytes wq wq.heap.size A2 t ∧ Below w.heap.size w wq := ⟨_, rfl, rfl, Hb2.out, below_drewN (Below.refl _ w) nq⟩
            rw [← hwq]
            clear hwq Hb2 hcell hc0 hc1 hsl hslb
            have HUq := Lib.hid (HU.out wq hb2q)
            rw [hsq] at HUq
            clear HU
            go_wp2_with fail
            refine (HS.out _).mono ?_
            rintro e w1 ⟨rfl, rfl⟩
            clear HS
            go_wp2_with fail
            refine HUq.out.mono ?_
            rintro e w1 ⟨A4, c4, rfl, ho4, hb4⟩
            clear HUq
            go_wp2
            go_ret2
            exact .inr ⟨rfl, rfl, hbq.trans hb4⟩
        · rw [if_neg hfit]
          have hshort : (t.length : Int) < (Bits.size p V : Int) := by omega
          clear hb2 hpv hl' hsl2 hrl hfit
          generalize r.length = rl at *
          generalize t.length = tl at *
          generalize Bits.size p V = S at *
          go_enter Try.func87, Try.ntmps87
          go_wp2_with fail
          refine H0.out.mono ?_
          rintro e w1 ⟨rfl, rfl⟩
          clear H0
          go_wp2_with fail
          refine HT.out.mono ?_
          rintro e w1 ⟨rfl, rfl⟩
          clear HT
          go_wp2_with fail
          go_quiet (fail)
          go_wp2_with fail
          refine (HS.out _).mono ?_
          rintro e w1 ⟨rfl, rfl⟩
          clear HS
          go_wp2
          go_ret2
          exact .inr ⟨rfl, rfl, below_drewN (Below.refl _ w) nq⟩
    · have he' : ¬ ((e : Int) = 0) := by omega
      simp only [ht] at HT ⊢
      rw [if_neg (by omega)]
      replace HT := Lib.hid HT
      clear hcut hb hl ht he hl' hcutAll
      generalize cutAt (some ad) cap 1 = A1 at *
      generalize r.length = rl at *
      go_enter Try.func87, Try.ntmps87
      go_wp2_with fail
      refine H0.out.mono ?_
      rintro e' w1 ⟨rfl, rfl⟩
      clear H0
      go_wp2_with fail
      refine HT.out.mono ?_
      rintro e' w1 ⟨rfl, rfl⟩
      clear HT
      go_wp2
      go_ret2
      exact .inr ⟨rfl, rfl, Below.refl _ _⟩
  · rw [if_neg hc]
    rw [decide_eq_false (show ¬ (1 ≤ (c.toNat : Int) ∧ (c.toNat : Int) ≤ 32) by omega)] at H0
    replace H0 := Lib.hid H0
    clear hb hl hl' hc
    generalize c.toNat = p at *
    go_enter Try.func87, Try.ntmps87
    go_wp2_with fail
    refine H0.out.mono ?_
    rintro e' w1 ⟨rfl, rfl⟩
    clear H0
    go_wp2
    go_ret2
    exact .inr ⟨rfl, rfl, Below.refl _ _⟩
end Go.Proofs.Ytgjopffdgdimlaa

/- pfor.TakeBlock. -/
namespace Go.Proofs.Ytgjopffdgdimlaa
open Go.RowKit
set_option maxRecDepth 100000

/-- what TakeBlock answers: numbers of one's own, a size, an error -/
def TakesPost (w : World) (r : List UInt64 × Nat × Nat) (e : Ending) (w' : World) : Prop :=
  ∃ A c, e = .returned (.tuple #[.slice A r.1.length c, .int .i64 (r.2.1 : Int), .int .i64 (r.2.2 : Int)]) ∧ NOwn w' w.heap.size A r.1.length c r.1 ∧ Below w.heap.size w w'

set_option maxHeartbeats 1000000 in
theorem takeBlock_any (A : Option Addr) (n cap B : Nat) (b : List UInt8) (w : World) (hl : b.length = n) (hcap : n ≤ cap) (hm : n ≤ 281474976710656) (hb : Bytes w B A b) (hB : B ≤ w.heap.size) :
    Calls Try.prog 77 #[.slice A n cap] w (TakesPost w (Pfor.takeBlock b)) := by
  have H0 := Lib.hid (readBlock_any A n cap B b w hl hcap hm hb hB)
  have hb := hb.wide hB
  have HE := Lib.hid (fun (A1 : Option Addr) (c1 : Nat) (L : List UInt64) (w1 : World) (h1 : 1 ≤ L.length) (h2 : L.length ≤ 32) (ho : NOwn w1 w.heap.size A1 L.length c1 L) => encodeBlock_any A1 L.length c1 _ L w1 rfl h1 h2 ho.row (Nat.le_refl _))
  have HP := Lib.hid (fun (A2 : Option Addr) (c2 : Nat) (K : List UInt8) (w1 : World) (hk : Bytes w1 w1.heap.size A2 K) (hb : Bytes w1 w.heap.size A b) => hasPrefix_any A A2 n K.length cap c2 _ _ b K w1 hl rfl hcap hb hk)
  clear hl
  go_enter Try.func77, Try.ntmps77
  go_wp2_with fail
  refine H0.out.mono ?_
  clear H0
  rintro e w1 (⟨L, A1, c1, hR, rfl, h1, h2, ho1, hb1⟩ | ⟨hR, rfl, hb1⟩)
  · have C1 := Lib.hid (HE.out A1 c1 L w1 h1 h2 ho1)
    have HR := Lib.hid hR
    have hbb := hb.below hb1
    clear HE hR hb
    go_wp2_with fail
    refine C1.out.mono ?_
    rintro e w2 ⟨g2, c2, rfl, ho2, hb2⟩
    clear C1
    have hbb2 := hbb.below (hb2.mono hb1.size)
    have C2 := Lib.hid (HP.out _ c2 _ w2 ho2.bytes hbb2)
    have hbel := hb1.trans (hb2.mono hb1.size)
    have ho12 := ho1.below hb2
    clear HP ho1 ho2 hbb hbb2
    go_wp2_with fail
    refine C2.out.mono ?_
    clear C2
    rintro e w3 ⟨q, rfl, hq, rfl⟩
    cases q with
    | true =>
      have ht := Pfor.takeBlock_of ⟨h1, h2⟩ (hq.1 rfl)
      have Ht := Lib.hid ht
      clear ht hq
      go_wp2
      go_ret3
      rw [Ht.out]
      exact ⟨A1, c1, rfl, ho12, hbel⟩
    | false =>
      have ht := Pfor.takeBlock_read_not HR.out (fun h => by have := hq.2 h; cases this)
      have Ht := Lib.hid ht
      clear ht hq
      go_wp2
      go_ret3
      rw [Ht.out]
      exact ⟨none, 0, rfl, nown_none _ _, hbel⟩
  · have Ht := Lib.hid (Pfor.takeBlock_read_none hR)
    clear hR
    go_wp2
    go_ret3
    rw [Ht.out]
    exact ⟨none, 0, rfl, nown_none _ _, hb1⟩
end Go.Proofs.Ytgjopffdgdimlaa

/- The document's reader of a block, on lists. -/
namespace Go.Proofs.Ytgjopffdgdimlaa.Pfor

/-- the document's exceptions -/
def refAdd (b : List UInt8) (n w : Nat) : Nat → List UInt64 → Nat → Option (List UInt64 × Nat)
  | 0, ds, at_ => some (ds, at_)
  | k + 1, ds, at_ => if (rd 31 b at_).2.2 = true then none else
      if (rd 18446744073709551615 b (rd 31 b at_).2.1).2.2 = true ∨ n ≤ (rd 31 b at_).1 ∨ w = 64 then none else
        refAdd b n w k (ds.set (rd 31 b at_).1 (UInt64.ofNat ((ds.getD (rd 31 b at_).1 0).toNat + (rd 18446744073709551615 b (rd 31 b at_).2.1).1 * 2 ^ w % 18446744073709551616))) (rd 18446744073709551615 b (rd 31 b at_).2.1).2.1
/-- behind the four numbers -/
def refBody (b : List UInt8) (n base w k at_ : Nat) : Option (List UInt64 × Nat) :=
  if n = 0 ∨ b.length < at_ + Bits.size n w then none else
    if (Bits.unpack ((b.drop at_).take (Bits.size n w)) n w).2 ≠ 0 then none else
      (refAdd b n w k (Bits.unpack ((b.drop at_).take (Bits.size n w)) n w).1 (at_ + Bits.size n w)).map fun r => (plus base r.1, r.2)
/-- the document's reader -/
def refRead (b : List UInt8) : Option (List UInt64 × Nat) :=
  if (rd 32 b 0).2.2 = true then none else
    if (rd 18446744073709551615 b (rd 32 b 0).2.1).2.2 = true then none else
      if (rd 64 b (rd 18446744073709551615 b (rd 32 b 0).2.1).2.1).2.2 = true then none else
        if (rd 32 b (rd 64 b (rd 18446744073709551615 b (rd 32 b 0).2.1).2.1).2.1).2.2 = true then none else
          refBody b (rd 32 b 0).1 (rd 18446744073709551615 b (rd 32 b 0).2.1).1 (rd 64 b (rd 18446744073709551615 b (rd 32 b 0).2.1).2.1).1
            (rd 32 b (rd 64 b (rd 18446744073709551615 b (rd 32 b 0).2.1).2.1).2.1).1 (rd 32 b (rd 64 b (rd 18446744073709551615 b (rd 32 b 0).2.1).2.1).2.1).2.1

theorem rd_num {most v at_ : Nat} {b t : List UInt8} (hv : v < 18446744073709551616) (hm : v ≤ most) (h : b.drop at_ = Num.num v ++ t) : rd most b at_ = (v, at_ + Num.size v, false) := by
  unfold rd
  rw [h, Num.take_num hv]
  simp only [true_and]
  rw [if_pos hm]
theorem rd_at (most : Nat) (b : List UInt8) (at_ : Nat) (h : at_ ≤ b.length) : at_ ≤ (rd most b at_).2.1 ∧ (rd most b at_).2.1 ≤ b.length := by
  have h2 : (Num.take (b.drop at_)).2.1 ≤ b.length - at_ := by
    rcases Num.take_cases (b.drop at_) with ⟨v, s, ht⟩ | ⟨e, ht, _⟩
    · have := (Num.num_take ht).2.2.1
      rw [List.length_drop] at this
      rw [ht]
      exact this
    · rw [ht]; exact Nat.zero_le _
  unfold rd
  split <;> simp only <;> omega
theorem rd_lt (b : List UInt8) (at_ : Nat) (most : Nat) (h : most < 18446744073709551616) : (rd most b at_).1 < 18446744073709551616 := Nat.lt_of_le_of_lt (rd_le most b at_) h
theorem num_byte {v : Nat} (h : v ≤ 247) : Num.num v = [UInt8.ofNat v] := by unfold Num.num; rw [if_pos h]
theorem size_byte {v : Nat} (h : v ≤ 247) : Num.size v = 1 := by unfold Num.size; rw [if_pos h]
theorem low_add (w : Nat) (d : UInt64) : UInt64.ofNat (d.toNat % 2 ^ w + d.toNat / 2 ^ w * 2 ^ w % 18446744073709551616) = d := by
  have h := Nat.div_add_mod d.toNat (2 ^ w)
  have hlt : d.toNat / 2 ^ w * 2 ^ w < 18446744073709551616 := Nat.lt_of_le_of_lt (Nat.div_mul_le_self _ _) d.toNat_lt
  rw [Nat.mod_eq_of_lt hlt, Nat.add_comm, Nat.mul_comm, h, Bits.u64_ofNat]
theorem drop_more {b : List UInt8} {at_ k : Nat} {x y : List UInt8} (h : b.drop at_ = x ++ y) (hk : x.length = k) : b.drop (at_ + k) = y := by
  rw [← List.drop_drop, h, List.drop_left' hk]

theorem refAdd_excs (b : List UInt8) (n w : Nat) (suf : List UInt64) : ∀ (pre : List UInt64) (at_ : Nat) (t : List UInt8), pre.length + suf.length = n → n ≤ 32 → b.drop at_ = excs w pre.length suf ++ t →
    refAdd b n w (cnt w suf) (pre ++ lows w suf) at_ = some (pre ++ suf, at_ + (excs w pre.length suf).length) := by
  induction suf with
  | nil => intro pre at_ t _ _ _; simp [cnt, lows, excs, refAdd]
  | cons d r ih =>
    intro pre at_ t hlen hn hdrop
    rw [List.length_cons] at hlen
    have e1 : lows w (d :: r) = UInt64.ofNat (d.toNat % 2 ^ w) :: lows w r := rfl
    by_cases h0 : d.toNat / 2 ^ w = 0
    · have hlt : d.toNat < 2 ^ w := by
        rcases Nat.lt_or_ge d.toNat (2 ^ w) with h | h
        · exact h
        · have := Nat.div_pos h (Bits.pow_pos w); omega
      rw [excs, exc, if_pos h0, List.nil_append] at hdrop ⊢
      have h2 := ih (pre ++ [d]) at_ t (by simp; omega) hn (by rw [List.length_append, List.length_singleton]; exact hdrop)
      rw [List.length_append, List.length_singleton, List.append_assoc, List.append_assoc] at h2
      simp only [List.singleton_append] at h2
      rw [cnt, if_pos h0, Nat.zero_add, e1, Nat.mod_eq_of_lt hlt, Bits.u64_ofNat]
      exact h2
    · have hne : ¬ w = 64 := fun h => h0 (by rw [h]; exact Nat.div_eq_of_lt d.toNat_lt)
      rw [excs, exc, if_neg h0, List.append_assoc, List.cons_append] at hdrop
      have hr1 : rd 31 b at_ = (pre.length, at_ + 1, false) := by
        rw [rd_num (v := pre.length) (t := Num.num (d.toNat / 2 ^ w) ++ (excs w (pre.length + 1) r ++ t)) (by omega) (by omega) (by rw [num_byte (by omega)]; exact hdrop), size_byte (by omega)]
      have hd1 : b.drop (at_ + 1) = Num.num (d.toNat / 2 ^ w) ++ (excs w (pre.length + 1) r ++ t) := by
        rw [← List.drop_drop, hdrop]; rfl
      have hr2 : rd 18446744073709551615 b (at_ + 1) = (d.toNat / 2 ^ w, at_ + 1 + Num.size (d.toNat / 2 ^ w), false) := rd_num (div_lt d w) (by have := div_lt d w; omega) hd1
      have hd2 : b.drop (at_ + 1 + Num.size (d.toNat / 2 ^ w)) = excs w (pre.length + 1) r ++ t := drop_more hd1 (Num.num_length _)
      have h2 := ih (pre ++ [d]) (at_ + 1 + Num.size (d.toNat / 2 ^ w)) t (by simp; omega) hn (by rw [List.length_append, List.length_singleton]; exact hd2)
      rw [List.length_append, List.length_singleton, List.append_assoc, List.append_assoc] at h2
      simp only [List.singleton_append] at h2
      rw [cnt, if_neg h0, Nat.add_comm 1, e1, refAdd, hr1]
      simp only [Bool.false_eq_true, if_false, hr2, false_or]
      rw [if_neg (by omega), getD_mid, set_mid, low_toNat, low_add, h2, excs, exc, if_neg h0, List.length_append, List.length_cons, Num.num_length]
      congr 2
      omega

theorem refRead_block {l : List UInt64} (hl : Good l) (t : List UInt8) : refRead (block l ++ t) = some (l, (block l).length) := by
  obtain ⟨h1, h2⟩ := hl
  have hw := width_le l
  have hc := cnt_le (width l) (diffs l)
  rw [diffs_length] at hc
  have hp : (Bits.packed (width l) (lows (width l) (diffs l))).length = Bits.size l.length (width l) := by rw [Bits.packed_length, lows_length, diffs_length]
  have hu := Bits.unpack_pack hw (lows_fit (w := width l) (diffs l)) (by rw [lows_length, diffs_length]; omega)
  rw [lows_length, diffs_length] at hu
  have hbl := block_length l
  have hbs : bodySize (width l) (diffs l) = Bits.size l.length (width l) + (excs (width l) 0 (diffs l)).length := by rw [bodySize, diffs_length]
  have e0 : block l ++ t = Num.num l.length ++ (Num.num (base l) ++ (Num.num (width l) ++ (Num.num (cnt (width l) (diffs l)) ++ (Bits.packed (width l) (lows (width l) (diffs l)) ++ (excs (width l) 0 (diffs l) ++ t))))) := by
    rw [num_byte (show l.length ≤ 247 by omega), num_byte (show width l ≤ 247 by omega), num_byte (show cnt (width l) (diffs l) ≤ 247 by omega)]
    simp only [block, byW, body, List.append_assoc, List.cons_append, List.nil_append]
  generalize hb : block l ++ t = b at *
  have hlen : (block l).length ≤ b.length := by rw [← hb, List.length_append]; omega
  have d0 : b.drop 0 = Num.num l.length ++ (Num.num (base l) ++ (Num.num (width l) ++ (Num.num (cnt (width l) (diffs l)) ++ (Bits.packed (width l) (lows (width l) (diffs l)) ++ (excs (width l) 0 (diffs l) ++ t))))) := e0
  have r0 := rd_num (most := 32) (show l.length < 18446744073709551616 by omega) h2 d0
  rw [size_byte (v := l.length) (by omega), Nat.zero_add] at r0
  have d1 := drop_more d0 (Num.num_length _)
  rw [size_byte (v := l.length) (by omega), Nat.zero_add] at d1
  have r1 := rd_num (most := 18446744073709551615) (base_lt l) (by have := base_lt l; omega) d1
  have d2 := drop_more d1 (Num.num_length _)
  have r2 := rd_num (most := 64) (show width l < 18446744073709551616 by omega) hw d2
  rw [size_byte (v := width l) (by omega)] at r2
  have d3 := drop_more d2 (Num.num_length _)
  rw [size_byte (v := width l) (by omega)] at d3
  have r3 := rd_num (most := 32) (show cnt (width l) (diffs l) < 18446744073709551616 by omega) (by omega) d3
  rw [size_byte (v := cnt (width l) (diffs l)) (by omega)] at r3
  have d4 := drop_more d3 (Num.num_length _)
  rw [size_byte (v := cnt (width l) (diffs l)) (by omega)] at d4
  have d5 := drop_more d4 hp
  have ha := refAdd_excs b l.length (width l) (diffs l) [] _ t (by simp [diffs_length]) h2 d5
  rw [List.nil_append, List.nil_append, List.length_nil] at ha
  unfold refRead
  simp only [r0, r1, r2, r3, Bool.false_eq_true, if_false]
  unfold refBody
  rw [if_neg (by omega), d4, List.take_left' hp, hu]
  simp only [ne_eq, not_true, if_false]
  rw [ha, Option.map_some]
  simp only
  rw [plus_diffs]
  congr 2
  omega

/-- what the document's reader comes to -/
theorem takeBlock_ref_none {b : List UInt8} (h : refRead b = none) : takeBlock b = ([], 0, 2) := takeBlock_none fun l hl hb => by
  obtain ⟨t, rfl⟩ := hb
  rw [refRead_block hl t] at h
  cases h
theorem takeBlock_ref_some {b : List UInt8} {m : List UInt64} {at_ : Nat} (h : refRead b = some (m, at_)) (hat : at_ ≤ b.length) (hm : Good m) :
    takeBlock b = if block m = b.take at_ then (m, at_, 0) else ([], 0, 2) := by
  split
  · rename_i he
    rw [takeBlock_of hm (by rw [he]; exact List.take_prefix _ _), he, List.length_take, Nat.min_eq_left hat]
  · rename_i he
    apply takeBlock_none
    intro l hl hb
    obtain ⟨t, rfl⟩ := hb
    rw [refRead_block hl t] at h
    cases h
    exact he (by rw [List.take_left' rfl])
end Go.Proofs.Ytgjopffdgdimlaa.Pfor

/- The document's By: a block by a width. -/
namespace Go.Proofs.Ytgjopffdgdimlaa
open Go.RowKit
set_option maxRecDepth 100000

theorem rows_unlike {w : World} {b1 b2 e1 e2 s1 s2 n1 n2 : Nat} {v1 v2 : Value} {xs1 xs2 : List Value} (h1 : w.ownsRow b1 e1 s1 v1 n1 xs1) (h2 : w.ownsRow b2 e2 s2 v2 n2 xs2) (hne : e1 ≠ e2) :
    v1.ownBlock = none ∨ v1.ownBlock ≠ v2.ownBlock := by
  rcases h1.2 with ⟨rfl, _⟩ | ⟨g1, cap1, cur1, rfl, _, hg1, _⟩
  · exact .inl rfl
  · refine .inr fun he => ?_
    rcases h2.2 with ⟨rfl, _⟩ | ⟨g2, cap2, cur2, rfl, _, hg2, _⟩
    · cases he
    · injection he with he
      have he' : g1 = g2 := he
      subst he'
      rw [hg1] at hg2
      injection hg2 with hg2
      injection hg2 with _ ht
      exact hne ht
theorem own_nown {w w' : World} {b1 b2 n1 c1 n2 c2 : Nat} {A1 A2 : Option Addr} {l1 : List UInt8} {l2 : List UInt64} (h1 : Own w b1 A1 n1 c1 l1) (h2 : NOwn w b2 A2 n2 c2 l2) (hg : w.grownBy w' (blk A2)) : Own w' b1 A1 n1 c1 l1 :=
  h1.kept hg (by have := rows_unlike h1 h2 (by decide); rwa [ownBlock_eq, ownBlock_eq] at this)
theorem nown_own {w w' : World} {b1 b2 n1 c1 n2 c2 : Nat} {A1 A2 : Option Addr} {l1 : List UInt8} {l2 : List UInt64} (h1 : Own w b1 A1 n1 c1 l1) (h2 : NOwn w b2 A2 n2 c2 l2) (hg : w.grownBy w' (blk A1)) : NOwn w' b2 A2 n2 c2 l2 :=
  h2.kept hg (by have := rows_unlike h2 h1 (by decide); rwa [ownBlock_eq, ownBlock_eq] at this)

theorem wrap_pow {v : Nat} (hv : v < 64) : IntKind.u64.wrap (2 ^ v) = ((2 ^ v : Nat) : Int) := by
  have h : (2 : Nat) ^ v < 18446744073709551616 := Nat.lt_of_lt_of_le (Nat.pow_lt_pow_right (by omega) hv) (by decide)
  have e : IntKind.u64.wrap ((2 ^ v : Nat) : Int) = ((2 ^ v : Nat) : Int) % 18446744073709551616 := by simp [IntKind.wrap, IntKind.bits, IntKind.signed]
  rw [show (2 : Int) ^ v = ((2 ^ v : Nat) : Int) from by rw [Int.natCast_pow]; rfl, e]
  generalize (2 : Nat) ^ v = q at *
  omega

set_option maxHeartbeats 4000000 in
theorem refBy_any (A : Option Addr) (n cap B v : Nat) (l : List UInt64) (w : World) (hl : l.length = n) (h1 : 1 ≤ n) (hn : n ≤ 32) (hv : v ≤ 64) (hb : Nums w B A l) (hB : B ≤ w.heap.size) :
    Calls Try.prog 86 #[.slice A n cap, .int .i64 (v : Int)] w (MadeIn w.heap.size w (Pfor.byW v l).length (Pfor.byW v l)) := by
  have hb := hb.wide hB
  rcases l with _ | ⟨y, r⟩
  · simp at hl; omega
  obtain ⟨ad, rfl, hlt', hcell⟩ := hb.get (k := 0) (by simp)
  simp only [uval, List.getElem_cons_zero, Addr.add, if_true] at hcell
  obtain ⟨z0, hz0⟩ : ∃ z0 : Int, z0 = (y.toNat : Int) := ⟨_, rfl⟩
  rw [← hz0] at hcell
  have Hz0 := Lib.hid hz0; clear hz0
  have Hbase := Lib.hid (Pfor.leastOf_self y r)
  generalize hyr : y :: r = l at *
  clear hyr
  have Hl := Lib.hid hl
  have hDl : (Pfor.diffs l).length = n := by rw [Pfor.diffs_length, hl]
  have HDl := Lib.hid hDl
  have Hget := Lib.hid (fun (k : Nat) (hk : k < l.length) (h2 : k < (Pfor.diffs l).length) => show (Pfor.diffs l)[k] = UInt64.ofNat (l[k].toNat - Pfor.base l) from Pfor.diffs_get hk)
  have Hle := Lib.hid (fun (k : Nat) (hk : k < l.length) => Pfor.base_le (List.getElem_mem hk))
  clear hl hDl
  go_enter Try.func86, Try.ntmps86
  go_wp2
  go_loopw [5, 6] (fun s i wr => ∃ (k : Nat) (x : Int), k ≤ n ∧ i = .int .i64 k ∧ s = .int .u64 x ∧ x = (Pfor.leastOf y.toNat (l.take k) : Int) ∧ w = wr) (fun _ i _ => n - (intOf i).toNat)
  case atStart => exact ⟨0, z0, by omega, rfl, rfl, Hz0.out, rfl⟩
  case round =>
    obtain ⟨k, x, hk, rfl, rfl, hx, rfl⟩ := hrel
    have Hx := Lib.hid hx; clear hx
    by_cases hlt : k < n
    · have hk' : k < l.length := by have := Hl.out; omega
      obtain ⟨ad2, h2, _, hcell2⟩ := hb.get hk'
      cases h2
      simp only [uval] at hcell2
      obtain ⟨z, hz⟩ : ∃ z : Int, z = (l[k].toNat : Int) := ⟨_, rfl⟩
      rw [← hz] at hcell2
      have Hmin := Lib.hid (Pfor.leastOf_take_succ y.toNat hk')
      have Hz := Lib.hid hz; clear hz
      clear hcell
      go_wp2
      go_roundw
      case rel =>
        refine ⟨k + 1, _, by omega, by go_num, rfl, ?_, trivial⟩
        rw [Hmin.out, Hx.out, Hz.out]
        split <;> omega
      case measure => simp [intOf]; omega
    · obtain rfl : k = n := by omega
      have hx := Hx.out
      rw [List.take_of_length_le (by rw [Hl.out]; exact Nat.le_refl _), Hbase.out] at hx
      clear Hx Hbase Hz0 hcell
      have hx0 : 0 ≤ x := by omega
      have hx1 : x ≤ 18446744073709551615 := by have := Pfor.base_lt l; omega
      have Hx := Lib.hid hx; clear hx
      generalize hD : Pfor.diffs l = D at *
      have HD := Lib.hid hD; clear hD
      go_wp2
      go_loopw [7, 8, 9, 10] (fun lo re ct i wr => ∃ (j C m c1 c2 : Nat) (A1 A2 : Option Addr), j ≤ k ∧ i = .int .i64 j ∧ ct = .int .i64 C ∧ C ≤ j ∧ C = Pfor.cnt v (D.take j) ∧ lo = .slice A1 j c1 ∧ re = .slice A2 m c2 ∧ m ≤ 10 * j ∧
        NOwn wr w.heap.size A1 j c1 ((Pfor.lows v D).take j) ∧ Own wr w.heap.size A2 m c2 (Pfor.excs v 0 (D.take j)) ∧ Below w.heap.size w wr) (fun _ _ _ i _ => k - (intOf i).toNat)
      case atStart => exact ⟨0, 0, 0, 0, 0, none, none, by omega, rfl, rfl, by omega, rfl, rfl, rfl, by omega, ROwn.nil _ _ _ _, own_none _ _, Below.refl _ _⟩
      case round =>
        obtain ⟨j, C, m, c1, c2, A1, A2, hj, rfl, rfl, hCj, hC, rfl, rfl, hm, hlo, hre, hbr⟩ := hrel
        have HC := Lib.hid hC; clear hC
        have hbx := hb.below hbr
        have hszr := hbr.size
        by_cases hlt : j < k
        · have hj' : j < l.length := by have := Hl.out; omega
          have hjD : j < D.length := by have := HDl.out; omega
          obtain ⟨ad2, h2, _, hcell2⟩ := hbx.get hj'
          cases h2
          simp only [uval] at hcell2
          obtain ⟨z, hz, hz0, hz1⟩ : ∃ z : Int, z = (l[j].toNat : Int) ∧ 0 ≤ z ∧ z ≤ 18446744073709551615 := ⟨_, rfl, by omega, by have := Bits.u64_lt l[j]; omega⟩
          have hle := Hle.out j hj'
          have hzx : x ≤ z := by rw [hz, Hx.out]; omega
          have hd : z - x = (D[j].toNat : Int) := by
            have := Bits.u64_lt l[j]
            rw [Hget.out j hj' hjD, Bits.toNat_ofNat (by omega), hz, Hx.out, Int.natCast_sub hle]
          rw [← hz] at hcell2
          have Hd := Lib.hid hd; clear hd hz hle
          have HsC := Lib.hid (Pfor.cnt_take_succ v hjD)
          have HsE := Lib.hid (Pfor.excs_take_succ v hjD)
          have hlowj : (Pfor.lows v D).take (j + 1) = (Pfor.lows v D).take j ++ [UInt64.ofNat (D[j].toNat % 2 ^ v)] := by
            rw [List.take_succ_eq_append_getElem (by rw [Pfor.lows_length]; exact hjD), Pfor.lows_get hjD]
          have Hlow := Lib.hid hlowj; clear hlowj
          have hshr : (z - x) / 2 ^ v = ((D[j].toNat / 2 ^ v : Nat) : Int) := shr_nat Hd.out
          by_cases h64 : v = 64
          · have h0 : D[j].toNat / 2 ^ v = 0 := by rw [h64]; exact Nat.div_eq_of_lt D[j].toNat_lt
            have hm64 : D[j].toNat % 2 ^ v = D[j].toNat := by rw [h64]; exact Nat.mod_eq_of_lt D[j].toNat_lt
            have hu : uval (UInt64.ofNat (D[j].toNat % 2 ^ v)) = .int .u64 (z - x) := by unfold uval; rw [hm64, Bits.u64_ofNat, Hd.out]
            have hC2 := HsC.out
            rw [if_pos h0] at hC2
            have hE2 := HsE.out
            rw [Pfor.exc, if_pos h0, List.append_nil] at hE2
            have HC2 := Lib.hid hC2
            have HE2 := Lib.hid hE2
            have hone := nown_lit1 wr _ _ hu
            have hor := hone.row
            have hloA := hlo.alloc (.cells #[.int .u64 (z - x)] 54)
            have hreA := hre.alloc (.cells #[.int .u64 (z - x)] 54)
            have hbA : Below w.heap.size w (wr.alloc (.cells #[.int .u64 (z - x)] 54)) := hbr.alloc hszr _
            have hszA := hbA.size
            clear hC2 hE2 HsC HsE hu hm64 h0 hone hlo hre hbr hshr
            have h64' : ((v : Int) == 64) = true := by rw [h64]; rfl
            clear h64
            go_wp2_with (at_builtin; refine wpList_append_row elem64 rfl (.tmp 44) (.tmp 46) rfl w.heap.size A1 j c1 _ rfl hloA _ _ 1 1 [_] rfl rfl hor (by omega) (by simp only [maxLen]; omega) hszA ?_; intro A3 c3 w3 hlo3 hg3 hat3)
            have hb3 := hbA.grown hg3 hszA (fun k hk => (hloA.lt hk).1)
            have hre3 := own_nown hreA hloA hg3
            clear hat3
            go_wp2
            go_roundw
            case rel => exact ⟨j + 1, C, m, c3, c2, A3, A2, by omega, by go_num, rfl, by omega, by rw [HC2.out, HC.out]; rfl, rfl, rfl, by omega, by rw [Hlow.out]; exact hlo3, by rw [HE2.out]; exact hre3, hb3⟩
            case measure => simp [intOf]; omega
          · have hv' : v < 64 := by omega
            have hq := wrap_pow hv'
            have hqp : 0 < (2 : Nat) ^ v := Bits.pow_pos v
            have hvi : ¬ ((v : Int) = 64) := by omega
            have hrem : (z - x) % ((2 ^ v : Nat) : Int) = ((D[j].toNat % 2 ^ v : Nat) : Int) := by rw [Hd.out, Int.natCast_emod]
            obtain ⟨q, hQ, hq0⟩ : ∃ q : Int, q = ((2 ^ v : Nat) : Int) ∧ 0 < q := ⟨_, rfl, by omega⟩
            rw [← hQ] at hq hrem
            have hu : uval (UInt64.ofNat (D[j].toNat % 2 ^ v)) = .int .u64 ((z - x) % q) := by unfold uval; rw [Pfor.low_toNat, hrem]
            have hone := nown_lit1 wr _ _ hu
            have hor := hone.row
            have hloA := hlo.alloc (.cells #[.int .u64 ((z - x) % q)] 54)
            have hreA := hre.alloc (.cells #[.int .u64 ((z - x) % q)] 54)
            have hbA : Below w.heap.size w (wr.alloc (.cells #[.int .u64 ((z - x) % q)] 54)) := hbr.alloc hszr _
            have hszA := hbA.size
            have hqn : ¬ (q = 0) := by omega
            have hvlt := Pfor.div_lt D[j] v
            clear hQ hqp hrem hu hone hlo hre hbr h64
            rcases div_eq_zero_or D[j].toNat v with ⟨_, h0⟩ | ⟨_, h0⟩
            · have hC2 := HsC.out
              rw [if_neg h0] at hC2
              have hE2 := HsE.out
              rw [Pfor.exc, if_neg h0] at hE2
              have HC2 := Lib.hid hC2
              have HE2 := Lib.hid hE2
              have HB := refBytes_any (D[j].toNat / 2 ^ v) (hv := hvlt)
              have h9 := Num.size_le9 hvlt
              have Hnl := Num.num_length (D[j].toNat / 2 ^ v)
              rw [← hshr] at HB
              have hpos : 0 < (z - x) / 2 ^ v := by rw [hshr]; exact Int.natCast_pos.2 (Nat.pos_of_ne_zero h0)
              replace HB := Lib.hid HB
              replace Hnl := Lib.hid Hnl
              clear hC2 hE2 HsC HsE h0 hshr hvlt
              generalize Num.num (D[j].toNat / 2 ^ v) = nv at *
              generalize Num.size (D[j].toNat / 2 ^ v) = sv at *
              go_wp2_with (at_builtin; refine wpList_append_row elem64 rfl (.tmp 48) (.tmp 53) rfl w.heap.size A1 j c1 _ rfl hloA _ _ 1 1 [_] rfl rfl hor (by omega) (by simp only [maxLen]; omega) hszA ?_; intro A3 c3 w3 hlo3 hg3 hat3)
              have hb3 := hbA.grown hg3 hszA (fun k hk => (hloA.lt hk).1)
              have hre3 := own_nown hreA hloA hg3
              have hsz3 := hb3.size
              clear hat3 hg3 hreA hloA hor hbA hszA
              have hwr : IntKind.u8.wrap (j : Int) = j := by
                have : IntKind.u8.wrap (j : Int) = (j : Int) % 256 := by simp [IntKind.wrap, IntKind.bits, IntKind.signed]
                rw [this]; omega
              have hob := (own_byte w3 (UInt8.ofNat j) (IntKind.u8.wrap (j : Int)) (by rw [hwr]; exact bval_lt (by omega))).bytes
              have hre4 := hre3.alloc (.cells #[.int .u8 (IntKind.u8.wrap (j : Int))] 5)
              have hlo4 := hlo3.alloc (.cells #[.int .u8 (IntKind.u8.wrap (j : Int))] 5)
              have hb4 : Below w.heap.size w (w3.alloc (.cells #[.int .u8 (IntKind.u8.wrap (j : Int))] 5)) := hb3.alloc hsz3 _
              have hsz4 := hb4.size
              clear hwr hre3 hlo3 hb3 hsz3
              go_region_held3 (fun _ => True) (trivial) (first | (refine step_append_bytes (by rfl) (.tmp 61) (.tmp 64) (by rfl) w.heap.size A2 m c2 _ (by rfl) (by exact hre4) _ _ 1 1 [UInt8.ofNat j] (by rfl) rfl (by exact hob) (by omega) (by exact hsz4) ?_; intro A5 c5 w5 ho5 hg5 hat5) | (go_at_call 33; refine (HB.out _).mono ?_; rintro e w8 ⟨g8, c8, rfl, ho8, hb8⟩) | (refine step_append_bytes ?_ (.tmp 65) (.tmp 69) ?_ w.heap.size A5 (m + 1) c5 (Pfor.excs v 0 (List.take j D) ++ [UInt8.ofNat j]) ?_ ?_ w8.heap.size (some ⟨g8, 0, none⟩) sv c8 nv ?_ ?_ ?_ ?_ ?_ ?_; rfl; rfl; rfl; exact ho5.below hb8; rfl; exact Hnl.out; exact ho8.bytes; omega; exact Nat.le_trans hsz4 (Nat.le_trans hg5.size hb8.size); intro A9 c9 w9 ho9 hg9 hat9))
              have hb8' := hb4.drew.grown (by exact hg5) (by exact hsz4) (fun k hk => (hre4.lt hk).1)
              have hsz5 := hb8'.size
              have hb8a := hb8'.trans (hb8.mono hsz5)
              have ho5' := ho5.below hb8
              have hb9 := hb8a.grown (by exact hg9) hb8a.size (fun k hk => (ho5'.lt hk).1)
              have hlo5 : NOwn w5 w.heap.size A3 (j + 1) c3 _ := nown_own (w := (w3.alloc (.cells #[.int .u8 (IntKind.u8.wrap (j : Int))] 5)).drew) (by exact hre4) (by exact hlo4) hg5
              have hlo9 := nown_own ho5' (hlo5.below hb8) hg9
              rw [List.append_assoc, List.singleton_append, ← HE2.out] at ho9
              rw [← Hlow.out] at hlo9
              clear hlo5 hlo4 hre4 hob hb4 hsz4 hg5 hat5 ho5 hb8 ho8 hg9 hat9 ho5' hb8a hsz5 hb8' HB HE2 Hlow
              go_wp2
              go_roundw
              case rel => exact ⟨j + 1, C + 1, m + 1 + sv, c3, c9, A3, A9, by omega, by go_num, by go_num, by omega, by rw [HC2.out, HC.out], rfl, rfl, by omega, hlo9, ho9, hb9⟩
              case measure => simp [intOf]; omega
            · have hC2 := HsC.out
              rw [if_pos h0] at hC2
              have hE2 := HsE.out
              rw [Pfor.exc, if_pos h0, List.append_nil] at hE2
              have HC2 := Lib.hid hC2
              have HE2 := Lib.hid hE2
              rw [h0] at hshr
              have hshr' : (z - x) / 2 ^ v = 0 := hshr
              clear hC2 hE2 HsC HsE h0 hshr hvlt
              go_wp2_with (at_builtin; refine wpList_append_row elem64 rfl (.tmp 48) (.tmp 53) rfl w.heap.size A1 j c1 _ rfl hloA _ _ 1 1 [_] rfl rfl hor (by omega) (by simp only [maxLen]; omega) hszA ?_; intro A3 c3 w3 hlo3 hg3 hat3)
              have hb3 := hbA.grown hg3 hszA (fun k hk => (hloA.lt hk).1)
              have hre3 := own_nown hreA hloA hg3
              clear hat3 hg3 hreA hloA hor hbA hszA
              go_wp2
              go_roundw
              case rel => exact ⟨j + 1, C, m, c3, c2, A3, A2, by omega, by go_num, rfl, by omega, by rw [HC2.out, HC.out]; rfl, rfl, rfl, by omega, by rw [Hlow.out]; exact hlo3, by rw [HE2.out]; exact hre3, hb3⟩
              case measure => simp [intOf]; omega
        · obtain rfl : j = k := by omega
          rw [List.take_of_length_le (by rw [Pfor.lows_length, HDl.out]; exact Nat.le_refl _)] at hlo
          rw [List.take_of_length_le (by rw [HDl.out]; exact Nat.le_refl _)] at hre
          have hC := HC.out
          rw [List.take_of_length_le (by rw [HDl.out]; exact Nat.le_refl _)] at hC
          have hP := refPack_any A1 j c1 _ v (Pfor.lows v D) wr (by rw [Pfor.lows_length, HDl.out]) (by omega) hlo.row (Nat.le_refl _)
          rw [Bits.pack_ok hv (Pfor.lows_fit D)] at hP
          have hpl : (Bits.packed v (Pfor.lows v D)).length ≤ 256 := by
            have h2 : j * v ≤ 32 * 64 := Nat.mul_le_mul hn hv
            rw [Bits.packed_length, Pfor.lows_length, HDl.out]
            unfold Bits.size
            omega
          have hrl := hre.len
          have hfin : Pfor.byW v l = ((([UInt8.ofNat j] ++ Num.num (Pfor.base l)) ++ [UInt8.ofNat v, UInt8.ofNat C]) ++ Bits.packed v (Pfor.lows v D)) ++ Pfor.excs v 0 D := by
            have := Hl.out
            have hD := HD.out
            rw [hC]
            simp only [Pfor.byW, Pfor.body, this, hD, List.append_assoc, List.cons_append, List.nil_append]
          have HN := refBytes_any (Pfor.base l) (hv := Pfor.base_lt l)
          have hs9 := Num.size_le9 (Pfor.base_lt l)
          have Hnl := Num.num_length (Pfor.base l)
          rw [← Hx.out] at HN
          have hbv := bval_lt (show j < 256 by omega)
          have hbw := bval_lt (show v < 256 by omega)
          have hbc := bval_lt (show C < 256 by omega)
          generalize Num.num (Pfor.base l) = nb at *
          generalize Num.size (Pfor.base l) = s at *
          generalize Bits.packed v (Pfor.lows v D) = pk at *
          generalize Pfor.excs v 0 D = ex at *
          have HP := Lib.hid hP
          have Hfin := Lib.hid hfin
          have Hnl := Lib.hid Hnl
          have Hrl := Lib.hid hrl
          replace HN := Lib.hid HN
          clear hP hfin hC HC hlo hbx hb Hget Hle hrl
          go_wp2_with fail
          refine HP.out.mono ?_
          rintro e w1 ⟨Ap, cp, rfl, hop, hb1⟩
          clear HP
          have hpb := hop.bytes
          have hrb := (hre.below hb1).bytes
          have hbw1 := hbr.trans (hb1.mono hszr)
          have hszw1 := hbw1.size
          clear hop hre hb1 hbr
          have hlit := own_byte w1 _ _ hbv
          have hb1a : Below w1.heap.size w1 (w1.alloc (.cells #[.int .u8 (j : Int)] 5)) := (Below.refl _ _).alloc (Nat.le_refl _) _
          have hsz1a := hb1a.size
          go_wp2_with fail
          refine (HN.out _).mono ?_
          rintro e w2 ⟨g2, k2, rfl, ho2, hb2⟩
          clear HN
          have hb2' := hb1a.trans (hb2.mono hsz1a)
          have hlit2 := hlit.below hb2
          have hsz2 := hb2'.size
          have hnb := ho2.bytes
          clear ho2 hb2 hlit hb1a hsz1a
          go_wp2_with (at_builtin; first | (refine wpList_append_bytes rfl (.tmp 80) (.tmp 82) rfl w1.heap.size _ 1 1 _ rfl hlit2 _ _ s _ nb rfl Hnl.out hnb (by omega) hsz2 ?_; intro A3 c3 w3 ho3 hg3 hat3; have hb3 := hb2'.grown hg3 hsz2 (fun k hk => (hlit2.lt hk).1); have hsz3 := hb3.size; have hb3a : Below w1.heap.size w1 (w3.alloc (.cells #[.int .u8 (v : Int), .int .u8 (C : Int)] 5)) := hb3.alloc hsz3 _; have hsz3a := hb3a.size; have hlit3 := (own_byte2 w3 _ _ _ _ hbw hbc).bytes; have ho3a := ho3.alloc (.cells #[.int .u8 (v : Int), .int .u8 (C : Int)] 5); clear hnb hlit2 hat3 hg3) | (refine wpList_append_bytes rfl (.tmp 84) (.tmp 89) rfl w1.heap.size _ (1 + s) c3 _ rfl ho3a _ _ 2 2 [_, _] rfl rfl hlit3 (by omega) hsz3a ?_; intro A4 c4 w4 ho4 hg4 hat4; have hb4 := hb3a.grown hg4 hsz3a (fun k hk => (ho3a.lt hk).1); have hsz4 := hb4.size; have hpb4 := hpb.below hb4) | (refine wpList_append_bytes rfl (.tmp 90) (.tmp 91) rfl w1.heap.size _ (1 + s + 2) c4 _ rfl ho4 _ _ _ _ pk rfl rfl hpb4 (by omega) hsz4 ?_; intro A5 c5 w5 ho5 hg5 hat5; have hb5 := hb4.grown hg5 hsz4 (fun k hk => (ho4.lt hk).1); have hsz5 := hb5.size; have hrb5 := hrb.below hb5) | (refine wpList_append_bytes rfl (.tmp 92) (.tmp 93) rfl w1.heap.size _ (1 + s + 2 + pk.length) c5 _ rfl ho5 _ _ m _ ex rfl Hrl.out hrb5 (by omega) hsz5 ?_; intro A6 c6 w6 ho6 hg6 hat6; have hb6 := hb5.grown hg6 hsz5 (fun k hk => (ho5.lt hk).1)))
          go_ret
          have hlen := ho6.len
          rw [← Hfin.out] at ho6 hlen
          obtain ⟨g9, rfl, _⟩ := ho6.at_ (by omega)
          rw [hlen]
          exact ⟨g9, c6, rfl, ho6.low hszw1, hbw1.trans (hb6.mono hszw1)⟩
end Go.Proofs.Ytgjopffdgdimlaa

/- The document's Block. -/
namespace Go.Proofs.Ytgjopffdgdimlaa
open Go.RowKit
set_option maxRecDepth 100000

theorem Pfor.best_step (f : Nat → Nat) {j : Nat} (hj : 1 ≤ j) : Pfor.best f j = if f j < f (Pfor.best f (j - 1)) then j else Pfor.best f (j - 1) := by
  obtain ⟨i, rfl⟩ : ∃ i, j = i + 1 := ⟨j - 1, by omega⟩
  rfl

set_option maxHeartbeats 1000000 in
theorem refBlock_any (A : Option Addr) (n cap B : Nat) (l : List UInt64) (w : World) (hl : l.length = n) (h1 : 1 ≤ n) (hn : n ≤ 32) (hb : Nums w B A l) (hB : B ≤ w.heap.size) :
    Calls Try.prog 72 #[.slice A n cap] w (MadeIn w.heap.size w (Pfor.block l).length (Pfor.block l)) := by
  have hb := hb.wide hB
  have HB := Lib.hid (fun (v : Nat) (hv : v ≤ 64) (wr : World) (hbel : Below w.heap.size w wr) => refBy_any A n cap _ v l wr hl h1 hn hv (hb.below hbel) hbel.size)
  have H0 := Lib.hid (HB.out 0 (by omega) w (Below.refl _ _))
  have hsz := Lib.hid (fun v (hv : v ≤ 64) => Pfor.byW_length_le hv (show l.length ≤ 32 by omega))
  have hstep := Lib.hid (fun j (hj : 1 ≤ j) => Pfor.best_step (fun v => Pfor.bodySize v (Pfor.diffs l)) hj)
  have hcmp := Lib.hid (fun v v' => show (Pfor.byW v l).length < (Pfor.byW v' l).length ↔ Pfor.bodySize v (Pfor.diffs l) < Pfor.bodySize v' (Pfor.diffs l) from by rw [Pfor.byW_length, Pfor.byW_length]; omega)
  have hend : Pfor.block l = Pfor.byW (Pfor.best (fun v => Pfor.bodySize v (Pfor.diffs l)) 64) l := rfl
  have Hend := Lib.hid hend
  rw [hend]
  clear hend hl hb
  generalize hf : (fun v => Pfor.bodySize v (Pfor.diffs l)) = f at *
  have Hf := Lib.hid (fun v => show Pfor.bodySize v (Pfor.diffs l) = f v from by rw [← hf])
  clear hf
  generalize hF : (fun v => Pfor.byW v l) = F at *
  have HF := Lib.hid (fun v => show Pfor.byW v l = F v from by rw [← hF])
  clear hF
  simp only [HF.out, Hf.out] at HB H0 hsz hcmp hstep ⊢
  clear Hf HF Hend
  go_enter Try.func72, Try.ntmps72
  go_wp2_with fail
  refine H0.out.mono ?_
  rintro e w1 ⟨g1, k1, rfl, ho1, hb1⟩
  clear H0
  go_wp2
  go_loopw [3, 4] (fun s i wr => ∃ (j m g c : Nat), 1 ≤ j ∧ j ≤ 65 ∧ i = .int .i64 j ∧ m ≤ 64 ∧ m = Pfor.best f (j - 1) ∧ s = .slice (some ⟨g, 0, none⟩) (F m).length c ∧ Own wr w.heap.size (some ⟨g, 0, none⟩) (F m).length c (F m) ∧ Below w.heap.size w wr) (fun _ i _ => 65 - (intOf i).toNat)
  case atStart => exact ⟨1, 0, g1, k1, by omega, by omega, rfl, by omega, rfl, rfl, ho1, hb1⟩
  case round =>
    clear ho1 hb1
    obtain ⟨j, m, g, c, hj1, hj, rfl, hm64, hm, rfl, ho, hbr⟩ := hrel
    have Hm := Lib.hid hm; clear hm
    have hszr := hbr.size
    have hl1 := hsz.out m hm64
    by_cases hlt : j ≤ 64
    · have C1 := Lib.hid (HB.out j hlt wr hbr)
      have hl2 := hsz.out j hlt
      have hst := hstep.out j hj1
      rw [← Hm.out] at hst
      have hc := hcmp.out j m
      by_cases hless : (F j).length < (F m).length
      · rw [if_pos (hc.1 hless)] at hst
        have Hst := Lib.hid hst
        clear hst hc
        go_wp2_with fail
        refine C1.out.mono ?_
        rintro e w2 ⟨g2, k2, rfl, ho2, hb2⟩
        clear C1
        go_wp2
        go_roundw
        case rel => exact ⟨j + 1, j, g2, k2, by omega, by omega, by go_num, hlt, by rw [Nat.add_sub_cancel]; exact Hst.out.symm, rfl, ho2.low hszr, hbr.trans (hb2.mono hszr)⟩
        case measure => simp [intOf]; omega
      · rw [if_neg (fun h => hless (hc.2 h))] at hst
        have Hst := Lib.hid hst
        clear hst hc
        go_wp2_with fail
        refine C1.out.mono ?_
        rintro e w2 ⟨g2, k2, rfl, ho2, hb2⟩
        clear C1
        go_wp2
        go_roundw
        case rel => exact ⟨j + 1, m, g, c, by omega, by omega, by go_num, hm64, by rw [Nat.add_sub_cancel]; exact Hst.out.symm, rfl, ho.below hb2, hbr.trans (hb2.mono hszr)⟩
        case measure => simp [intOf]; omega
    · obtain rfl : j = 65 := by omega
      have hm := Hm.out
      simp only [Nat.reduceSub] at hm
      go_wp2
      go_ret
      rw [← hm]
      exact ⟨g, c, rfl, ho, hbr⟩
end Go.Proofs.Ytgjopffdgdimlaa

/- The document's TakeBlock. -/
namespace Go.Proofs.Ytgjopffdgdimlaa
open Go.RowKit
set_option maxRecDepth 100000

theorem Rd.far {w : World} {g g' i : Nat} {A : Option Addr} {n cap at_ : Nat} {bad : Bool} (h : Rd w g A n cap at_ bad) (hne : g' ≠ g) (v : Value) : Rd (w.setCell ⟨g', i, none⟩ v) g A n cap at_ bad := by
  refine ⟨?_, ?_, ?_, ?_, ?_, by rw [heap_size_setCell]; exact h.lt⟩
  · rw [World.cell?_setCell_far _ _ _ _ hne]; exact h.b
  · rw [World.cell?_setCell_far _ _ _ _ hne]; exact h.at'
  · rw [World.cell?_setCell_far _ _ _ _ hne]; exact h.bad'
  · rw [World.frozen?_setCell]; exact h.f1
  · rw [World.frozen?_setCell]; exact h.f2
theorem Rd.drew {w : World} {g : Nat} {A : Option Addr} {n cap at_ : Nat} {bad : Bool} (h : Rd w g A n cap at_ bad) : Rd w.drew g A n cap at_ bad := ⟨h.b, h.at', h.bad', h.f1, h.f2, h.lt⟩
theorem rd_new (w : World) (A : Option Addr) (n cap : Nat) : Rd (w.alloc (.cells #[.slice A n cap, .int .i64 0, .bool false] 107)) w.heap.size A n cap 0 false := by
  refine ⟨?_, ?_, ?_, ?_, ?_, by simp⟩
  · rw [World.cell?_alloc_at _ _ _ _ rfl]; rfl
  · rw [World.cell?_alloc_at _ _ _ _ rfl]; rfl
  · rw [World.cell?_alloc_at _ _ _ _ rfl]; rfl
  · exact World.frozen?_alloc_at _ _ _ _ rfl
  · exact World.frozen?_alloc_at _ _ _ _ rfl

set_option maxHeartbeats 8000000 in
theorem refTakeBlock_any (A : Option Addr) (n cap B : Nat) (b : List UInt8) (w : World) (hl : b.length = n) (hcap : n ≤ cap) (hm : n ≤ 140737488355328) (hb : Bytes w B A b) (hB : B ≤ w.heap.size) :
    Calls Try.prog 78 #[.slice A n cap] w (TakesPost w (Pfor.takeBlock b)) := by
  have hb := hb.wide hB
  have hr0 := rd_new w A n cap
  have hbel0 : Below w.heap.size w (w.alloc (.cells #[.slice A n cap, .int .i64 0, .bool false] 107)) := (Below.refl _ _).alloc (Nat.le_refl _) _
  obtain ⟨g, hg⟩ : ∃ g, g = w.heap.size := ⟨_, rfl⟩
  have HC := Lib.hid (fun (most at_ : Nat) (hmost : most ≤ 64) (hat : at_ ≤ n) (wr : World) (hr : Rd wr g A n cap at_ false) (hbel : Below g w wr) => count_any g n cap at_ g most A b wr hr hl hcap hm hat (by rw [← hg] at hb; exact hb.below hbel) hmost)
  have HN := Lib.hid (fun (at_ : Nat) (hat : at_ ≤ n) (wr : World) (hr : Rd wr g A n cap at_ false) (hbel : Below g w wr) => number_any g n cap at_ g 18446744073709551615 A b wr hr hl hcap hm hat (by rw [← hg] at hb; exact hb.below hbel) (by omega))
  have HCb := Lib.hid (fun (most at_ : Nat) (hmost : most ≤ 64) (wr : World) (hr : Rd wr g A n cap at_ true) => count_bad g n cap at_ A most wr hmost hr)
  have HNb := Lib.hid (fun (at_ : Nat) (wr : World) (hr : Rd wr g A n cap at_ true) => number_bad g n cap at_ A 18446744073709551615 wr hr)
  have Hat := Lib.hid (fun (most at_ : Nat) (h : at_ ≤ n) => Pfor.rd_at most b at_ (by omega))
  have Hle := Lib.hid (fun (most at_ : Nat) => Pfor.rd_le most b at_)
  obtain ⟨R0, hR0⟩ : ∃ R0, Pfor.refRead b = R0 := ⟨_, rfl⟩
  have Hn := Lib.hid (fun (h : R0 = none) => Pfor.takeBlock_ref_none (hR0.trans h))
  have Hs := Lib.hid (fun (m : List UInt64) (at_ : Nat) (h : R0 = some (m, at_)) (hat : at_ ≤ b.length) (hm : Pfor.Good m) => Pfor.takeBlock_ref_some (hR0.trans h) hat hm)
  unfold Pfor.refRead at hR0
  have Hbad := Lib.hid hR0
  clear hR0
  have C0 := Lib.hid (HC.out 32 0 (by omega) (by omega) _ (by rw [hg]; exact hr0) (by rw [hg]; exact hbel0))
  rw [hg] at C0
  go_enter Try.func78, Try.ntmps78
  go_wp2_with fail
  refine C0.out.mono ?_
  clear C0
  rintro e w1 ⟨rfl, hr, hg1⟩
  rw [← hg] at hr hg1 hbel0
  have hbel1 : Below g w w1 := hbel0.grown hg1 (by simp [hg]) (fun k hk => by cases hk; exact Nat.le_refl _)
  have ha1 := (Hat.out 32 0 (by omega)).2
  have hv1 := Hle.out 32 0
  rw [hl] at ha1
  have hgw : g ≤ w.heap.size := by omega
  rw [← hg]
  have Hg := Lib.hid hg
  clear hg1 hbel0 hr0 hg
  obtain ⟨⟨x1, a1, bad1⟩, hR1⟩ : ∃ R, R = Pfor.rd 32 b 0 := ⟨_, rfl⟩
  rw [← hR1] at hr ha1 hv1 Hbad ⊢
  simp only at hr ha1 hv1 Hbad ⊢
  have HR1 := Lib.hid hR1; clear hR1
  cases bad1 with
  | true =>
    have Ht := Lib.hid (Hn.out (by rw [← Hbad.out]; simp))
    have D0 := Lib.hid (HNb.out a1 w1 hr)
    have D1 := Lib.hid (HCb.out 64 a1 (by omega) w1 hr)
    have D2 := Lib.hid (HCb.out 32 a1 (by omega) w1 hr)
    have hcb := hr.bad'
    clear HC HN HCb HNb Hat Hle Hbad Hn Hs
    go_wp2_with fail
    refine D0.out.mono ?_
    rintro e wx ⟨rfl, rfl⟩
    clear D0
    go_wp2_with fail
    refine D1.out.mono ?_
    rintro e wx ⟨rfl, rfl⟩
    clear D1
    go_wp2_with fail
    refine D2.out.mono ?_
    rintro e wx ⟨rfl, rfl⟩
    clear D2
    go_wp2_with fail
    go_quiet (fail)
    go_wp2
    go_ret3
    rw [Ht.out]
    exact ⟨none, 0, rfl, nown_none _ _, below_drewN (by have h := hbel1; rw [Hg.out] at h; exact h) nq⟩
  | false =>
  have C1 := Lib.hid (HN.out a1 ha1 w1 hr hbel1)
  go_wp2_with fail
  refine C1.out.mono ?_
  clear C1 hr
  rintro e w2 ⟨rfl, hr, hg2⟩
  have hbel2 : Below g w w2 := hbel1.grown hg2 (Nat.le_trans hgw hbel1.size) (fun k hk => by cases hk; exact Nat.le_refl _)
  have ha2 := (Hat.out 18446744073709551615 a1 (by omega)).2
  have hv2 := Hle.out 18446744073709551615 a1
  rw [hl] at ha2
  clear hg2
  obtain ⟨⟨x2, a2, bad2⟩, hR2⟩ : ∃ R, R = Pfor.rd 18446744073709551615 b a1 := ⟨_, rfl⟩
  rw [← hR2] at hr ha2 hv2 Hbad ⊢
  simp only [Bool.false_eq_true, if_false] at hr ha2 hv2 Hbad ⊢
  have HR2 := Lib.hid hR2; clear hR2
  cases bad2 with
  | true =>
    have Ht := Lib.hid (Hn.out (by rw [← Hbad.out]; simp))
    have D0 := Lib.hid (HCb.out 64 a2 (by omega) w2 hr)
    have D1 := Lib.hid (HCb.out 32 a2 (by omega) w2 hr)
    have hcb := hr.bad'
    clear HC HN HCb HNb Hat Hle Hbad Hn Hs
    go_wp2_with fail
    refine D0.out.mono ?_
    rintro e wx ⟨rfl, rfl⟩
    clear D0
    go_wp2_with fail
    refine D1.out.mono ?_
    rintro e wx ⟨rfl, rfl⟩
    clear D1
    go_wp2_with fail
    go_quiet (fail)
    go_wp2
    go_ret3
    rw [Ht.out]
    exact ⟨none, 0, rfl, nown_none _ _, below_drewN (by have h := hbel2; rw [Hg.out] at h; exact h) nq⟩
  | false =>
  have C2 := Lib.hid (HC.out 64 a2 (by omega) ha2 w2 hr hbel2)
  go_wp2_with fail
  refine C2.out.mono ?_
  clear C2 hr
  rintro e w3 ⟨rfl, hr, hg3⟩
  have hbel3 : Below g w w3 := hbel2.grown hg3 (Nat.le_trans hgw hbel2.size) (fun k hk => by cases hk; exact Nat.le_refl _)
  have ha3 := (Hat.out 64 a2 (by omega)).2
  have hv3 := Hle.out 64 a2
  rw [hl] at ha3
  clear hg3
  obtain ⟨⟨x3, a3, bad3⟩, hR3⟩ : ∃ R, R = Pfor.rd 64 b a2 := ⟨_, rfl⟩
  rw [← hR3] at hr ha3 hv3 Hbad ⊢
  simp only [Bool.false_eq_true, if_false] at hr ha3 hv3 Hbad ⊢
  have HR3 := Lib.hid hR3; clear hR3
  cases bad3 with
  | true =>
    have Ht := Lib.hid (Hn.out (by rw [← Hbad.out]; simp))
    have D0 := Lib.hid (HCb.out 32 a3 (by omega) w3 hr)
    have hcb := hr.bad'
    clear HC HN HCb HNb Hat Hle Hbad Hn Hs
    go_wp2_with fail
    refine D0.out.mono ?_
    rintro e wx ⟨rfl, rfl⟩
    clear D0
    go_wp2_with fail
    go_quiet (fail)
    go_wp2
    go_ret3
    rw [Ht.out]
    exact ⟨none, 0, rfl, nown_none _ _, below_drewN (by have h := hbel3; rw [Hg.out] at h; exact h) nq⟩
  | false =>
  have C3 := Lib.hid (HC.out 32 a3 (by omega) ha3 w3 hr hbel3)
  go_wp2_with fail
  refine C3.out.mono ?_
  clear C3 hr
  rintro e w4 ⟨rfl, hr, hg4⟩
  have hbel4 : Below g w w4 := hbel3.grown hg4 (Nat.le_trans hgw hbel3.size) (fun k hk => by cases hk; exact Nat.le_refl _)
  have ha4 := (Hat.out 32 a3 (by omega)).2
  have hv4 := Hle.out 32 a3
  rw [hl] at ha4
  clear hg4
  obtain ⟨⟨x4, a4, bad4⟩, hR4⟩ : ∃ R, R = Pfor.rd 32 b a3 := ⟨_, rfl⟩
  rw [← hR4] at hr ha4 hv4 Hbad ⊢
  simp only [Bool.false_eq_true, if_false] at hr ha4 hv4 Hbad ⊢
  have HR4 := Lib.hid hR4; clear hR4
  cases bad4 with
  | true =>
    have Ht := Lib.hid (Hn.out (by rw [← Hbad.out]; simp))
    have hcb := hr.bad'
    clear HC HN HCb HNb Hat Hle Hbad Hn Hs
    go_wp2_with fail
    go_quiet (fail)
    go_wp2
    go_ret3
    rw [Ht.out]
    exact ⟨none, 0, rfl, nown_none _ _, below_drewN (by have h := hbel4; rw [Hg.out] at h; exact h) nq⟩
  | false =>
  simp only [Bool.false_eq_true, if_false] at Hbad
  have hcb := hr.bad'
  have hca := hr.at'
  have hpv : x1 * x3 ≤ 32 * 64 := Nat.mul_le_mul hv1 hv3
  have HS := Lib.hid (fun w' => refSize_any x1 x3 w' (by omega))
  have hS : Bits.size x1 x3 ≤ 256 := by unfold Bits.size; omega
  unfold Pfor.refBody at Hbad
  by_cases hz : x1 = 0
  · have Ht := Lib.hid (Hn.out (by rw [← Hbad.out, if_pos (.inl hz)]))
    subst hz
    clear HC HN HCb HNb Hat Hle Hbad HS Hn Hs
    go_wp2_with fail
    go_quiet (fail)
    go_wp2
    go_ret3
    rw [Ht.out]
    exact ⟨none, 0, rfl, nown_none _ _, below_drewN (by have h := hbel4; rw [Hg.out] at h; exact h) nq⟩
  have hz' : ¬ ((x1 : Int) = 0) := by omega
  have hsub : IntKind.i64.wrap ((n : Int) - (a4 : Int)) = (n : Int) - (a4 : Int) := by rw [IntKind.wrap_i64]; omega
  by_cases hfit : n < a4 + Bits.size x1 x3
  · have Ht := Lib.hid (Hn.out (by rw [← Hbad.out, if_pos (.inr (by rw [hl]; exact hfit))]))
    have hf' : (n : Int) - (a4 : Int) < (Bits.size x1 x3 : Int) := by omega
    clear HC HN HCb HNb Hat Hle Hbad hfit Hn Hs
    generalize Bits.size x1 x3 = S at *
    go_wp2_with fail
    go_quiet ((go_at_call 40; exact quiet_left (HS.out _)))
    go_wp2
    go_ret3
    rw [Ht.out]
    exact ⟨none, 0, rfl, nown_none _ _, below_drewN (by have h := hbel4; rw [Hg.out] at h; exact h) nq⟩
  generalize Bits.size x1 x3 = S at *
  rw [if_neg (by rw [hl]; omega)] at Hbad
  have hf' : ¬ ((n : Int) - (a4 : Int) < (S : Int)) := by omega
  have hzb : ((x1 : Int) == 0) = false := by rw [beq_eq_false_iff_ne]; exact hz'
  have Hx1 : Hid (1 ≤ x1) := Lib.hid (by omega)
  have hsl := run_cut_lh A n cap a4 (a4 + S) (by omega) (by omega)
  rw [show a4 + S - a4 = S from by omega, show ((a4 + S : Nat) : Int) = (a4 : Int) + (S : Int) from by omega] at hsl
  have htl : ((b.drop a4).take (S)).length = S := by rw [List.length_take, List.length_drop, hl]; omega
  have HU := Lib.hid (fun (w' : World) (hbel : Below g w w') => refUnpack_any (cutAt A cap a4) (S) (cap - a4) g (x1 : Int) (x3 : Int) ((b.drop a4).take (S)) w' htl
    ((((by rw [← Hg.out] at hb; exact hb.below hbel : Bytes w' g A b)).cut (k := a4) (cap := cap) (by omega) (by omega)).take _) (Nat.le_trans hgw hbel.size) (by omega))
  have hgS : a4 + S ≤ n := by omega
  have hbb : Hid (Bytes w g A b) := Lib.hid (by rw [← Hg.out] at hb; exact hb)
  clear hpv hfit hz hb htl
  go_wp2_with fail
  go_quiet ((go_at_call 40; exact quiet_left (HS.out _)))
  obtain ⟨w5, hw5, hr5, hbel5⟩ : ∃ w5, w5 = w4.drewN nq ∧ Rd w5 g A n cap a4 false ∧ Below g w w5 := ⟨_, rfl, ⟨hr.b, hr.at', hr.bad', hr.f1, hr.f2, hr.lt⟩, below_drewN hbel4 nq⟩
  rw [← hw5]
  clear hw5 hcb hca hr hbel4 hsub
  have hca := hr5.at'
  have hsum : IntKind.i64.wrap ((a4 : Int) + (S : Int)) = (a4 : Int) + (S : Int) := by rw [IntKind.wrap_i64]; omega
  go_wp2_with fail
  go_quiet ((go_at_call 40; exact quiet_left (HS.out _)))
  obtain ⟨w6, hw6, hr6, hbel6⟩ : ∃ w6, w6 = w5.drewN nq ∧ Rd w6 g A n cap a4 false ∧ Below g w w6 := ⟨_, rfl, ⟨hr5.b, hr5.at', hr5.bad', hr5.f1, hr5.f2, hr5.lt⟩, below_drewN hbel5 nq⟩
  rw [← hw6]
  clear hw6 hca hr5 hbel5 hsum HS
  have hca := hr6.at'
  have CU := HU.out w6 hbel6
  unfold UnpackPost at CU
  rcases Bits.unpack_cases ((b.drop a4).take (S)) (x1 : Int) (x3 : Int) with ⟨L0, hu⟩ | ⟨e, hu, he⟩
  · obtain ⟨hV64, hL0⟩ := Bits.unpack_le64 hu
    rw [Int.toNat_natCast] at hL0
    rw [hu] at CU Hbad
    simp only [ne_eq, not_true, if_false, hL0] at CU Hbad
    replace CU := Lib.hid CU
    clear HU hu hV64 hL0
    generalize cutAt A cap a4 = A5 at *
    go_wp2_with fail
    refine CU.out.mono ?_
    rintro e w7 ⟨A7, c7, rfl, ho7, hb7⟩
    clear CU hca
    have hx1 := Hx1.out
    obtain ⟨g7, rfl, _⟩ := ho7.at_ (by omega)
    have hr7 := hr6.below hb7
    have hbel7 := hbel6.trans (hb7.mono (Nat.le_trans hgw hbel6.size))
    have ho7' := ho7.low (b' := g + 1) hr6.lt
    have hr8 := hr7.setAt (a4 + S)
    rw [show ((a4 + S : Nat) : Int) = (a4 : Int) + (S : Int) from by omega] at hr8
    have hgr8 := Lib.grownBy_setCell w7 g 1 (.int .i64 ((a4 : Int) + (S : Int)))
    have hg7 : g7 ≠ g := by have := ho7'.block.1; omega
    have ho8 := ho7'.kept hgr8 (.inr (fun h => hg7 (by simpa [blk] using h)))
    have hbel8 : Below g w (w7.setCell ⟨g, 1, none⟩ (.int .i64 ((a4 : Int) + (S : Int)))) := hbel7.setCell (p := ⟨g, 1, none⟩) (Nat.le_refl _) _
    have d1 := hr7.at'
    have d2 := hr7.f1
    have Hr8 := Lib.hid hr8
    have Ho8 := Lib.hid ho8
    have Hb8 := Lib.hid hbel8
    clear hr8 ho8 hbel8 hgr8 ho7 ho7' hr7 hr6 hbel6 hb7 hbel7
    obtain ⟨R, hR⟩ : ∃ R, Pfor.refAdd b x1 x3 x4 L0 (a4 + S) = R := ⟨_, rfl⟩
    rw [hR] at Hbad
    have HR := Lib.hid hR; clear hR
    go_wp2
    go_loopw [9] (fun k wr => ∃ (j at_ : Nat) (ds : List UInt64), k = .int .i64 j ∧ j ≤ 32 ∧ at_ ≤ n ∧ Pfor.refAdd b x1 x3 j ds at_ = R ∧ NOwn wr (g + 1) (some ⟨g7, 0, none⟩) x1 c7 ds ∧ Rd wr g A n cap at_ false ∧ Below g w wr) (fun k _ => (intOf k).toNat)
    case atStart => exact ⟨x4, a4 + S, L0, rfl, hv4, hgS, HR.out, Ho8.out, Hr8.out, Hb8.out⟩
    case round =>
      clear d1 d2 Hr8 Ho8 Hb8 HR hsl
      obtain ⟨j, at_, ds, rfl, hj, hat, hRj, ho, hr, hbel⟩ := hrel
      have hdl := ho.len
      have hgwr : g ≤ wr.heap.size := Nat.le_trans hgw hbel.size
      by_cases hj0 : j = 0
      · subst hj0
        rw [Pfor.refAdd] at hRj
        have hR0 := Hbad.out
        rw [← hRj, Option.map_some] at hR0
        simp only at hR0
        have hpl : (Pfor.plus x2 ds).length = x1 := by rw [Pfor.plus_length, hdl]
        have hgood : Pfor.Good (Pfor.plus x2 ds) := by unfold Pfor.Good; rw [hpl]; exact ⟨hx1, hv1⟩
        have hT := Hs.out _ _ hR0.symm (by rw [hl]; exact hat) hgood
        have HT := Lib.hid hT
        have Hdl := Lib.hid hdl
        have Hpl := Lib.hid hpl
        have Hgood := Lib.hid hgood
        clear hT hR0 hRj hgood hdl hpl HC HN HCb HNb Hat Hle Hbad Hn Hs
        go_wp2
        go_loopw [15] (fun i wr => ∃ (k : Nat), k ≤ x1 ∧ i = .int .i64 k ∧ NOwn wr (g + 1) (some ⟨g7, 0, none⟩) x1 c7 ((Pfor.plus x2 ds).take k ++ ds.drop k) ∧ Rd wr g A n cap at_ false ∧ Below g w wr) (fun i _ => x1 - (intOf i).toNat)
        case atStart => exact ⟨0, by omega, rfl, by simpa using ho, hr, hbel⟩
        case round =>
          clear ho hr hbel hgwr
          obtain ⟨k, hk, rfl, ho, hr, hbel⟩ := hrel
          have hgwr : g ≤ wr.heap.size := Nat.le_trans hgw hbel.size
          by_cases hlt : k < x1
          · have hk' : k < ds.length := by have := Hdl.out; omega
            obtain ⟨hg1, hg2⟩ := turn_get Hdl.out Hpl.out hlt
            have hold := ho.cell hg1
            rw [hg2] at hold
            simp only [uval] at hold
            have hfree := ho.free k
            have hst := ho.store k ((Pfor.plus x2 ds)[k]'(by rw [Hpl.out]; exact hlt))
            rw [turn_set Hdl.out Hpl.out hlt, plus_get hk'] at hst
            obtain ⟨q, hq, hq0, hq1⟩ : ∃ q : Int, q = (ds[k].toNat : Int) ∧ 0 ≤ q ∧ q ≤ 18446744073709551615 := ⟨_, rfl, by omega, by have := Bits.u64_lt ds[k]; omega⟩
            rw [wrap_add hq rfl] at hst
            rw [← hq] at hold
            have Hst := Lib.hid hst
            have Hbl := Lib.hid (hbel.setCell (p := ⟨g7, k, none⟩) (show g ≤ g7 by have := ho.block.1; omega) (.int .u64 (IntKind.u64.wrap (q + (x2 : Int)))))
            have Hrl := Lib.hid (hr.far (i := k) hg7 (.int .u64 (IntKind.u64.wrap (q + (x2 : Int)))))
            clear hst hq hg1 hg2 ho hr hbel
            go_wp2
            go_roundw
            case rel => exact ⟨k + 1, by omega, by go_num, Hst.out, Hrl.out, Hbl.out⟩
            case measure => simp [intOf]; omega
          · obtain rfl : k = x1 := by omega
            rw [List.take_of_length_le (by rw [Hpl.out]; exact Nat.le_refl _), List.drop_of_length_le (by rw [Hdl.out]; exact Nat.le_refl _), List.append_nil] at ho
            generalize Pfor.plus x2 ds = M at *
            have hca := hr.at'
            have HBk := Lib.hid (fun (w' : World) (hrow : Nums w' w'.heap.size (some ⟨g7, 0, none⟩) M) => refBlock_any (some ⟨g7, 0, none⟩) k c7 _ M w' Hpl.out hx1 hv1 hrow (Nat.le_refl _))
            have hslh := run_cut_h A n cap at_ (by omega)
            have hab := hbb.out.below hbel
            have hats : (b.take at_).length = at_ := by rw [List.length_take, hl]; omega
            have HSm := Lib.hid (fun (g9 c9 : Nat) (w' : World) (h1 : Bytes w' w'.heap.size (some ⟨g9, 0, none⟩) (Pfor.block M)) (h2 : Bytes w' g A b) => same_any (some ⟨g9, 0, none⟩) A (Pfor.block M).length at_ c9 cap _ _ (Pfor.block M) (b.take at_) w' rfl hats h1 (h2.take at_))
            have hrow := ho.row
            clear hats
            go_wp2_with fail
            go_region_held3 (fun w' => w'.cell? ⟨g, 1, none⟩ = some (.int .i64 (at_ : Int))) (first | exact hca | exact (hr.below (below_of_drew hb9)).at') (first | (go_at_call 72; refine (HBk.out _ (by exact hrow)).mono ?_; rintro e w9 ⟨g9, c9, rfl, ho9, hb9⟩) | (go_at_call 13; refine (HSm.out g9 c9 _ (by exact ho9.bytes) (by exact hab.below ((below_of_drew hb9).mono hgwr))).mono ?_; rintro e w10 ⟨rfl, rfl⟩))
            have hbel9 := below_of_drew hb9
            have hr9 := hr.below hbel9
            have ho10 := ho.below hbel9
            have hb10 := hbel.trans (hbel9.mono hgwr)
            clear hca hslh hab hrow HBk HSm ho9 hb9 hr ho hbel
            by_cases he : Pfor.block M = b.take at_
            · have hbeq : (Pfor.block M == b.take at_) = true := by rw [he]; exact beq_self_eq_true _
              have hT := HT.out
              rw [if_pos he] at hT
              have Ht := Lib.hid hT
              rw [hbeq]
              have hca := hr9.at'
              clear hT HT he hbeq
              go_wp2_with fail
              go_quiet (fail)
              go_wp2
              go_ret3
              rw [Ht.out]
              refine ⟨some ⟨g7, 0, none⟩, c7, ?_, ?_, ?_⟩
              · rw [Hpl.out]; rfl
              · rw [Hpl.out, ← Hg.out]; exact ho10.low (b' := g) (by omega)
              · rw [← Hg.out]; exact below_drewN hb10 nq
            · have hbeq : (Pfor.block M == b.take at_) = false := by rw [beq_eq_false_iff_ne]; exact he
              have hT := HT.out
              rw [if_neg he] at hT
              have Ht := Lib.hid hT
              rw [hbeq]
              clear hT HT he hbeq
              go_wp2
              go_ret3
              rw [Ht.out]
              exact ⟨none, 0, rfl, nown_none _ _, by rw [← Hg.out]; exact hb10⟩
      · obtain ⟨i, rfl⟩ : ∃ i, j = i + 1 := ⟨j - 1, by omega⟩
        rw [Pfor.refAdd] at hRj
        have hne : ∀ c : Nat, blk (some (⟨g7, 0, none⟩ : Addr)) ≠ some g := fun _ h => hg7 (by simpa [blk] using h)
        have C1 := Lib.hid (HC.out 31 at_ (by omega) hat wr hr hbel)
        clear hr
        go_wp2_with fail
        refine C1.out.mono ?_
        clear C1
        rintro e w1' ⟨rfl, hr, hg1⟩
        have ho1 := ho.kept hg1 (.inr (hne 0))
        have hbel1' : Below g w w1' := hbel.grown hg1 hgwr (fun k hk => by cases hk; exact Nat.le_refl _)
        have hai := (Hat.out 31 at_ hat).2
        rw [hl] at hai
        have hvi := Hle.out 31 at_
        clear hg1 ho
        obtain ⟨⟨i0, ai, badi⟩, hRi⟩ : ∃ R, R = Pfor.rd 31 b at_ := ⟨_, rfl⟩
        rw [← hRi] at hr hai hvi hRj ⊢
        simp only at hr hai hvi hRj ⊢
        clear hRi
        cases badi with
        | true =>
          have Ht := Lib.hid (Hn.out (by rw [← Hbad.out, ← hRj]; simp))
          have D1 := Lib.hid (HNb.out ai w1' hr)
          have hcb := hr.bad'
          clear HC HN HCb HNb Hat Hle Hbad Hn Hs hRj
          go_wp2_with fail
          refine D1.out.mono ?_
          rintro e wx ⟨rfl, rfl⟩
          clear D1
          rw [Hg.out] at hbel1'
          go_wp2
          go_ret3
          rw [Ht.out]
          exact ⟨none, 0, rfl, nown_none _ _, hbel1'⟩
        | false =>
          simp only [Bool.false_eq_true, if_false] at hRj
          have C2 := Lib.hid (HN.out ai hai w1' hr hbel1')
          clear hr
          go_wp2_with fail
          refine C2.out.mono ?_
          clear C2
          rintro e w2' ⟨rfl, hr, hg2⟩
          have ho2 := ho1.kept hg2 (.inr (hne 0))
          have hbel2' : Below g w w2' := hbel1'.grown hg2 (Nat.le_trans hgw hbel1'.size) (fun k hk => by cases hk; exact Nat.le_refl _)
          have hay := (Hat.out 18446744073709551615 ai hai).2
          rw [hl] at hay
          have hvy := Hle.out 18446744073709551615 ai
          clear hg2 ho1
          obtain ⟨⟨y, ay, bady⟩, hRy⟩ : ∃ R, R = Pfor.rd 18446744073709551615 b ai := ⟨_, rfl⟩
          rw [← hRy] at hr hay hvy hRj ⊢
          simp only at hr hay hvy hRj ⊢
          clear hRy
          have hcb := hr.bad'
          cases bady with
          | true =>
            have Ht := Lib.hid (Hn.out (by rw [← Hbad.out, ← hRj]; simp))
            clear HC HN HCb HNb Hat Hle Hbad Hn Hs hRj
            rw [Hg.out] at hbel2'
            go_wp2
            go_ret3
            rw [Ht.out]
            exact ⟨none, 0, rfl, nown_none _ _, hbel2'⟩
          | false =>
            simp only [Bool.false_eq_true, false_or] at hRj
            by_cases hi : x1 ≤ i0
            · rw [if_pos (.inl hi)] at hRj
              have Ht := Lib.hid (Hn.out (by rw [← Hbad.out, ← hRj]; simp))
              have hi' : (x1 : Int) ≤ (i0 : Int) := by omega
              clear HC HN HCb HNb Hat Hle Hbad Hn Hs hRj
              rw [Hg.out] at hbel2'
              go_wp2
              go_ret3
              rw [Ht.out]
              exact ⟨none, 0, rfl, nown_none _ _, hbel2'⟩
            · have hi' : ¬ ((x1 : Int) ≤ (i0 : Int)) := by omega
              by_cases h64 : x3 = 64
              · rw [if_pos (.inr h64)] at hRj
                have Ht := Lib.hid (Hn.out (by rw [← Hbad.out, ← hRj]; simp))
                have h64' : (x3 : Int) = 64 := by omega
                clear HC HN HCb HNb Hat Hle Hbad Hn Hs hRj h64
                rw [Hg.out] at hbel2'
                go_wp2
                go_ret3
                rw [Ht.out]
                exact ⟨none, 0, rfl, nown_none _ _, hbel2'⟩
              · rw [if_neg (by omega)] at hRj
                have h64' : ¬ ((x3 : Int) = 64) := by omega
                have hi0 : i0 < ds.length := by omega
                have hcd := ho2.cell hi0
                simp only [uval] at hcd
                have hfree := ho2.free i0
                have hgd : (ds.getD i0 0).toNat = ds[i0].toNat := by simp [List.getD_eq_getElem?_getD, List.getElem?_eq_getElem hi0]
                rw [hgd] at hRj
                have hd64 := Bits.u64_lt ds[i0]
                generalize ds[i0].toNat = dn at *
                have hst := ho2.store i0 (UInt64.ofNat (dn + y * 2 ^ x3 % 18446744073709551616))
                obtain ⟨p, hp⟩ : ∃ p : Int, p = (dn : Int) := ⟨_, rfl⟩
                obtain ⟨z, hz, hz0, hz1⟩ : ∃ z : Int, z = (y : Int) ∧ 0 ≤ z ∧ z ≤ 18446744073709551615 := ⟨_, rfl, by omega, by omega⟩
                rw [wrap_add hp (show IntKind.u64.wrap (z * 2 ^ x3) = _ from by rw [hz]; exact wrap_shl y x3)] at hst
                rw [← hp] at hcd
                rw [← hz]
                have Hst := Lib.hid hst
                have HRj := Lib.hid hRj
                have Hbl := Lib.hid (hbel2'.setCell (p := ⟨g7, i0, none⟩) (show g ≤ g7 by have := ho2.block.1; omega) (.int .u64 (IntKind.u64.wrap (p + IntKind.u64.wrap (z * 2 ^ x3)))))
                have Hrl := Lib.hid (hr.far (i := i0) hg7 (.int .u64 (IntKind.u64.wrap (p + IntKind.u64.wrap (z * 2 ^ x3)))))
                have hi1 : i0 < x1 := by omega
                clear hst hRj hp hz hgd ho2 hi hi0 hd64 h64
                go_wp2_with fail
                go_region
                go_wp2
                go_roundw
                case rel => exact ⟨i, ay, _, by go_num, by omega, hay, HRj.out, Hst.out, Hrl.out.drew, Hbl.out.drew⟩
                case measure => simp [intOf]
  · have Ht := Lib.hid (Hn.out (by rw [← Hbad.out, hu, if_pos (by simpa using he)]))
    rw [hu] at CU
    simp only [List.length_nil] at CU
    have he' : ¬ ((e : Int) = 0) := by omega
    replace CU := Lib.hid CU
    clear HC HN HCb HNb Hat Hle Hbad Hn Hs HU hu he
    generalize cutAt A cap a4 = A5 at *
    go_wp2_with fail
    refine CU.out.mono ?_
    rintro e' w7 ⟨A7, c7, rfl, ho7, hb7⟩
    clear CU
    have hbel7 := hbel6.trans (hb7.mono (Nat.le_trans hgw hbel6.size))
    rw [Hg.out] at hbel7
    go_wp2
    go_ret3
    rw [Ht.out]
    exact ⟨none, 0, rfl, nown_none _ _, hbel7⟩
end Go.Proofs.Ytgjopffdgdimlaa
