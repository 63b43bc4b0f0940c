/- What a byte slice holds in a world, and how that is kept: small words for the walks of this seat. -/
import Derived.Test.YtggelnlbdpdegaaDoorProg
import Derived.Test.YtggelnlbdpdegaaDoorPlain
import Derived.WalkKit
import Derived.Deep.AppendLies
import Derived.Deep.Draws
import Derived.Maps.AppendAt
import Derived.Lib.Hide
namespace Go.Proofs.YtggelnlbdpdegaaDoor
open Go.RowKit
set_option maxRecDepth 100000

/-- a byte as a value -/
def bval (b : UInt8) : Value := .int .u8 (b.toNat : Int)
/-- bytes as cells -/
def bvals (l : List UInt8) : List Value := l.map bval
theorem bvals_length (l : List UInt8) : (bvals l).length = l.length := by simp [bvals]
theorem bvals_append (a b : List UInt8) : bvals (a ++ b) = bvals a ++ bvals b := by simp [bvals]
theorem bvals_one (l : List UInt8) : ∀ u ∈ bvals l, u.oneCell' = true := by
  intro u hu
  obtain ⟨b, _, rfl⟩ := List.mem_map.1 hu
  rfl
theorem addr_add_add (a : Addr) (i j : Nat) : (a.add i).add j = a.add (i + j) := by
  unfold Addr.add
  by_cases hi : i = 0 <;> by_cases hj : j = 0 <;> simp [hi, hj, Nat.add_assoc]
theorem addr_add_block (a : Addr) (i : Nat) : (a.add i).block = a.block := by unfold Addr.add; split <;> rfl

/-- A slice with address A holds the bytes l, in a block below B; of an empty one nothing is asked. -/
def Bytes (w : World) (B : Nat) (A : Option Addr) (l : List UInt8) : Prop :=
  l ≠ [] → ∃ ad, A = some ad ∧ ad.block < B ∧ ∀ i, (h : i < l.length) → w.cell? (ad.add i) = some (bval l[i])

namespace Bytes
variable {w w' : World} {B B' : Nat} {A : Option Addr} {l : List UInt8}
theorem nil (w : World) (B : Nat) (A : Option Addr) : Bytes w B A [] := fun h => absurd rfl h
theorem get (h : Bytes w B A l) {k : Nat} (hk : k < l.length) : ∃ ad, A = some ad ∧ ad.block < B ∧ w.cell? (ad.add k) = some (.int .u8 (l[k].toNat : Int)) := by
  obtain ⟨ad, ha, hb, hc⟩ := h (fun e => by subst e; simp at hk)
  exact ⟨ad, ha, hb, hc k hk⟩
theorem keep (h : Bytes w B A l) (hk : ∀ p : Addr, p.block < B → w'.cell? p = w.cell? p) : Bytes w' B A l := fun hn => by
  obtain ⟨ad, ha, hb, hc⟩ := h hn
  exact ⟨ad, ha, hb, fun i hi => (hk _ (by rw [addr_add_block]; exact hb)).trans (hc i hi)⟩
theorem wide (h : Bytes w B A l) (hB : B ≤ B') : Bytes w B' A l := fun hn => by
  obtain ⟨ad, ha, hb, hc⟩ := h hn
  exact ⟨ad, ha, Nat.lt_of_lt_of_le hb hB, hc⟩
theorem below (h : Bytes w B A l) (hb : Below B w w') : Bytes w' B A l := h.keep fun _ hp => hb.cell hp
theorem news {ad : Addr} (h : Bytes w B (some ad) l) : ∀ j u, (bvals l)[j]? = some u → w.cell? (ad.add j) = some u := by
  intro j u hu
  have hj : j < l.length := by
    rcases Nat.lt_or_ge j l.length with hlt | hge
    · exact hlt
    · rw [List.getElem?_eq_none (by rw [bvals_length]; exact hge)] at hu; cases hu
  obtain ⟨ad', ha, _, hc⟩ := h (fun e => by subst e; simp at hj)
  cases ha
  rw [hc j hj]
  simp [bvals, List.getElem?_eq_getElem hj] at hu
  rw [← hu]
theorem take (h : Bytes w B A l) (k : Nat) : Bytes w B A (l.take k) := fun hn => by
  obtain ⟨ad, ha, hb, hc⟩ := h (fun e => hn (by subst e; simp))
  exact ⟨ad, ha, hb, fun i hi => by rw [List.getElem_take]; exact hc i (by simp at hi; omega)⟩
theorem drop (h : Bytes w B A l) {k cap : Nat} (hk : k ≤ l.length) (hc : l.length ≤ cap) :
    Bytes w B (if cap = k then A else A.map (·.add k)) (l.drop k) := fun hn => by
  have hlt : k < l.length := by
    rcases Nat.lt_or_ge k l.length with hlt | hge
    · exact hlt
    · exact absurd (List.drop_eq_nil_of_le hge) hn
  obtain ⟨ad, rfl, hb, hcell⟩ := h (fun e => by subst e; simp at hlt)
  rw [if_neg (by omega)]
  refine ⟨ad.add k, rfl, by rw [addr_add_block]; exact hb, fun i hi => ?_⟩
  rw [addr_add_add, List.getElem_drop]
  exact hcell _ _
theorem of_own {base e n c : Nat} (h : w.ownsRow base e 1 (.slice A n c) n (bvals l)) : Bytes w w.heap.size A l := fun hn => by
  have hl : l.length = n := by have := h.1; rw [bvals_length] at this; omega
  have h0 : 0 < n := by
    rcases Nat.eq_zero_or_pos n with h0 | h0
    · exact absurd (List.eq_nil_of_length_eq_zero (by omega)) hn
    · exact h0
  obtain ⟨g, cap, hv, _, hlt⟩ := h.form h0
  have hA : A = some ⟨g, 0, none⟩ := by injection hv
  subst hA
  exact ⟨_, rfl, hlt, fun i hi => h.cells (g := g) rfl i _ (by simp [bvals, List.getElem?_eq_getElem hi])⟩
end Bytes
end Go.Proofs.YtggelnlbdpdegaaDoor
