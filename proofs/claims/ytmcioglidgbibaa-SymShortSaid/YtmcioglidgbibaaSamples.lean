/- Slices of byte slices with what each may hold: in a world, and those that come in. -/
import Derived.Test.YtmcioglidgbibaaDraws
import Derived.Test.YtmcioglidgbibaaLawIn
import Derived.Deep.Slices
namespace Go.Proofs.Ytmcioglidgbibaa
open Go.ChangeShapes Go.WideShapes Go.ChangeAt Go.RowKit
set_option maxRecDepth 100000

/-- A slice of byte slices with address A holds the texts ls, each within its room, in blocks below B. -/
def Samples (w : World) (B : Nat) (A : Option Addr) (ls : List (List UInt8)) : Prop :=
  ls ≠ [] → ∃ ad, A = some ad ∧ ad.block < B ∧ ∀ i, (h : i < ls.length) → ∃ Ai ci, ls[i].length ≤ ci ∧ w.cell? (ad.add i) = some (.slice Ai ls[i].length ci) ∧ Bytes w B Ai ls[i]
namespace Samples
variable {w w' : World} {B B' : Nat} {A : Option Addr} {ls : List (List UInt8)}
theorem nil (w : World) (B : Nat) (A : Option Addr) : Samples w B A [] := fun h => absurd rfl h
theorem keep (h : Samples w B A ls) (hk : ∀ p : Addr, p.block < B → w'.cell? p = w.cell? p) : Samples w' B A ls := fun hn => by
  obtain ⟨ad, ha, hb, hc⟩ := h hn
  refine ⟨ad, ha, hb, fun i hi => ?_⟩
  obtain ⟨Ai, ci, h0, h1, h2⟩ := hc i hi
  exact ⟨Ai, ci, h0, (hk _ (by rw [addr_add_block]; exact hb)).trans h1, h2.keep hk⟩
theorem below (h : Samples w B A ls) (hb : Below B w w') : Samples w' B A ls := h.keep fun _ hp => hb.cell hp
theorem wide (h : Samples w B A ls) (hB : B ≤ B') : Samples w B' A ls := fun hn => by
  obtain ⟨ad, ha, hb, hc⟩ := h hn
  refine ⟨ad, ha, Nat.lt_of_lt_of_le hb hB, fun i hi => ?_⟩
  obtain ⟨Ai, ci, h0, h1, h2⟩ := hc i hi
  exact ⟨Ai, ci, h0, h1, h2.wide hB⟩
theorem at_ (h : Samples w B A ls) {k : Nat} (hk : k < ls.length) : ∃ ad Ai ci, A = some ad ∧ ad.block < B ∧ ls[k].length ≤ ci ∧ w.cell? (ad.add k) = some (.slice Ai ls[k].length ci) ∧ Bytes w B Ai ls[k] := by
  obtain ⟨ad, ha, hb, hc⟩ := h (fun e => by subst e; simp at hk)
  obtain ⟨Ai, ci, h0, h1, h2⟩ := hc k hk
  exact ⟨ad, Ai, ci, ha, hb, h0, h1, h2⟩
end Samples

theorem cellsOfBytes : Try.prog.cellsOf 24 = 1 := by kernel_rfl
theorem bytesOfBytes : Try.prog.bytesOf 24 = 24 := by kernel_rfl

/-- a cell that reads as a byte slice -/
theorem open_sample {H : Type} {enc : TypeId × Value → H} {W : World} {fuel : Nat} {cs : List Value} {x : DataW H × List MemPlace}
    (hf : DataW.trod enc Try.prog W 0 (fun _ => true) true fuel 24 cs = some x) :
    ∃ (a : Option Addr) (cap : Nat) (l : List UInt8), cs = [.slice a l.length cap] ∧ l.length ≤ cap ∧ Bytes W W.heap.size a l ∧ (l = [] ∨ ∃ es sp, x.1 = .slice es sp ∧ es.length = l.length) := by
  rcases open_ints Try.underlying24 Try.underlying5 cells8 hf with ⟨hcs, hx⟩ | ⟨a, len, c, zs, hcs, _, hl, hm, hz, hx, hcell, hwz⟩
  · exact ⟨none, 0, [], hcs, by simp, Bytes.nil _ _ _, .inl rfl⟩
  · simp only [if_true] at hz
    have hlen : (bytesOfInts (zs.take len)).length = len := by simp [bytesOfInts]; omega
    refine ⟨some a, c, bytesOfInts (zs.take len), by rw [hlen]; exact hcs, by rw [hlen]; exact hl, fun hn => ⟨a, rfl, ?_, fun i hi => ?_⟩, .inr ⟨_, _, by rw [hx], by rw [hlen]; simp [lits]; omega⟩⟩
    · have h0 : 0 < zs.length := by
        rcases Nat.eq_zero_or_pos zs.length with h0 | h0
        · have : zs = [] := List.eq_nil_of_length_eq_zero h0
          subst this
          simp [bytesOfInts] at hn
        · exact h0
      have hc0 := hcell 0 h0
      rcases Nat.lt_or_ge a.block W.heap.size with hlt' | hge
      · exact hlt'
      · have : (a.add 0).block = a.block := addr_add_block a 0
        simp [World.cell?, this, Array.getElem?_eq_none hge] at hc0
    · have hi' : i < zs.length := by omega
      rw [hcell i hi']
      have hw := hwz zs[i] (List.getElem_mem hi')
      simp only [bytesOfInts, List.getElem_map, List.getElem_take, bval, byte_of_int hw]
      simp [List.getD_eq_getElem?_getD, List.getElem?_eq_getElem hi']

theorem cells_single {w : World} {base : Nat} {a : Addr} {cs : List Value} (h : w.cells? base a 1 = some cs) : ∃ v, cs = [v] ∧ w.cell? a = some v := by
  unfold World.cells? at h
  split at h
  · have e : List.range 1 = [0] := rfl
    rw [e, List.mapM_cons] at h
    simp only [List.mapM_nil, Option.bind_eq_bind, Option.bind_eq_some_iff, Option.pure_def, Option.some.injEq] at h
    obtain ⟨v, hv, _, rfl, rfl⟩ := h
    exact ⟨v, rfl, by simpa [Addr.add] using hv⟩
  · cases h
theorem mem_weightsAll {H : Type} {P : Program} {e : TypeId} {d : DataW H} {n : Nat} (hn : n ∈ d.weights P e) : ∀ {l : List (DataW H)}, d ∈ l → n ∈ DataW.weightsAll P e l
  | [], h => by cases h
  | c :: r, h => by
    rw [DataW.weightsAll, List.mem_append]
    rcases List.mem_cons.1 h with rfl | h
    · exact .inl hn
    · exact .inr (mem_weightsAll hn h)

/-- every weight of a datum that came in is within reach -/
theorem reach_all {H : Type} {ts : List TypeId} {ds : List (DataW H)} {j : Nat} {t : TypeId} {d : DataW H} (h : (DataW.weightsEach Try.prog ts ds).all (· ≤ reachBytes) = true) (ht : ts[j]? = some t) (hd : ds[j]? = some d) :
    ∀ n ∈ d.weights Try.prog t, n ≤ reachBytes := fun n hn => by
  have := List.all_eq_true.1 h _ (DataW.weights_mem_each ht hd n hn)
  simpa using this

/-- A slice of byte slices that came in: its texts, each of fewer than 2^47 bytes. -/
theorem open_samples {H : Type} {enc : TypeId × Value → H} {W : World} {a : Option Addr} {len cap : Nat} {d : DataW H} {p : List MemPlace}
    (h : DataW.Trod enc Try.prog W 0 (fun _ => true) true 22 (.slice a len cap) d p) (hw : ∀ n ∈ d.weights Try.prog 22, n ≤ reachBytes) :
    ∃ ls : List (List UInt8), ls.length = len ∧ len ≤ cap ∧ 24 * len ≤ 140737488351232 ∧ Samples W W.heap.size a ls ∧ ∀ s ∈ ls, s.length ≤ 140737488351232 := by
  obtain ⟨fuel, hf⟩ := h
  rcases DataW.trod_slice Try.underlying22 hf with ⟨hcs, hx⟩ | ⟨x, l, c, elems, rest, n, _, hcs, hx, hb, hl, hm, hlen, hel, _, _⟩
  · simp [Value.cells] at hcs
    obtain ⟨rfl, rfl, rfl⟩ := hcs
    exact ⟨[], rfl, Nat.le_refl _, by omega, Samples.nil _ _ _, fun s h => absurd h (by simp)⟩
  · simp [Value.cells] at hcs
    obtain ⟨rfl, rfl, rfl⟩ := hcs
    rw [cellsOfBytes] at hel
    injection hx with hx1 hx2
    subst hx1
    have hw0 : ∀ n, n ∈ (((elems.map (·.1)).length + (rest.map (·.1)).length) * Try.prog.bytesOf 24 :: (DataW.weightsAll Try.prog 24 (elems.map (·.1)) ++ DataW.weightsAll Try.prog 24 (rest.map (·.1)))) → n ≤ reachBytes := fun n hn => hw n (by rw [DataW.weights, Try.underlying22]; exact hn)
    have hreach : 24 * len ≤ 140737488351232 := by
      have := hw0 _ (List.mem_cons_self ..)
      rw [bytesOfBytes, List.length_map, List.length_map, hlen] at this
      simp only [reachBytes] at this
      omega
    have hat : ∀ i, i < len → ∃ l : List UInt8, (∃ (ai : Option Addr) (ci : Nat), l.length ≤ ci ∧ W.cell? (x.add i) = some (.slice ai l.length ci) ∧ Bytes W W.heap.size ai l) ∧ l.length ≤ 140737488351232 := fun i hi => by
      have he := hel i hi
      rw [List.getElem?_eq_getElem (by omega), Option.bind_eq_some_iff] at he
      obtain ⟨cs, hc1, hc2⟩ := he
      obtain ⟨v, rfl, hv⟩ := cells_single hc1
      obtain ⟨ai, ci, l, e1, e2, e3, e4⟩ := open_sample hc2
      rw [Nat.mul_one] at hv
      injection e1 with e1
      refine ⟨l, ⟨ai, ci, e2, by rw [hv, e1], e3⟩, ?_⟩
      rcases e4 with rfl | ⟨es, sp, ed, el⟩
      · simp
      · have hmem : elems[i].1 ∈ elems.map (·.1) := List.mem_map_of_mem (List.getElem_mem _)
        have := hw0 ((es.length + sp.length) * Try.prog.bytesOf 5) (List.mem_cons_of_mem _ (List.mem_append.2 (.inl (mem_weightsAll (d := elems[i].1) (by rw [ed, DataW.weights, Try.underlying24]; exact List.mem_cons_self ..) hmem))))
        rw [bytes8] at this
        simp only [reachBytes] at this
        omega
    obtain ⟨f, hfs⟩ := Deep.choose_lt hat
    refine ⟨(List.range len).map f, by simp, hl, hreach, fun hn => ?_, fun s hs => ?_⟩
    · have h0 : 0 < len := by
        rcases Nat.eq_zero_or_pos len with h0 | h0
        · subst h0; simp at hn
        · exact h0
      obtain ⟨⟨a0, c0, _, hc0, _⟩, _⟩ := hfs 0 h0
      have hblk : x.block < W.heap.size := by
        rcases Nat.lt_or_ge x.block W.heap.size with hlt' | hge
        · exact hlt'
        · have : (x.add 0).block = x.block := addr_add_block x 0
          simp [World.cell?, this, Array.getElem?_eq_none hge] at hc0
      refine ⟨x, rfl, hblk, fun i hi => ?_⟩
      have hi' : i < len := by simpa using hi
      obtain ⟨⟨ai, ci, e0, e1, e3⟩, _⟩ := hfs i hi'
      have e : ((List.range len).map f)[i] = f i := by simp
      rw [e]
      exact ⟨ai, ci, e0, e1, e3⟩
    · obtain ⟨i, hi, rfl⟩ := List.mem_map.1 hs
      exact (hfs i (List.mem_range.1 hi)).2
end Go.Proofs.Ytmcioglidgbibaa
