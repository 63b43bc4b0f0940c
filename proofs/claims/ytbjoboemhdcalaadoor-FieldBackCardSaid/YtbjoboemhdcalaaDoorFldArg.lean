/- A field that comes in as an argument. -/
import Derived.Test.YtbjoboemhdcalaaDoorFldVars
import Derived.ChangeMaps5
namespace Go.Proofs.YtbjoboemhdcalaaDoor
open Go.ChangeShapes Go.WideShapes Go.ChangeAt Go.RowKit Go.ChangeMaps Go.Joins Go.Deep
set_option maxRecDepth 100000

/-- a field, as it is read -/
def fdat {H : Type} (f : Fld.F) : DataW H := .agg [.lit (.string f.key), .lit (.int .i64 f.kind), .lit (.int .i64 f.int), .lit (.string f.text)]
theorem hone_field : oneCellFields Tryd.prog #[⟨ "Key", 9, 0, false, "", "", 0⟩, ⟨ "Kind", 3, 1, false, "", "", 16⟩, ⟨ "Int", 3, 2, false, "", "", 24⟩, ⟨ "Text", 9, 3, false, "", "", 32⟩] = true := by kernel_rfl
theorem cells_field : Tryd.prog.cellsOf 27 = 4 := by kernel_rfl
/-- what is known of it -/
structure FieldIn (f : Fld.F) : Prop where
  key : f.key.length ≤ maxLen
  kind : (Lit.int .i64 f.kind).wf = true
  int : (Lit.int .i64 f.int).wf = true
  text : f.text.length ≤ maxLen
theorem open_field {H : Type} {enc : TypeId × Value → H} {W : World} {b0 : Nat} {v : Value} {d : DataW H} {p : List MemPlace}
    (hv : Value.okWide Tryd.prog W .any b0 27 v) (h : DataW.Trod enc Tryd.prog W 0 (fun _ => true) true 27 v d p) : ∃ f, v = fval f ∧ d = fdat f ∧ p = [] ∧ FieldIn f := by
  obtain ⟨v0, v1, v2, v3, y0, y1, y2, y3, n, rfl, rfl, rfl, h0, h1, h2, h3⟩ := open_agg4 Tryd.underlying27 hone_field cells_field hv h
  obtain ⟨⟨⟨s0⟩⟩, e0, rfl, z0⟩ := DataW.trod_string Tryd.underlying9 h0
  obtain ⟨n1, e1, rfl, z1⟩ := DataW.trod_int Tryd.underlying3 h1
  obtain ⟨n2, e2, rfl, z2⟩ := DataW.trod_int Tryd.underlying3 h2
  obtain ⟨⟨⟨s3⟩⟩, e3, rfl, z3⟩ := DataW.trod_string Tryd.underlying9 h3
  simp only [List.cons.injEq, and_true] at e0 e1 e2 e3
  subst e0 e1 e2 e3
  exact ⟨⟨s0, n1, n2, s3⟩, rfl, rfl, rfl, ⟨by simpa [ByteArray.size] using z0, z1, z2, by simpa [ByteArray.size] using z3⟩⟩
theorem shut_field {H : Type} {enc : TypeId × Value → H} {W : World} {sp : Nat → Bool} {f : Fld.F} (h : FieldIn f) : DataW.Trod enc Tryd.prog W 0 sp true 27 (fval f) (fdat f) [] := by
  have t0 := shut_string (enc := enc) (w := W) (base := 0) (sp := sp) (held := true) (s := ⟨f.key.toArray⟩) Tryd.underlying9 (by simpa [ByteArray.size] using h.key)
  have t1 := shut_int (enc := enc) (w := W) (base := 0) (spare := sp) (held := true) Tryd.underlying3 h.kind
  have t2 := shut_int (enc := enc) (w := W) (base := 0) (spare := sp) (held := true) Tryd.underlying3 h.int
  have t3 := shut_string (enc := enc) (w := W) (base := 0) (sp := sp) (held := true) (s := ⟨f.text.toArray⟩) Tryd.underlying9 (by simpa [ByteArray.size] using h.text)
  exact shut_agg4 Tryd.underlying27 hone_field cells_field t0 t1 t2 t3
theorem reach_field {H : Type} {ts : List TypeId} {ds : List (DataW H)} {j : Nat} {f : Fld.F} (h : (DataW.weightsEach Tryd.prog ts ds).all (· ≤ reachBytes) = true) (ht : ts[j]? = some 27) (hd : ds[j]? = some (fdat f)) :
    f.key.length ≤ 140737488351232 ∧ f.text.length ≤ 140737488351232 := by
  have hm := DataW.weights_mem_each (P := Tryd.prog) ht hd
  have hk : f.key.length ∈ (fdat (H := H) f).weights Tryd.prog 27 := by
    simp only [fdat, DataW.weights, Tryd.underlying27, List.map, DataW.weightsEach]
    simp
  have ht' : f.text.length ∈ (fdat (H := H) f).weights Tryd.prog 27 := by
    simp only [fdat, DataW.weights, Tryd.underlying27, List.map, DataW.weightsEach]
    simp
  have h1 := List.all_eq_true.1 h _ (hm _ hk)
  have h2 := List.all_eq_true.1 h _ (hm _ ht')
  simp only [reachBytes] at h1 h2
  exact ⟨of_decide_eq_true h1, of_decide_eq_true h2⟩
end Go.Proofs.YtbjoboemhdcalaaDoor
