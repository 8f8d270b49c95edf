/-
  What came in as slices of definitions and of needs, opened to lists.
-/
import Derived.Test.YtfnaigeakfgpbaaOpen
import Derived.Test.YtfnaigeakfgpbaaVeMem
import Derived.Deep.Slices
namespace Go.Proofs.Ytfnaigeakfgpbaa
open Go.ChangeShapes Go.WideShapes Go.RowKit Go.Joins Go.Deep

section
variable {H : Type} {enc : TypeId × Value → H} {w : World} {base : Nat} {held : Bool}
instance : Inhabited Ve := ⟨⟨[], []⟩⟩

/-- A slice whose elements are opened each, as rows. -/
theorem rows_of_cells {E : Type} [Inhabited E] {n : Nat} {cs0 : List Value} {y : DataW H × List MemPlace} {tS tE : TypeId} {z : Nat} {P : E → Array Value → Prop} (hu : Try.prog.underlying tS = some (.slice tE)) (hz : Program.cellsOf Try.prog tE = z) (hz0 : 0 < z)
    (each : ∀ (n : Nat) (cs : List Value) (y : DataW H × List MemPlace), DataW.trod enc Try.prog w base (fun _ => true) held n tE cs = some y → ∃ (s : E) (r : Array Value), cs = r.toList ∧ r.size = z ∧ P s r)
    (h : DataW.trod enc Try.prog w base (fun _ => true) held n tS cs0 = some y) :
    ∃ (A : Option Addr) (n c : Nat) (X : List (E × Array Value)), cs0 = [.slice A n c] ∧ ZS w w.heap.size z A n c (X.map Prod.snd) ∧ ∀ x ∈ X, P x.1 x.2 := by
  rcases open_slice hu h with ⟨hcs, _⟩ | ⟨a, len, cap, m, k, D, Pl, hcs, _, hl, hm, hmm, _, hx⟩
  · exact ⟨none, 0, 0, [], hcs, ZS.nil, fun _ h => absurd h (by simp)⟩
  · have hlm : len ≤ m := by rw [hmm]; split <;> omega
    rw [hz] at hx
    have all : ∀ i, i < len → ∃ x : E × Array Value, P x.1 x.2 ∧ x.2.size = z ∧ ∀ j u, x.2[j]? = some u → w.cell? ((a.add (i * z)).add j) = some u := by
      intro i hi
      obtain ⟨cs, hc, ht⟩ := hx i (by omega)
      obtain ⟨_, hcl, hat⟩ := World.cells?_some hc
      obtain ⟨s, r, rfl, hrz, hp⟩ := each _ _ _ ht
      refine ⟨⟨s, r⟩, hp, hrz, fun j u hu => ?_⟩
      have hj : j < z := by
        have h1 : j < r.size := (Array.getElem?_eq_some_iff.1 hu).1
        rw [hrz] at h1
        exact h1
      rw [hat j hj]
      simpa using hu
    obtain ⟨q, hq⟩ := choose_lt all
    refine ⟨some a, len, cap, (List.range len).map q, hcs, ⟨by simp, hl, hm, fun x hx => ?_, fun hp => ?_⟩, fun x hx => ?_⟩
    · rw [List.map_map] at hx
      obtain ⟨j, hj, rfl⟩ := List.mem_map.1 hx
      exact (hq j (by simpa using hj)).2.1
    · obtain ⟨b, off, spot⟩ := a
      have hs0 := (hq 0 hp).2.1
      obtain ⟨u0, hu0⟩ : ∃ u, (q 0).2[0]? = some u := ⟨(q 0).2[0], by simp⟩
      have h0 := (hq 0 hp).2.2 0 u0 hu0
      have hspot : spot = none := by simpa [Addr.add] using World.cell?_spot h0
      subst hspot
      have e2 : ∀ i j, ((⟨b, off, none⟩ : Addr).add i).add j = ⟨b, off + i + j, none⟩ := by
        have e1 : ∀ (o i : Nat), (⟨b, o, none⟩ : Addr).add i = ⟨b, o + i, none⟩ := by intro o i; unfold Addr.add; split <;> simp_all
        intro i j
        rw [e1, e1]
      refine ⟨b, off, rfl, ?_, fun j hj i u hu => ?_⟩
      · rcases Nat.lt_or_ge b w.heap.size with h | h
        · exact h
        · simp [Addr.add, World.cell?, Array.getElem?_eq_none h] at h0
      · have hj' : j < len := by simpa using hj
        have h1 := (hq j hj').2.2 i u (by simpa using hu)
        rw [e2] at h1
        exact h1
    · obtain ⟨j, hj, rfl⟩ := List.mem_map.1 hx
      exact (hq j (by simpa using hj)).1

theorem num32_of {n : Nat} {cs : List Value} {y : DataW H × List MemPlace} (h : DataW.trod enc Try.prog w base (fun _ => true) held n 52 cs = some y) : ∃ a : Nat, a < 4294967296 ∧ cs = [.int .u32 (a : Int)] := by
  obtain ⟨x, hx, _, hw⟩ := DataW.trod_int Try.underlying52 h
  have := bounds_u32 hw
  exact ⟨x.toNat, by omega, by rw [hx]; congr 2; omega⟩
theorem num16_of {n : Nat} {cs : List Value} {y : DataW H × List MemPlace} (h : DataW.trod enc Try.prog w base (fun _ => true) held n 51 cs = some y) : ∃ a : Nat, a < 65536 ∧ cs = [.int .u16 (a : Int)] := by
  obtain ⟨x, hx, _, hw⟩ := DataW.trod_int Try.underlying51 h
  have := bounds_u16 hw
  exact ⟨x.toNat, by omega, by rw [hx]; congr 2; omega⟩

theorem name_of {n : Nat} {cs : List Value} {y : DataW H × List MemPlace} (h : DataW.trod enc Try.prog w base (fun _ => true) held n 52 cs = some y) : ∃ (s : List Nat) (r : Array Value), cs = r.toList ∧ r.size = 1 ∧ (Fit s vkD.po ∧ r = vmD.pr s) := by
  obtain ⟨a, ha, rfl⟩ := num32_of h
  exact ⟨[a], #[.int .u32 (a : Int)], rfl, rfl, ⟨ha, trivial⟩, rfl⟩
theorem aux_of {n : Nat} {cs : List Value} {y : DataW H × List MemPlace} (h : DataW.trod enc Try.prog w base (fun _ => true) held n 68 cs = some y) : ∃ (s : List Nat) (r : Array Value), cs = r.toList ∧ r.size = 4 ∧ (Fit s vkN.po ∧ r = vmN.pr s) := by
  obtain ⟨xs, m, -, -, hl, hx, hf⟩ := DataW.trod_struct Try.underlying68 h
  have hx4 : xs.length = 4 := hx
  have hl4 : cs.length = 4 := hl.trans (by kernel_rfl)
  have e16 : Program.cellsOf Try.prog 51 = 1 := by kernel_rfl
  have e32 : Program.cellsOf Try.prog 52 = 1 := by kernel_rfl
  match cs, hl4, xs, hx4 with
  | [c0, c1, c2, c3], _, [x0, x1, x2, x3], _ =>
    have h0 : DataW.trod enc Try.prog w base (fun _ => true) held m 52 [c0] = some x0 := by simpa [e16, e32] using hf 0 _ rfl
    have h1 : DataW.trod enc Try.prog w base (fun _ => true) held m 51 [c1] = some x1 := by simpa [e16, e32] using hf 1 _ rfl
    have h2 : DataW.trod enc Try.prog w base (fun _ => true) held m 51 [c2] = some x2 := by simpa [e16, e32] using hf 2 _ rfl
    have h3 : DataW.trod enc Try.prog w base (fun _ => true) held m 52 [c3] = some x3 := by simpa [e16, e32] using hf 3 _ rfl
    obtain ⟨a0, k0, q0⟩ := num32_of h0
    obtain ⟨a1, k1, q1⟩ := num16_of h1
    obtain ⟨a2, k2, q2⟩ := num16_of h2
    obtain ⟨a3, k3, q3⟩ := num32_of h3
    injection q0 with q0
    injection q1 with q1
    injection q2 with q2
    injection q3 with q3
    subst q0; subst q1; subst q2; subst q3
    exact ⟨[a0, a1, a2, a3], #[.int .u32 (a0 : Int), .int .u16 (a1 : Int), .int .u16 (a2 : Int), .int .u32 (a3 : Int)], rfl, rfl, ⟨k0, k1, k2, k3, trivial⟩, rfl⟩

theorem def_of {n : Nat} {cs : List Value} {y : DataW H × List MemPlace} (h : DataW.trod enc Try.prog w base (fun _ => true) held n 55 cs = some y) : ∃ (s : Ve) (r : Array Value), cs = r.toList ∧ r.size = 4 ∧ (s.Ok vkD ∧ VeR vmD w w.heap.size r s) := by
  obtain ⟨xs, m, -, -, hl, hx, hf⟩ := DataW.trod_struct Try.underlying55 h
  have hx4 : xs.length = 4 := hx
  have hl4 : cs.length = 4 := hl.trans (by kernel_rfl)
  have e16 : Program.cellsOf Try.prog 51 = 1 := by kernel_rfl
  have e32 : Program.cellsOf Try.prog 52 = 1 := by kernel_rfl
  have eS : Program.cellsOf Try.prog 53 = 1 := by kernel_rfl
  match cs, hl4, xs, hx4 with
  | [c0, c1, c2, c3], _, [x0, x1, x2, x3], _ =>
    have h0 : DataW.trod enc Try.prog w base (fun _ => true) held m 51 [c0] = some x0 := by simpa [e16, e32, eS] using hf 0 _ rfl
    have h1 : DataW.trod enc Try.prog w base (fun _ => true) held m 51 [c1] = some x1 := by simpa [e16, e32, eS] using hf 1 _ rfl
    have h2 : DataW.trod enc Try.prog w base (fun _ => true) held m 52 [c2] = some x2 := by simpa [e16, e32, eS] using hf 2 _ rfl
    have h3 : DataW.trod enc Try.prog w base (fun _ => true) held m 53 [c3] = some x3 := by simpa [e16, e32, eS] using hf 3 _ rfl
    obtain ⟨a0, k0, q0⟩ := num16_of h0
    obtain ⟨a1, k1, q1⟩ := num16_of h1
    obtain ⟨a2, k2, q2⟩ := num32_of h2
    obtain ⟨A, nn, c, X, q3, hz, hX⟩ := rows_of_cells (P := fun (s : List Nat) r => Fit s vkD.po ∧ r = vmD.pr s) Try.underlying53 (show Program.cellsOf Try.prog 52 = 1 from e32) (by decide) (fun _ _ _ h => name_of h) h3
    injection q0 with q0
    injection q1 with q1
    injection q2 with q2
    injection q3 with q3
    subst q0; subst q1; subst q2; subst q3
    have hm : X.map Prod.snd = (X.map Prod.fst).map vmD.pr := by
      rw [List.map_map]
      exact List.map_congr_left fun x hx => (hX x hx).2
    rw [hm] at hz
    refine ⟨⟨[a0, a1, a2], X.map Prod.fst⟩, #[.int .u16 (a0 : Int), .int .u16 (a1 : Int), .int .u32 (a2 : Int), .slice A nn c], rfl, rfl, ⟨⟨k0, k1, k2, trivial⟩, fun x hx => ?_⟩, A, nn, c, rfl, hz⟩
    obtain ⟨q, hq, rfl⟩ := List.mem_map.1 hx
    exact (hX q hq).1
theorem need_of {n : Nat} {cs : List Value} {y : DataW H × List MemPlace} (h : DataW.trod enc Try.prog w base (fun _ => true) held n 58 cs = some y) : ∃ (s : Ve) (r : Array Value), cs = r.toList ∧ r.size = 2 ∧ (s.Ok vkN ∧ VeR vmN w w.heap.size r s) := by
  obtain ⟨xs, m, -, -, hl, hx, hf⟩ := DataW.trod_struct Try.underlying58 h
  have hx2 : xs.length = 2 := hx
  have hl2 : cs.length = 2 := hl.trans (by kernel_rfl)
  have e32 : Program.cellsOf Try.prog 52 = 1 := by kernel_rfl
  have eS : Program.cellsOf Try.prog 56 = 1 := by kernel_rfl
  match cs, hl2, xs, hx2 with
  | [c0, c3], _, [x0, x3], _ =>
    have h0 : DataW.trod enc Try.prog w base (fun _ => true) held m 52 [c0] = some x0 := by simpa [e32, eS] using hf 0 _ rfl
    have h3 : DataW.trod enc Try.prog w base (fun _ => true) held m 56 [c3] = some x3 := by simpa [e32, eS] using hf 1 _ rfl
    obtain ⟨a0, k0, q0⟩ := num32_of h0
    obtain ⟨A, nn, c, X, q3, hz, hX⟩ := rows_of_cells (P := fun (s : List Nat) r => Fit s vkN.po ∧ r = vmN.pr s) Try.underlying56 (show Program.cellsOf Try.prog 68 = 4 by kernel_rfl) (by decide) (fun _ _ _ h => aux_of h) h3
    injection q0 with q0
    injection q3 with q3
    subst q0; subst q3
    have hm : X.map Prod.snd = (X.map Prod.fst).map vmN.pr := by
      rw [List.map_map]
      exact List.map_congr_left fun x hx => (hX x hx).2
    rw [hm] at hz
    refine ⟨⟨[a0], X.map Prod.fst⟩, #[.int .u32 (a0 : Int), .slice A nn c], rfl, rfl, ⟨⟨k0, trivial⟩, fun x hx => ?_⟩, A, nn, c, rfl, hz⟩
    obtain ⟨q, hq, rfl⟩ := List.mem_map.1 hx
    exact (hX q hq).1

theorem zv_of_rows {M : VM} {A : Option Addr} {n c : Nat} {X : List (Ve × Array Value)} (h : ZS w w.heap.size M.zh A n c (X.map Prod.snd)) (hX : ∀ x ∈ X, x.1.Ok M.K ∧ VeR M w w.heap.size x.2 x.1) : ZV M w w.heap.size A n c (X.map Prod.fst) ∧ ∀ e ∈ X.map Prod.fst, e.Ok M.K := by
  refine ⟨⟨_, h, by simp, fun j h1 h2 => ?_⟩, fun e he => ?_⟩
  · have hj : j < X.length := by simpa using h1
    have := (hX X[j] (List.getElem_mem hj)).2
    simpa using this
  · obtain ⟨x, hx, rfl⟩ := List.mem_map.1 he
    exact (hX x hx).1
theorem open_defs {r : Reach} {b0 : Nat} {v : Value} {d : DataW H} {p : List MemPlace} (hv : Value.okWide Try.prog w r b0 22 v) (h : DataW.Trod enc Try.prog w base (fun _ => true) held 22 v d p) :
    ∃ (A : Option Addr) (n c : Nat) (L : List Ve), v = .slice A n c ∧ ZV vmD w w.heap.size A n c L ∧ ∀ e ∈ L, e.Ok vkD := by
  obtain ⟨A, n, c, rfl⟩ := okWide_slice Try.underlying22 hv
  obtain ⟨fuel, hf⟩ := h
  obtain ⟨A', n', c', X, hcs, hz, hX⟩ := rows_of_cells (P := fun (s : Ve) r => s.Ok vkD ∧ VeR vmD w w.heap.size r s) Try.underlying22 (show Program.cellsOf Try.prog 55 = 4 by kernel_rfl) (by decide) (fun _ _ _ h => def_of h) hf
  simp [Value.cells] at hcs
  obtain ⟨rfl, rfl, rfl⟩ := hcs
  obtain ⟨h1, h2⟩ := zv_of_rows (M := vmD) hz hX
  exact ⟨A, n, c, _, rfl, h1, h2⟩
theorem open_needs {r : Reach} {b0 : Nat} {v : Value} {d : DataW H} {p : List MemPlace} (hv : Value.okWide Try.prog w r b0 23 v) (h : DataW.Trod enc Try.prog w base (fun _ => true) held 23 v d p) :
    ∃ (A : Option Addr) (n c : Nat) (L : List Ve), v = .slice A n c ∧ ZV vmN w w.heap.size A n c L ∧ ∀ e ∈ L, e.Ok vkN := by
  obtain ⟨A, n, c, rfl⟩ := okWide_slice Try.underlying23 hv
  obtain ⟨fuel, hf⟩ := h
  obtain ⟨A', n', c', X, hcs, hz, hX⟩ := rows_of_cells (P := fun (s : Ve) r => s.Ok vkN ∧ VeR vmN w w.heap.size r s) Try.underlying23 (show Program.cellsOf Try.prog 58 = 2 by kernel_rfl) (by decide) (fun _ _ _ h => need_of h) hf
  simp [Value.cells] at hcs
  obtain ⟨rfl, rfl, rfl⟩ := hcs
  obtain ⟨h1, h2⟩ := zv_of_rows (M := vmN) hz hX
  exact ⟨A, n, c, _, rfl, h1, h2⟩
end
end Go.Proofs.Ytfnaigeakfgpbaa
