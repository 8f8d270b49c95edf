/-
  Several texts in one: What came in as a model, opened.
-/
import Derived.Test.YtfpihkbpelbcbaaRtG26
import Derived.Test.YtfpihkbpelbcbaaRtG2
import Derived.Deep.Slices
import Derived.SizedLaws
namespace Go.Proofs.Ytfpihkbpelbcbaa
open Go.ChangeShapes Go.WideShapes Go.RowKit Go.Joins Go.Deep
set_option maxRecDepth 100000
def Light {H : Type} (t : TypeId) (d : DataW H) : Prop := ∀ q ∈ d.weights Try.prog t, q ≤ reachBytes
theorem mem_all {H : Type} {P : Program} {e : TypeId} {d : DataW H} : ∀ {l : List (DataW H)}, d ∈ l → ∀ q ∈ d.weights P e, q ∈ DataW.weightsAll P e l
 | a :: r, h, q, hq => by
  rw [DataW.weightsAll, List.mem_append]
  rcases List.mem_cons.1 h with e1 | e1
  ·subst e1; exact .inl hq
  ·exact .inr (mem_all e1 q hq)
theorem Light.field {H : Type} {t ty : TypeId} {fs : Array Field} {ds : List (DataW H)} {j : Nat} {d : DataW H} (h : Light t (.agg ds)) (hu : Try.prog.underlying t = some (.struct fs)) (ht : (fs.toList.map (·.type))[j]? = some ty) (hd : ds[j]? = some d) : Light ty d := fun q hq => by
 refine h q ?_
 simp only [DataW.weights, hu]
 exact DataW.weights_mem_each ht hd q hq
theorem Light.elem {H : Type} {t e : TypeId} {l r : List (DataW H)} {d : DataW H} (h : Light t (.slice l r)) (hu : Try.prog.underlying t = some (.slice e)) (hd : d ∈ l) : Light e d := fun q hq => by
 refine h q ?_
 simp only [DataW.weights, hu]
 exact List.mem_cons_of_mem _ (List.mem_append_left _ (mem_all hd q hq))
section
variable {H : Type} {enc : TypeId × Value → H} {w : World} {base : Nat} {held : Bool}
theorem nat32_of {n : Nat} {c : Value} {y : DataW H × List MemPlace} (h : DataW.trod enc Try.prog w base (fun _ => true) held n 27 [c] = some y) : ∃ a : Nat, a < 4294967296 ∧ c = .int .u32 (a : Int) := by
 obtain ⟨x, hx, _, hw⟩ := DataW.trod_int Try.underlying27 h
 have := bounds_u32 hw
 injection hx with hx
 exact ⟨x.toNat, by omega, by rw [hx]; congr 1; omega⟩
theorem nat16_of {n : Nat} {c : Value} {y : DataW H × List MemPlace} (h : DataW.trod enc Try.prog w base (fun _ => true) held n 26 [c] = some y) : ∃ a : Nat, a < 65536 ∧ c = .int .u16 (a : Int) := by
 obtain ⟨x, hx, _, hw⟩ := DataW.trod_int Try.underlying26 h
 have := bounds_u16 hw
 injection hx with hx
 exact ⟨x.toNat, by omega, by rw [hx]; congr 1; omega⟩
theorem nat8_of {n : Nat} {c : Value} {y : DataW H × List MemPlace} (h : DataW.trod enc Try.prog w base (fun _ => true) held n 5 [c] = some y) : ∃ a : Nat, a < 256 ∧ c = .int .u8 (a : Int) := by
 obtain ⟨x, hx, _, hw⟩ := DataW.trod_int Try.underlying5 h
 have := bounds_u8 hw
 injection hx with hx
 exact ⟨x.toNat, by omega, by rw [hx]; congr 1; omega⟩
theorem nat64_of {n : Nat} {c : Value} {y : DataW H × List MemPlace} (h : DataW.trod enc Try.prog w base (fun _ => true) held n 28 [c] = some y) : ∃ a : Nat, a < 18446744073709551616 ∧ c = .int .u64 (a : Int) := by
 obtain ⟨x, hx, _, hw⟩ := DataW.trod_int Try.underlying28 h
 have := bounds_u64 hw
 injection hx with hx
 exact ⟨x.toNat, by omega, by rw [hx]; congr 1; omega⟩
theorem int_of {n : Nat} {c : Value} {y : DataW H × List MemPlace} (h : DataW.trod enc Try.prog w base (fun _ => true) held n 3 [c] = some y) : ∃ a : Int, I64 a ∧ c = .int .i64 a := by
 obtain ⟨x, hx, _, hw⟩ := DataW.trod_int Try.underlying3 h
 have := bounds_i64 hw
 injection hx with hx
 exact ⟨x, by unfold I64; omega, hx⟩
theorem own_of {n : Nat} {v : Value} {y : DataW H × List MemPlace} (h : DataW.trod enc Try.prog w base (fun _ => true) held n 44 [v] = some y) : ∃ (A : Option Addr) (n c : Nat) (l : List UInt8), v = .slice A n c ∧ RB w w.heap.size A n c l ∧ (Light 44 y.1 → l.length ≤ reachBytes) := by
 rcases open_ints Try.underlying44 Try.underlying5 (by kernel_rfl) h with ⟨hcs, _⟩ | ⟨a, len', cap', zs, hcs, _, hl, hm, hz, hx, hcell, hwz⟩
 ·injection hcs with hcs
  exact ⟨none, 0, 0, [], hcs, RB.nil, fun _ => Nat.zero_le _⟩
 ·injection hcs with hcs
  simp only [if_true] at hz
  have hr := rb_of_cells w a len' cap' zs hl hm hz hcell hwz
  refine ⟨some a, len', cap', _, hcs, hr, fun hw => ?_⟩
  rw [← hr.len]
  subst hx
  have h1 := hw ((List.length (lits (H := H) .u8 (zs.take len')) + List.length (lits (H := H) .u8 (zs.drop len'))) * Try.prog.bytesOf 5) (by simp [DataW.weights, Try.underlying44])
  have hb : Try.prog.bytesOf 5 = 1 := by kernel_rfl
  rw [hb] at h1
  simp [lits] at h1
  omega
theorem pl_of {n : Nat} {c0 c1 c2 c3 : Value} {y : DataW H × List MemPlace} (h : DataW.trod enc Try.prog w base (fun _ => true) held n 46 [c0, c1, c2, c3] = some y) :
  ∃ (p : Pl) (A : Option Addr) (k c : Nat), (c0 = .int .i64 p.inn ∧ c1 = .int .u64 (p.off : Nat) ∧ c2 = .int .u64 (p.size : Nat) ∧ c3 = .slice A k c) ∧ p.Ok ∧ RB w w.heap.size A k c p.own ∧ (Light 46 y.1 → p.own.length ≤ reachBytes) := by
 obtain ⟨xs, m, -, he, hl, hx, hf⟩ := DataW.trod_struct Try.underlying46 h
 have hx4 : xs.length = 4 := hx
 have e64 : Program.cellsOf Try.prog 28 = 1 := by kernel_rfl
 have eI : Program.cellsOf Try.prog 3 = 1 := by kernel_rfl
 have eS : Program.cellsOf Try.prog 44 = 1 := by kernel_rfl
 match xs, hx4 with
 | [x0, x1, x2, x3], _ =>
  have h0 : DataW.trod enc Try.prog w base (fun _ => true) held m 3 [c0] = some x0 := by simpa [e64, eI, eS] using hf 0 _ rfl
  have h1 : DataW.trod enc Try.prog w base (fun _ => true) held m 28 [c1] = some x1 := by simpa [e64, eI, eS] using hf 1 _ rfl
  have h2 : DataW.trod enc Try.prog w base (fun _ => true) held m 28 [c2] = some x2 := by simpa [e64, eI, eS] using hf 2 _ rfl
  have h3 : DataW.trod enc Try.prog w base (fun _ => true) held m 44 [c3] = some x3 := by simpa [e64, eI, eS] using hf 3 _ rfl
  obtain ⟨a0, k0, q0⟩ := int_of h0
  obtain ⟨a1, k1, q1⟩ := nat64_of h1
  obtain ⟨a2, k2, q2⟩ := nat64_of h2
  obtain ⟨A, k, c, l, q3, hr, hw⟩ := own_of h3
  exact ⟨⟨a0, a1, a2, l⟩, A, k, c, ⟨q0, q1, q2, q3⟩, ⟨k0, k1, k2⟩, hr, fun hy => hw (by
   rw [he] at hy
   exact hy.field Try.underlying46 (j := 3) rfl rfl)⟩
theorem rows_of {α : Type} [Inhabited α] (K : RK α) {Ok : α → Prop} {S : α → Prop} {n : Nat} {v : Value} {y : DataW H × List MemPlace} {tS tE : TypeId} (hu : Try.prog.underlying tS = some (.slice tE)) (hz : Program.cellsOf Try.prog tE = K.z) (hz0 : 0 < K.z) (hsz : ∀ a v, (K.cs a v).size = K.z)
  (each : ∀ (n : Nat) (cs : List Value) (y : DataW H × List MemPlace), DataW.trod enc Try.prog w base (fun _ => true) held n tE cs = some y → ∃ (s : α) (r : Array Value), cs = r.toList ∧ RR K w w.heap.size r s ∧ Ok s ∧ (Light tE y.1 → S s))
  (h : DataW.trod enc Try.prog w base (fun _ => true) held n tS [v] = some y) :
  ∃ (A : Option Addr) (n c : Nat) (L : List α), v = .slice A n c ∧ ZR K w w.heap.size A n c L ∧ (∀ s ∈ L, Ok s) ∧ (Light tS y.1 → ∀ s ∈ L, S s) := by
 rcases open_slice hu h with ⟨hcs, _⟩ | ⟨a, len, cap, m, k, D, Pl, hcs, _, hl, hm, hmm, hy, hx⟩
 ·injection hcs with hcs
  exact ⟨none, 0, 0, [], hcs, ZR.nil, fun _ h => absurd h (by simp), fun _ _ h => absurd h (by simp)⟩
 ·injection hcs with hcs
  have hlm : len ≤ m := by rw [hmm]; split <;> omega
  rw [hz] at hx
  have all : ∀ i, i < len → ∃ x : α × Array Value, RR K w w.heap.size x.2 x.1 ∧ Ok x.1 ∧ (Light tE (D i) → S x.1) ∧ ∀ j u, x.2[j]? = some u → w.cell? ((a.add (i * K.z)).add j) = some u := by
   intro i hi
   obtain ⟨cs, hc, ht⟩ := hx i (by omega)
   obtain ⟨_, hcl, hat⟩ := World.cells?_some hc
   obtain ⟨s, r, rfl, hr, ho, hs⟩ := each _ _ _ ht
   have hrz : r.size = K.z := by
    obtain ⟨_, _, _, e, _⟩ := hr
    rw [e]
    exact hsz _ _
   refine ⟨⟨s, r⟩, hr, ho, hs, fun j u hu => ?_⟩
   have hj : j < K.z := by
    have h1 : j < r.size := (Array.getElem?_eq_some_iff.1 hu).1
    rw [hrz] at h1
    exact h1
   rw [hat j hj]
   simpa using hu
  obtain ⟨q, hq⟩ := choose_lt all
  have hqz : ∀ i, i < len → (q i).2.size = K.z := fun i hi => by
   obtain ⟨_, _, _, e, _⟩ := (hq i hi).1
   rw [e]
   exact hsz _ _
  refine ⟨some a, len, cap, (List.range len).map (fun i => (q i).1), hcs, ⟨(List.range len).map (fun i => (q i).2), ⟨by simp, hl, hm, fun x hx => ?_, fun hp => ?_⟩, by simp, fun j h1 h2 => ?_⟩, fun s hs => ?_, fun hw s hs => ?_⟩
  ·obtain ⟨j, hj, rfl⟩ := List.mem_map.1 hx
   exact hqz j (by simpa using hj)
  ·obtain ⟨b, off, spot⟩ := a
   have hs0 := hqz 0 hp
   obtain ⟨u0, hu0⟩ : ∃ u, (q 0).2[0]? = some u := ⟨(q 0).2[0], by simp⟩
   have h0 := (hq 0 hp).2.2.2 0 u0 hu0
   have hspot : spot = none := by simpa [Addr.add] using World.cell?_spot h0
   subst hspot
   have e2 : ∀ i j, ((⟨b, off, none⟩ : Addr).add i).add j = ⟨b, off + i + j, none⟩ := by
    have e1 : ∀ (o i : Nat), (⟨b, o, none⟩ : Addr).add i = ⟨b, o + i, none⟩ := by intro o i; unfold Addr.add; split <;> simp_all
    intro i j
    rw [e1, e1]
   refine ⟨b, off, rfl, ?_, fun j hj i u hu => ?_⟩
   ·rcases Nat.lt_or_ge b w.heap.size with h | h
    ·exact h
    ·simp [Addr.add, World.cell?, Array.getElem?_eq_none h] at h0
   ·have hj' : j < len := by simpa using hj
    have h1 := (hq j hj').2.2.2 i u (by simpa using hu)
    rw [e2] at h1
    exact h1
  ·have hj : j < len := by simpa using h1
   have := (hq j hj).1
   simpa using this
  ·obtain ⟨j, hj, rfl⟩ := List.mem_map.1 hs
   exact (hq j (by simpa using hj)).2.1
  ·obtain ⟨j, hj, rfl⟩ := List.mem_map.1 hs
   have hj' : j < len := by simpa using hj
   refine (hq j hj').2.2.1 ?_
   rw [hy] at hw
   exact hw.elem hu (List.mem_map.2 ⟨j, by simpa using hj', rfl⟩)
theorem sg_of {n : Nat} {cs : List Value} {y : DataW H × List MemPlace} (h : DataW.trod enc Try.prog w base (fun _ => true) held n 48 cs = some y) : ∃ (s : Sg) (r : Array Value), cs = r.toList ∧ RR sgK w w.heap.size r s ∧ s.Ok ∧ (Light 48 y.1 → s.pl.own.length ≤ reachBytes) := by
 obtain ⟨xs, m, -, he, hl, hx, hf⟩ := DataW.trod_struct Try.underlying48 h
 have hx7 : xs.length = 7 := hx
 have hl10 : cs.length = 10 := hl.trans (by kernel_rfl)
 have e32 : Program.cellsOf Try.prog 27 = 1 := by kernel_rfl
 have e64 : Program.cellsOf Try.prog 28 = 1 := by kernel_rfl
 have eP : Program.cellsOf Try.prog 46 = 4 := by kernel_rfl
 match cs, hl10, xs, hx7 with
 | [c0, c1, c2, c3, c4, c5, c6, c7, c8, c9], _, [x0, x1, x2, x3, x4, x5, x6], _ =>
  have h0 : DataW.trod enc Try.prog w base (fun _ => true) held m 27 [c0] = some x0 := by simpa [e32, e64, eP] using hf 0 _ rfl
  have h1 : DataW.trod enc Try.prog w base (fun _ => true) held m 27 [c1] = some x1 := by simpa [e32, e64, eP] using hf 1 _ rfl
  have h2 : DataW.trod enc Try.prog w base (fun _ => true) held m 28 [c2] = some x2 := by simpa [e32, e64, eP] using hf 2 _ rfl
  have h3 : DataW.trod enc Try.prog w base (fun _ => true) held m 28 [c3] = some x3 := by simpa [e32, e64, eP] using hf 3 _ rfl
  have h4 : DataW.trod enc Try.prog w base (fun _ => true) held m 28 [c4] = some x4 := by simpa [e32, e64, eP] using hf 4 _ rfl
  have h5 : DataW.trod enc Try.prog w base (fun _ => true) held m 28 [c5] = some x5 := by simpa [e32, e64, eP] using hf 5 _ rfl
  have h6 : DataW.trod enc Try.prog w base (fun _ => true) held m 46 [c6, c7, c8, c9] = some x6 := by simpa [e32, e64, eP] using hf 6 _ rfl
  obtain ⟨a0, k0, rfl⟩ := nat32_of h0
  obtain ⟨a1, k1, rfl⟩ := nat32_of h1
  obtain ⟨a2, k2, rfl⟩ := nat64_of h2
  obtain ⟨a3, k3, rfl⟩ := nat64_of h3
  obtain ⟨a4, k4, rfl⟩ := nat64_of h4
  obtain ⟨a5, k5, rfl⟩ := nat64_of h5
  obtain ⟨p, A, k, c, ⟨rfl, rfl, rfl, rfl⟩, ok, hr, hw⟩ := pl_of h6
  exact ⟨⟨a0, a1, a2, a3, a4, a5, p⟩, _, rfl, ⟨A, k, c, rfl, hr⟩, ⟨k0, k1, k2, k3, k4, k5, ok⟩, fun hy => hw (by
   rw [he] at hy
   exact hy.field Try.underlying48 (j := 6) rfl rfl)⟩
theorem se_of {n : Nat} {cs : List Value} {y : DataW H × List MemPlace} (h : DataW.trod enc Try.prog w base (fun _ => true) held n 50 cs = some y) : ∃ (s : Se) (r : Array Value), cs = r.toList ∧ RR seK w w.heap.size r s ∧ s.Ok ∧ (Light 50 y.1 → s.pl.own.length ≤ reachBytes) := by
 obtain ⟨xs, m, -, he, hl, hx, hf⟩ := DataW.trod_struct Try.underlying50 h
 have hx10 : xs.length = 10 := hx
 have hl13 : cs.length = 13 := hl.trans (by kernel_rfl)
 have e32 : Program.cellsOf Try.prog 27 = 1 := by kernel_rfl
 have e64 : Program.cellsOf Try.prog 28 = 1 := by kernel_rfl
 have eP : Program.cellsOf Try.prog 46 = 4 := by kernel_rfl
 match cs, hl13, xs, hx10 with
 | [c0, c1, c2, c3, c4, c5, c6, c7, c8, c9, c10, c11, c12], _, [x0, x1, x2, x3, x4, x5, x6, x7, x8, x9], _ =>
  have h0 : DataW.trod enc Try.prog w base (fun _ => true) held m 27 [c0] = some x0 := by simpa [e32, e64, eP] using hf 0 _ rfl
  have h1 : DataW.trod enc Try.prog w base (fun _ => true) held m 27 [c1] = some x1 := by simpa [e32, e64, eP] using hf 1 _ rfl
  have h2 : DataW.trod enc Try.prog w base (fun _ => true) held m 28 [c2] = some x2 := by simpa [e32, e64, eP] using hf 2 _ rfl
  have h3 : DataW.trod enc Try.prog w base (fun _ => true) held m 28 [c3] = some x3 := by simpa [e32, e64, eP] using hf 3 _ rfl
  have h4 : DataW.trod enc Try.prog w base (fun _ => true) held m 28 [c4] = some x4 := by simpa [e32, e64, eP] using hf 4 _ rfl
  have h5 : DataW.trod enc Try.prog w base (fun _ => true) held m 27 [c5] = some x5 := by simpa [e32, e64, eP] using hf 5 _ rfl
  have h6 : DataW.trod enc Try.prog w base (fun _ => true) held m 27 [c6] = some x6 := by simpa [e32, e64, eP] using hf 6 _ rfl
  have h7 : DataW.trod enc Try.prog w base (fun _ => true) held m 28 [c7] = some x7 := by simpa [e32, e64, eP] using hf 7 _ rfl
  have h8 : DataW.trod enc Try.prog w base (fun _ => true) held m 28 [c8] = some x8 := by simpa [e32, e64, eP] using hf 8 _ rfl
  have h9 : DataW.trod enc Try.prog w base (fun _ => true) held m 46 [c9, c10, c11, c12] = some x9 := by simpa [e32, e64, eP] using hf 9 _ rfl
  obtain ⟨a0, k0, rfl⟩ := nat32_of h0
  obtain ⟨a1, k1, rfl⟩ := nat32_of h1
  obtain ⟨a2, k2, rfl⟩ := nat64_of h2
  obtain ⟨a3, k3, rfl⟩ := nat64_of h3
  obtain ⟨a4, k4, rfl⟩ := nat64_of h4
  obtain ⟨a5, k5, rfl⟩ := nat32_of h5
  obtain ⟨a6, k6, rfl⟩ := nat32_of h6
  obtain ⟨a7, k7, rfl⟩ := nat64_of h7
  obtain ⟨a8, k8, rfl⟩ := nat64_of h8
  obtain ⟨p, A, k, c, ⟨rfl, rfl, rfl, rfl⟩, ok, hr, hw⟩ := pl_of h9
  exact ⟨⟨a0, a1, a2, a3, a4, a5, a6, a7, a8, p⟩, _, rfl, ⟨A, k, c, rfl, hr⟩, ⟨k0, k1, k2, k3, k4, k5, k6, k7, k8, ok⟩, fun hy => hw (by
   rw [he] at hy
   exact hy.field Try.underlying50 (j := 9) rfl rfl)⟩
theorem ident_of {n : Nat} {c0 c1 c2 c3 : Value} {y : DataW H × List MemPlace} (h : DataW.trod enc Try.prog w base (fun _ => true) held n 25 [c0, c1, c2, c3] = some y) :
  ∃ (wide big : Bool) (a b : Nat), a < 256 ∧ b < 256 ∧ c0 = .bool wide ∧ c1 = .bool big ∧ c2 = .int .u8 (a : Int) ∧ c3 = .int .u8 (b : Int) := by
 obtain ⟨xs, m, -, -, hl, hx, hf⟩ := DataW.trod_struct Try.underlying25 h
 have hx3 : xs.length = 3 := hx
 have e8 : Program.cellsOf Try.prog 5 = 1 := by kernel_rfl
 have eF : Program.cellsOf Try.prog 23 = 2 := by kernel_rfl
 match xs, hx3 with
 | [x0, x1, x2], _ =>
  have h0 : DataW.trod enc Try.prog w base (fun _ => true) held m 23 [c0, c1] = some x0 := by simpa [e8, eF] using hf 0 _ rfl
  have h1 : DataW.trod enc Try.prog w base (fun _ => true) held m 5 [c2] = some x1 := by simpa [e8, eF] using hf 1 _ rfl
  have h2 : DataW.trod enc Try.prog w base (fun _ => true) held m 5 [c3] = some x2 := by simpa [e8, eF] using hf 2 _ rfl
  obtain ⟨wide, big, r0, r1⟩ := form_of_cells h0
  obtain ⟨a, k1, r2⟩ := nat8_of h1
  obtain ⟨b, k2, r3⟩ := nat8_of h2
  exact ⟨wide, big, a, b, k1, k2, r0, r1, r2, r3⟩
theorem open_model {r : Reach} {b0 : Nat} {v : Value} {d : DataW H} {p : List MemPlace} (hv : Value.okWide Try.prog w r b0 32 v) (h : DataW.Trod enc Try.prog w base (fun _ => true) held 32 v d p) (hw : Light 32 d) :
  ∃ (m : Md) (A1 : Option Addr) (n1 c1 : Nat) (A2 : Option Addr) (n2 c2 : Nat), v = .agg (mdC m (.slice A1 n1 c1) (.slice A2 n2 c2)) ∧ m.Ok ∧ ZR sgK w w.heap.size A1 n1 c1 m.segs ∧ ZR seK w w.heap.size A2 n2 c2 m.secs ∧
   (∀ s ∈ m.segs, s.pl.own.length ≤ reachBytes) ∧ (∀ s ∈ m.secs, s.pl.own.length ≤ reachBytes) := by
 obtain ⟨cs, rfl, hsz⟩ := okWide_struct Try.underlying32 hv
 obtain ⟨fuel, hfu⟩ := h
 have hsz11 : cs.size = 11 := hsz.trans (by kernel_rfl)
 obtain ⟨xs, m, -, he, hl, hx, hf⟩ := DataW.trod_struct Try.underlying32 hfu
 have hx8 : xs.length = 8 := hx
 have e16 : Program.cellsOf Try.prog 26 = 1 := by kernel_rfl
 have e32 : Program.cellsOf Try.prog 27 = 1 := by kernel_rfl
 have e64 : Program.cellsOf Try.prog 28 = 1 := by kernel_rfl
 have eI : Program.cellsOf Try.prog 3 = 1 := by kernel_rfl
 have eD : Program.cellsOf Try.prog 25 = 4 := by kernel_rfl
 have eG : Program.cellsOf Try.prog 29 = 1 := by kernel_rfl
 have eE : Program.cellsOf Try.prog 30 = 1 := by kernel_rfl
 match cs, hsz11, xs, hx8 with
 | ⟨[c0, c1, c2, c3, c4, c5, c6, c7, c8, c9, c10]⟩, _, [x0, x1, x2, x3, x4, x5, x6, x7], _ =>
  have h0 : DataW.trod enc Try.prog w base (fun _ => true) held m 25 [c0, c1, c2, c3] = some x0 := by simpa [e16, e32, e64, eI, eD, eG, eE, Value.cells] using hf 0 _ rfl
  have h1 : DataW.trod enc Try.prog w base (fun _ => true) held m 26 [c4] = some x1 := by simpa [e16, e32, e64, eI, eD, eG, eE, Value.cells] using hf 1 _ rfl
  have h2 : DataW.trod enc Try.prog w base (fun _ => true) held m 26 [c5] = some x2 := by simpa [e16, e32, e64, eI, eD, eG, eE, Value.cells] using hf 2 _ rfl
  have h3 : DataW.trod enc Try.prog w base (fun _ => true) held m 27 [c6] = some x3 := by simpa [e16, e32, e64, eI, eD, eG, eE, Value.cells] using hf 3 _ rfl
  have h4 : DataW.trod enc Try.prog w base (fun _ => true) held m 28 [c7] = some x4 := by simpa [e16, e32, e64, eI, eD, eG, eE, Value.cells] using hf 4 _ rfl
  have h5 : DataW.trod enc Try.prog w base (fun _ => true) held m 29 [c8] = some x5 := by simpa [e16, e32, e64, eI, eD, eG, eE, Value.cells] using hf 5 _ rfl
  have h6 : DataW.trod enc Try.prog w base (fun _ => true) held m 30 [c9] = some x6 := by simpa [e16, e32, e64, eI, eD, eG, eE, Value.cells] using hf 6 _ rfl
  have h7 : DataW.trod enc Try.prog w base (fun _ => true) held m 3 [c10] = some x7 := by simpa [e16, e32, e64, eI, eD, eG, eE, Value.cells] using hf 7 _ rfl
  obtain ⟨wide, big, a, b, k0, k0', rfl, rfl, rfl, rfl⟩ := ident_of h0
  obtain ⟨a1, k1, rfl⟩ := nat16_of h1
  obtain ⟨a2, k2, rfl⟩ := nat16_of h2
  obtain ⟨a3, k3, rfl⟩ := nat32_of h3
  obtain ⟨a4, k4, rfl⟩ := nat64_of h4
  obtain ⟨A1, n1, cc1, L1, rfl, z1, o1, w1⟩ := rows_of sgK Try.underlying29 (show Program.cellsOf Try.prog 48 = 10 by kernel_rfl) (by decide) (fun _ _ => rfl) (fun _ _ _ h => sg_of h) h5
  obtain ⟨A2, n2, cc2, L2, rfl, z2, o2, w2⟩ := rows_of seK Try.underlying30 (show Program.cellsOf Try.prog 50 = 13 by kernel_rfl) (by decide) (fun _ _ => rfl) (fun _ _ _ h => se_of h) h6
  obtain ⟨a7, k7, rfl⟩ := int_of h7
  have hd : d = .agg ([x0, x1, x2, x3, x4, x5, x6, x7].map (·.1)) := congrArg Prod.fst he
  rw [hd] at hw
  exact ⟨⟨wide, big, a, b, a1, a2, a3, a4, L1, L2, a7⟩, A1, n1, cc1, A2, n2, cc2, rfl, ⟨k0, k0', k1, k2, k3, k4, o1, o2, k7⟩, z1, z2, w1 (hw.field Try.underlying32 (j := 5) rfl rfl), w2 (hw.field Try.underlying32 (j := 6) rfl rfl)⟩
end
end Go.Proofs.Ytfpihkbpelbcbaa
