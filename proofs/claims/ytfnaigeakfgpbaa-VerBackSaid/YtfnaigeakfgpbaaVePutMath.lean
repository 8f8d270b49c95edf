/-
  What is known of one definition, of one need, while its bytes are laid; and what Put answers. No program's function is spoken of here.
-/
import Derived.Test.YtfnaigeakfgpbaaVeMem
import Derived.Test.YtfnaigeakfgpbaaVeLay
namespace Go.Proofs.Ytfnaigeakfgpbaa
open Go.RowKit

def VMays (L : List Ve) : Bool := L.all Ve.May
/-- What Put answers. -/
def VPut (M : VM) (L : List Ve) (big : Bool) (w : World) (e : Ending) (w' : World) : Prop :=
  (VMays L = true ∧ ∃ A c, e = .returned (.tuple #[.slice A (vsB M.K big L).length c, .nilIface]) ∧ OB w' w.heap.size 5 A (vsB M.K big L).length c (vsB M.K big L) ∧ Grow w w') ∨
  (VMays L = false ∧ e = .returned (.tuple #[.slice none 0 0, .iface 60 (.int .i64 1)]) ∧ Grow w w')
/-- What the document's own answers. -/
def RPut (M : VM) (L : List Ve) (big : Bool) (w : World) (e : Ending) (w' : World) : Prop :=
  (VMays L = true ∧ ∃ A c, e = .returned (.tuple #[.slice A (vsB M.K big L).length c, .bool true]) ∧ OB w' w.heap.size 5 A (vsB M.K big L).length c (vsB M.K big L) ∧ Grow w w') ∨
  (VMays L = false ∧ e = .returned (.tuple #[.slice none 0 0, .bool false]) ∧ Grow w w')

theorem mays_no {L : List Ve} {i : Nat} (h : i < L.length) (hm : L[i].May = false) : VMays L = false := by
  unfold VMays
  rw [List.all_eq_false]
  exact ⟨L[i], List.getElem_mem h, by rw [hm]; decide⟩
theorem mays_yes {L : List Ve} (h : ∀ j (hj : j < L.length), L[j].May = true) : VMays L = true := by
  unfold VMays
  rw [List.all_eq_true]
  intro e he
  obtain ⟨j, hj, rfl⟩ := List.getElem_of_mem he
  exact h j hj
theorem mays_all {L : List Ve} (h : VMays L = true) : ∀ e ∈ L, e.May = true := by
  unfold VMays at h
  rwa [List.all_eq_true] at h

/-- What is known of definition i. -/
structure EachD (w : World) (B : Nat) (big : Bool) (n : Nat) (P : Nat → List UInt8) (R : List (Array Value)) (i h0 h1 h2 : Nat) (A1 : Option Addr) (n1 c1 : Nat) (v : Nat → Nat) (Q : Nat → List UInt8) : Prop where
  ir : i < R.length
  row : ∀ hi : i < R.length, R[i] = #[.int .u16 (h0 : Int), .int .u16 (h1 : Int), .int .u32 (h2 : Int), .slice A1 n1 c1]
  b0 : h0 < 65536
  b1 : h1 < 65536
  b2 : h2 < 4294967296
  cap : n1 ≤ c1
  max : c1 ≤ maxLen
  cells : 0 < n1 → ∃ b off, A1 = some ⟨b, off, none⟩ ∧ b < B ∧ ∀ k, k < n1 → w.cell? ⟨b, off + k, none⟩ = some (.int .u32 (v k : Int)) ∧ v k < 4294967296
  succ : P (i + 1) = P i ++ ((rowB big (evs 2 [1, h0, h1, n1]) ++ rowB big (evs 4 [h2, 20, nx i n (20 + 8 * n1)])) ++ Q n1)
  q0 : Q 0 = []
  qs : ∀ k, Q (k + 1) = Q k ++ rowB big (evs 4 [v k, nx k n1 8])
  ql : ∀ k, (Q k).length = k * 8
  size : (P i).length + 20 + n1 * 8 ≤ 100000

theorem eachD {w : World} {B n c : Nat} {A : Option Addr} {L : List Ve} (big : Bool) (h : ZV vmD w B A n c L) (ok : ∀ e ∈ L, e.Ok vkD) (hb : (vsB vkD big L).length ≤ 100000) :
    ∃ R, ZS w B 4 A n c R ∧ ∀ i, i < n → ∃ h0 h1 h2 A1 n1 c1 v Q, EachD w B big n (vsP vkD big L) R i h0 h1 h2 A1 n1 c1 v Q ∧ (∀ hi : i < L.length, L[i].May = (decide (1 ≤ n1) && decide (n1 ≤ 65535))) := by
  obtain ⟨R, hs, hr⟩ := h.row
  have hn := h.len
  refine ⟨R, hs, fun i hi => ?_⟩
  have hil : i < L.length := by omega
  obtain ⟨hR, A1, n1, c1, hrow, hz⟩ := hr i hil
  have hok := ok _ (List.getElem_mem hil)
  have hat : veAt L i = L[i] := by simp [veAt, hil]
  obtain ⟨x0, x1, x2, hh, b0, b1, b2⟩ := fit_D hok.1
  have hlen : n1 = L[i].p.length := by have := hz.len; simpa using this
  have hsz := len_vsP_succ (.inl rfl) (K := vkD) big L i
  have hmono := vsP_mono (.inl rfl) (K := vkD) big L (show i + 1 ≤ L.length by omega)
  rw [hat, ← hlen] at hsz
  rw [show vsP vkD big L L.length = vsB vkD big L from rfl] at hmono
  have e1 : vkD.S = 20 := rfl
  have e2 : vkD.z = 8 := rfl
  rw [e1, e2] at hsz
  refine ⟨x0, x1, x2, A1, n1, c1, fun k => (L[i].p.getD k []).getD 0 0, vePs vkD big L[i], ⟨hR, fun _ => by rw [hrow, hh]; rfl, b0, b1, b2, hz.cap, hz.max, fun hp => ?_, ?_, rfl, fun k => ?_, fun k => len_vePs (.inl rfl) big _ k, by omega⟩, fun _ => by unfold Ve.May; rw [← hlen]⟩
  · obtain ⟨b, off, eA, hbB, hc⟩ := hz.pos hp
    refine ⟨b, off, eA, hbB, fun k hk => ?_⟩
    have hkl : k < L[i].p.length := by omega
    have e : L[i].p.getD k [] = L[i].p[k] := by simp [hkl]
    obtain ⟨y0, hy, hyb⟩ := fit_Dp (hok.2 _ (List.getElem_mem hkl))
    have hcell := hc k (by simpa using hkl) 0 (.int .u32 (y0 : Int)) (by simp only [List.getElem_map, hy]; rfl)
    show w.cell? _ = some (.int .u32 (((L[i].p.getD k []).getD 0 0 : Nat) : Int)) ∧ (L[i].p.getD k []).getD 0 0 < 4294967296
    rw [e, hy]
    simp only [Nat.add_zero] at hcell
    rw [show vmD.zc = 1 from rfl, Nat.mul_one] at hcell
    exact ⟨hcell, hyb⟩
  · show vsP vkD big L i ++ (veH vkD big L i (veAt L i) ++ vePs vkD big (veAt L i) (veAt L i).p.length) = _
    rw [hat, veH, hh, ← hlen, ← hn, ← rowB_append]
    rfl
  · show vePs vkD big L[i] k ++ rowB big (vkD.pq (L[i].p.getD k []) (nx k L[i].p.length vkD.z)) = _
    rw [← hlen]
    rfl

/-- What is known of need i. -/
structure EachN (w : World) (B : Nat) (big : Bool) (n : Nat) (P : Nat → List UInt8) (R : List (Array Value)) (i h0 : Nat) (A1 : Option Addr) (n1 c1 : Nat) (RR : List (Array Value)) (x0 x1 x2 x3 : Nat → Nat) (Q : Nat → List UInt8) : Prop where
  ir : i < R.length
  row : ∀ hi : i < R.length, R[i] = #[.int .u32 (h0 : Int), .slice A1 n1 c1]
  b0 : h0 < 4294967296
  cap : n1 ≤ c1
  max : c1 ≤ maxLen
  zs : ZS w B 4 A1 n1 c1 RR
  rr : ∀ k, k < n1 → k < RR.length ∧ (∀ hk : k < RR.length, RR[k] = #[.int .u32 (x0 k : Int), .int .u16 (x1 k : Int), .int .u16 (x2 k : Int), .int .u32 (x3 k : Int)]) ∧ x0 k < 4294967296 ∧ x1 k < 65536 ∧ x2 k < 65536 ∧ x3 k < 4294967296
  succ : P (i + 1) = P i ++ ((rowB big (evs 2 [1, n1]) ++ rowB big (evs 4 [h0, 16, nx i n (16 + 16 * n1)])) ++ Q n1)
  q0 : Q 0 = []
  qs : ∀ k, Q (k + 1) = Q k ++ ((rowB big (evs 4 [x0 k]) ++ rowB big (evs 2 [x1 k, x2 k])) ++ rowB big (evs 4 [x3 k, nx k n1 16]))
  ql : ∀ k, (Q k).length = k * 16
  size : (P i).length + 16 + n1 * 16 ≤ 100000

theorem eachN {w : World} {B n c : Nat} {A : Option Addr} {L : List Ve} (big : Bool) (h : ZV vmN w B A n c L) (ok : ∀ e ∈ L, e.Ok vkN) (hb : (vsB vkN big L).length ≤ 100000) :
    ∃ R, ZS w B 2 A n c R ∧ ∀ i, i < n → ∃ h0 A1 n1 c1 RR x0 x1 x2 x3 Q, EachN w B big n (vsP vkN big L) R i h0 A1 n1 c1 RR x0 x1 x2 x3 Q ∧ (∀ hi : i < L.length, L[i].May = (decide (1 ≤ n1) && decide (n1 ≤ 65535))) := by
  obtain ⟨R, hs, hr⟩ := h.row
  have hn := h.len
  refine ⟨R, hs, fun i hi => ?_⟩
  have hil : i < L.length := by omega
  obtain ⟨hR, A1, n1, c1, hrow, hz⟩ := hr i hil
  have hok := ok _ (List.getElem_mem hil)
  have hat : veAt L i = L[i] := by simp [veAt, hil]
  obtain ⟨y0, hh, b0⟩ := fit_N hok.1
  have hlen : n1 = L[i].p.length := by have := hz.len; simpa using this
  have hsz := len_vsP_succ (.inr rfl) (K := vkN) big L i
  have hmono := vsP_mono (.inr rfl) (K := vkN) big L (show i + 1 ≤ L.length by omega)
  rw [hat, ← hlen] at hsz
  rw [show vsP vkN big L L.length = vsB vkN big L from rfl] at hmono
  have e1 : vkN.S = 16 := rfl
  have e2 : vkN.z = 16 := rfl
  rw [e1, e2] at hsz
  refine ⟨y0, A1, n1, c1, L[i].p.map vmN.pr, fun k => (L[i].p.getD k []).getD 0 0, fun k => (L[i].p.getD k []).getD 1 0, fun k => (L[i].p.getD k []).getD 2 0, fun k => (L[i].p.getD k []).getD 3 0, vePs vkN big L[i],
    ⟨hR, fun _ => by rw [hrow, hh]; rfl, b0, hz.cap, hz.max, hz, fun k hk => ?_, ?_, rfl, fun k => ?_, fun k => len_vePs (.inr rfl) big _ k, by omega⟩, fun _ => by unfold Ve.May; rw [← hlen]⟩
  · have hkl : k < L[i].p.length := by omega
    have e : L[i].p.getD k [] = L[i].p[k] := by simp [hkl]
    obtain ⟨z0, z1, z2, z3, hy, k0, k1, k2, k3⟩ := fit_Np (hok.2 _ (List.getElem_mem hkl))
    refine ⟨by simpa using hkl, fun _ => ?_, ?_⟩
    · show (L[i].p.map vmN.pr)[k] = _
      simp only [e, List.getElem_map]
      rfl
    · show (L[i].p.getD k []).getD 0 0 < _ ∧ (L[i].p.getD k []).getD 1 0 < _ ∧ (L[i].p.getD k []).getD 2 0 < _ ∧ (L[i].p.getD k []).getD 3 0 < _
      rw [e, hy]
      exact ⟨k0, k1, k2, k3⟩
  · show vsP vkN big L i ++ (veH vkN big L i (veAt L i) ++ vePs vkN big (veAt L i) (veAt L i).p.length) = _
    rw [hat, veH, hh, ← hlen, ← hn, ← rowB_append]
    rfl
  · show vePs vkN big L[i] k ++ rowB big (vkN.pq (L[i].p.getD k []) (nx k L[i].p.length vkN.z)) = _
    rw [← hlen, ← rowB_append, ← rowB_append]
    rfl
end Go.Proofs.Ytfnaigeakfgpbaa
