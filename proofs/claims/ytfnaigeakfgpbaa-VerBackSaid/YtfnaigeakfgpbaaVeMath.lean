/-
  Plain mathematics of versions: definitions and needs as numbers with parts, their bytes as they are put, what is told of any bytes, and that what was put is told. No program is spoken of here.
-/
import Derived.Test.YtfnaigeakfgpbaaForm
namespace Go.Proofs.Ytfnaigeakfgpbaa

/-- A kind: how many bytes one has, and a part; where how many parts there are stands; where the own numbers of one, and of a part, stand, and how wide they are; the rows that are put. -/
structure VK where
  S : Nat
  z : Nat
  cp : Nat
  ho : List (Nat × Nat)
  po : List (Nat × Nat)
  hq : List Nat → Nat → Nat → List (Nat × Nat)
  pq : List Nat → Nat → List (Nat × Nat)
def vkD : VK := ⟨20, 8, 6, [(2, 2), (4, 2), (8, 4)], [(0, 4)], fun h n x => [(1, 2), (h.getD 0 0, 2), (h.getD 1 0, 2), (n, 2), (h.getD 2 0, 4), (20, 4), (x, 4)], fun p x => [(p.getD 0 0, 4), (x, 4)]⟩
def vkN : VK := ⟨16, 16, 2, [(4, 4)], [(0, 4), (4, 2), (6, 2), (8, 4)], fun h n x => [(1, 2), (n, 2), (h.getD 0 0, 4), (16, 4), (x, 4)], fun p x => [(p.getD 0 0, 4), (p.getD 1 0, 2), (p.getD 2 0, 2), (p.getD 3 0, 4), (x, 4)]⟩
def VK.Is (K : VK) : Prop := K = vkD ∨ K = vkN

/-- One of them: its own numbers, and its parts'. -/
structure Ve where
  h : List Nat
  p : List (List Nat)
def Fit : List Nat → List (Nat × Nat) → Prop
  | [], [] => True
  | v :: l, o :: os => v < 256 ^ o.2 ∧ Fit l os
  | _, _ => False
def Ve.Ok (K : VK) (e : Ve) : Prop := Fit e.h K.ho ∧ ∀ x ∈ e.p, Fit x K.po
/-- It may be put. -/
def Ve.May (e : Ve) : Bool := decide (1 ≤ e.p.length) && decide (e.p.length ≤ 65535)

/-- How far off the next one of many stands. -/
def nx (i many off : Nat) : Nat := if i + 1 = many then 0 else off
/-- The bytes of the first k parts. -/
def vePs (K : VK) (big : Bool) (e : Ve) : Nat → List UInt8
  | 0 => []
  | k + 1 => vePs K big e k ++ rowB big (K.pq (e.p.getD k []) (nx k e.p.length K.z))
def veH (K : VK) (big : Bool) (L : List Ve) (i : Nat) (e : Ve) : List UInt8 := rowB big (K.hq e.h e.p.length (nx i L.length (K.S + K.z * e.p.length)))
def veAt (L : List Ve) (i : Nat) : Ve := L.getD i ⟨[], []⟩
/-- The bytes of the first k. -/
def vsP (K : VK) (big : Bool) (L : List Ve) : Nat → List UInt8
  | 0 => []
  | k + 1 => vsP K big L k ++ (veH K big L k (veAt L k) ++ vePs K big (veAt L k) (veAt L k).p.length)
def vsB (K : VK) (big : Bool) (L : List Ve) : List UInt8 := vsP K big L L.length

/-- The number at a place. -/
def vG (l : List UInt8) (big : Bool) (q wd : Nat) : Nat := getB ((l.drop q).take wd) big
/-- So many parts from a place on: where they begin; what is wrong, and where. -/
def vtParts (G : Nat → Nat → Nat) (n z : Nat) : Nat → Nat → List Nat × Nat × Nat
  | 0, _ => ([], 0, 0)
  | c + 1, p =>
    if n < p + z then ([], 2, min p n)
    else if c = 0 then (if G (p + (z - 4)) 4 = 0 then ([p], 0, 0) else ([], 4, p))
    else if G (p + (z - 4)) 4 < z then ([], 4, p)
    else (p :: (vtParts G n z c (p + G (p + (z - 4)) 4)).1, (vtParts G n z c (p + G (p + (z - 4)) 4)).2)
/-- One begins as it should, and may have parts where it says. -/
def vWell (K : VK) (G : Nat → Nat → Nat) (a : Nat) : Bool := decide (G a 2 = 1) && decide (G (a + K.cp) 2 ≠ 0) && decide (K.S ≤ G (a + (K.S - 8)) 4)
/-- The parts of the one at that place. -/
def vtOne (K : VK) (G : Nat → Nat → Nat) (n a : Nat) : List Nat × Nat × Nat := vtParts G n K.z (G (a + K.cp) 2) (a + G (a + (K.S - 8)) 4)
def vNext (K : VK) (G : Nat → Nat → Nat) (a : Nat) : Nat := G (a + (K.S - 4)) 4
/-- All from a place on (with fuel): where each begins, with its parts; what is wrong, and where. -/
def vtAll (K : VK) (G : Nat → Nat → Nat) (n : Nat) : Nat → Nat → List (Nat × List Nat) × Nat × Nat
  | 0, _ => ([], 0, 0)
  | f + 1, a =>
    if n < a + K.S then ([], 2, min a n)
    else if vWell K G a = false then ([], 4, a)
    else if (vtOne K G n a).2.1 ≠ 0 then ([], (vtOne K G n a).2)
    else if vNext K G a = 0 then ([(a, (vtOne K G n a).1)], 0, 0)
    else if vNext K G a < K.S then ([], 4, a)
    else ((a, (vtOne K G n a).1) :: (vtAll K G n f (a + vNext K G a)).1, (vtAll K G n f (a + vNext K G a)).2)
def vePt (K : VK) (G : Nat → Nat → Nat) (k : Nat) : List Nat := K.po.map fun o => G (k + o.1) o.2
def veOf (K : VK) (G : Nat → Nat → Nat) (x : Nat × List Nat) : Ve := ⟨K.ho.map fun o => G (x.1 + o.1) o.2, x.2.map (vePt K G)⟩
/-- What is told of bytes: all of them; what is wrong, and where. -/
def vAns (K : VK) (l : List UInt8) (big : Bool) : List Ve × Nat × Nat :=
  if l.length = 0 then ([], 0, 0) else ((vtAll K (vG l big) l.length (l.length + 1) 0).1.map (veOf K (vG l big)), (vtAll K (vG l big) l.length (l.length + 1) 0).2)

theorem vG_lt (l : List UInt8) (big : Bool) (q wd : Nat) : vG l big q wd < 256 ^ wd := by
  unfold vG
  exact Nat.lt_of_lt_of_le (getB_lt _ _) (Nat.pow_le_pow_right (by omega) (by simp; omega))
theorem vG_lt2 (l : List UInt8) (big : Bool) (q : Nat) : vG l big q 2 < 65536 := vG_lt l big q 2
theorem vG_lt4 (l : List UInt8) (big : Bool) (q : Nat) : vG l big q 4 < 4294967296 := vG_lt l big q 4
theorem vG_take (l : List UInt8) (big : Bool) (k q wd : Nat) (h : q + wd ≤ k) : vG (l.take k) big q wd = vG l big q wd := by
  unfold vG
  rw [List.drop_take, List.take_take, Nat.min_eq_left (by omega)]

theorem fit_D {h : List Nat} (f : Fit h vkD.ho) : ∃ x0 x1 x2, h = [x0, x1, x2] ∧ x0 < 65536 ∧ x1 < 65536 ∧ x2 < 4294967296 := by
  match h, f with
  | [x0, x1, x2], f => exact ⟨x0, x1, x2, rfl, f.1, f.2.1, f.2.2.1⟩
theorem fit_Dp {h : List Nat} (f : Fit h vkD.po) : ∃ x0, h = [x0] ∧ x0 < 4294967296 := by
  match h, f with
  | [x0], f => exact ⟨x0, rfl, f.1⟩
theorem fit_N {h : List Nat} (f : Fit h vkN.ho) : ∃ x0, h = [x0] ∧ x0 < 4294967296 := by
  match h, f with
  | [x0], f => exact ⟨x0, rfl, f.1⟩
theorem fit_Np {h : List Nat} (f : Fit h vkN.po) : ∃ x0 x1 x2 x3, h = [x0, x1, x2, x3] ∧ x0 < 4294967296 ∧ x1 < 65536 ∧ x2 < 65536 ∧ x3 < 4294967296 := by
  match h, f with
  | [x0, x1, x2, x3], f => exact ⟨x0, x1, x2, x3, rfl, f.1, f.2.1, f.2.2.1, f.2.2.2.1⟩

theorem len_pq {K : VK} (hK : K.Is) (big : Bool) (x : List Nat) (n : Nat) : (rowB big (K.pq x n)).length = K.z := by
  rw [length_rowB]; rcases hK with rfl | rfl <;> rfl
theorem len_hq {K : VK} (hK : K.Is) (big : Bool) (x : List Nat) (m n : Nat) : (rowB big (K.hq x m n)).length = K.S := by
  rw [length_rowB]; rcases hK with rfl | rfl <;> rfl
theorem len_vePs {K : VK} (hK : K.Is) (big : Bool) (e : Ve) : ∀ k, (vePs K big e k).length = k * K.z
  | 0 => by simp [vePs]
  | k + 1 => by rw [vePs, List.length_append, len_vePs hK big e k, len_pq hK, Nat.succ_mul]
theorem len_vsP_succ {K : VK} (hK : K.Is) (big : Bool) (L : List Ve) (k : Nat) : (vsP K big L (k + 1)).length = (vsP K big L k).length + K.S + (veAt L k).p.length * K.z := by
  rw [vsP, List.length_append, List.length_append, veH, len_hq hK, len_vePs hK]; omega
theorem vsP_mono {K : VK} (hK : K.Is) (big : Bool) (L : List Ve) : ∀ {j k : Nat}, j ≤ k → (vsP K big L j).length ≤ (vsP K big L k).length := by
  intro j k h
  induction h with
  | refl => exact Nat.le_refl _
  | @step m h ih => rw [len_vsP_succ hK]; omega
theorem vePs_split (K : VK) (big : Bool) (e : Ve) (j m : Nat) (h : j < m) : ∃ t, vePs K big e m = vePs K big e j ++ rowB big (K.pq (e.p.getD j []) (nx j e.p.length K.z)) ++ t := by
  induction m with
  | zero => omega
  | succ m ih =>
    by_cases hm : j = m
    · subst hm
      exact ⟨[], by rw [vePs, List.append_nil]⟩
    · obtain ⟨t, ht⟩ := ih (by omega)
      exact ⟨t ++ rowB big (K.pq (e.p.getD m []) (nx m e.p.length K.z)), by rw [vePs, ht]; simp only [List.append_assoc]⟩
theorem vsP_split (K : VK) (big : Bool) (L : List Ve) (i m : Nat) (h : i < m) : ∃ t, vsP K big L m = vsP K big L i ++ veH K big L i (veAt L i) ++ vePs K big (veAt L i) (veAt L i).p.length ++ t := by
  induction m with
  | zero => omega
  | succ m ih =>
    by_cases hm : i = m
    · subst hm
      exact ⟨[], by rw [vsP]; simp only [List.append_assoc, List.append_nil]⟩
    · obtain ⟨t, ht⟩ := ih (by omega)
      exact ⟨t ++ (veH K big L m (veAt L m) ++ vePs K big (veAt L m) (veAt L m).p.length), by rw [vsP, ht]; simp only [List.append_assoc]⟩

/-- What stands in a part that was put. -/
theorem part_told {K : VK} (hK : K.Is) (x : List Nat) (hx : Fit x K.po) (m : Nat) (hm : m < 4294967296) (pre post : List UInt8) (big : Bool) :
    vG (pre ++ rowB big (K.pq x m) ++ post) big (pre.length + (K.z - 4)) 4 = m ∧ (K.po.map fun o => vG (pre ++ rowB big (K.pq x m) ++ post) big (pre.length + o.1) o.2) = x := by
  rcases hK with rfl | rfl
  · obtain ⟨x0, rfl, h0⟩ := fit_Dp hx
    have := nums_rowB big post (vkD.pq [x0] m) pre (by simp [vkD, rowF, h0, hm])
    generalize pre ++ rowB big (vkD.pq [x0] m) ++ post = l at this
    simp [vkD, nums] at this
    simp [vkD, vG, this]
  · obtain ⟨x0, x1, x2, x3, rfl, h0, h1, h2, h3⟩ := fit_Np hx
    have := nums_rowB big post (vkN.pq [x0, x1, x2, x3] m) pre (by simp [vkN, rowF, h0, h1, h2, h3, hm])
    generalize pre ++ rowB big (vkN.pq [x0, x1, x2, x3] m) ++ post = l at this
    simp [vkN, nums, Nat.add_assoc] at this
    simp [vkN, vG, this]
/-- What stands in the beginning of one that was put. -/
theorem head_told {K : VK} (hK : K.Is) (x : List Nat) (hx : Fit x K.ho) (c m : Nat) (hc : c < 65536) (hm : m < 4294967296) (pre post : List UInt8) (big : Bool) (l : List UInt8) (hl : l = pre ++ rowB big (K.hq x c m) ++ post) :
    vG l big pre.length 2 = 1 ∧ vG l big (pre.length + K.cp) 2 = c ∧ vG l big (pre.length + (K.S - 8)) 4 = K.S ∧ vG l big (pre.length + (K.S - 4)) 4 = m ∧ (K.ho.map fun o => vG l big (pre.length + o.1) o.2) = x := by
  rcases hK with rfl | rfl
  · obtain ⟨x0, x1, x2, rfl, h0, h1, h2⟩ := fit_D hx
    have := nums_rowB big post (vkD.hq [x0, x1, x2] c m) pre (by simp [vkD, rowF, h0, h1, h2, hc, hm])
    rw [← hl] at this
    simp [vkD, nums, Nat.add_assoc] at this
    simp [vkD, vG, this]
  · obtain ⟨x0, rfl, h0⟩ := fit_N hx
    have := nums_rowB big post (vkN.hq [x0] c m) pre (by simp [vkN, rowF, h0, hc, hm])
    rw [← hl] at this
    simp [vkN, nums, Nat.add_assoc] at this
    simp [vkN, vG, this]
theorem K_small {K : VK} (hK : K.Is) : 8 ≤ K.z ∧ K.z ≤ 16 ∧ 16 ≤ K.S ∧ K.S ≤ 20 ∧ K.cp + 2 ≤ K.S ∧ (∀ o ∈ K.po, o.1 + o.2 ≤ K.z) ∧ ∀ o ∈ K.ho, o.1 + o.2 ≤ K.S := by
  rcases hK with rfl | rfl <;> simp [vkD, vkN]

theorem parts_back {K : VK} (hK : K.Is) (big : Bool) (e : Ve) (ok : e.Ok K) (pre post l : List UInt8) (hl : l = pre ++ vePs K big e e.p.length ++ post) (G : Nat → Nat → Nat) (n : Nat) (hG : ∀ q wd, q + wd ≤ n → G q wd = vG l big q wd) :
    ∀ (c j : Nat), 0 < c → j + c = e.p.length →
      (pre.length + e.p.length * K.z ≤ n → ∃ T, vtParts G n K.z c (pre.length + j * K.z) = (T, 0, 0) ∧ T.map (vePt K G) = e.p.drop j) ∧
      (n < pre.length + e.p.length * K.z → (vtParts G n K.z c (pre.length + j * K.z)).2.1 ≠ 0) := by
  intro c
  induction c with
  | zero => intro j h; omega
  | succ c ih =>
    intro j _ hj
    obtain ⟨hz8, hz16, -, -, -, hpo, -⟩ := K_small hK
    have hjl : j < e.p.length := by omega
    have hend : (j + 1) * K.z ≤ e.p.length * K.z := Nat.mul_le_mul_right _ hjl
    rw [Nat.succ_mul] at hend
    by_cases hin : n < pre.length + j * K.z + K.z
    · refine ⟨fun h => by omega, fun _ => ?_⟩
      rw [vtParts, if_pos hin]
      exact (by decide : (2 : Nat) ≠ 0)
    · obtain ⟨t, ht⟩ := vePs_split K big e j e.p.length hjl
      have hx : e.p.getD j [] = e.p[j] := by simp [hjl]
      rw [hx] at ht
      have hm : nx j e.p.length K.z < 4294967296 := by unfold nx; split <;> omega
      have htold := part_told hK e.p[j] (ok.2 _ (List.getElem_mem hjl)) (nx j e.p.length K.z) hm (pre ++ vePs K big e j) (t ++ post) big
      have hl2 : pre ++ vePs K big e j ++ rowB big (K.pq e.p[j] (nx j e.p.length K.z)) ++ (t ++ post) = l := by rw [hl, ht]; simp only [List.append_assoc]
      rw [hl2, List.length_append, len_vePs hK] at htold
      have g1 : G (pre.length + j * K.z + (K.z - 4)) 4 = nx j e.p.length K.z := by rw [hG _ _ (by omega)]; exact htold.1
      have g2 : vePt K G (pre.length + j * K.z) = e.p[j] := by
        rw [← htold.2]
        unfold vePt
        refine List.map_congr_left fun o ho => hG _ _ ?_
        have := hpo o ho
        omega
      rw [vtParts, if_neg hin, g1]
      by_cases hc : c = 0
      · subst hc
        have e1 : nx j e.p.length K.z = 0 := by unfold nx; rw [if_pos (by omega)]
        rw [if_pos rfl, if_pos e1]
        refine ⟨fun _ => ⟨_, rfl, ?_⟩, fun h => ?_⟩
        · rw [List.map_cons, List.map_nil, g2, List.drop_eq_getElem_cons hjl, List.drop_eq_nil_of_le (by omega)]
        · have : e.p.length = j + 1 := by omega
          rw [this, Nat.succ_mul] at h
          omega
      · have e1 : nx j e.p.length K.z = K.z := by unfold nx; rw [if_neg (by omega)]
        rw [if_neg hc, e1, if_neg (Nat.lt_irrefl _)]
        have := ih (j + 1) (by omega) (by omega)
        rw [Nat.succ_mul, ← Nat.add_assoc] at this
        refine ⟨fun h => ?_, fun h => this.2 h⟩
        obtain ⟨T, hT, hv⟩ := this.1 h
        rw [hT]
        exact ⟨_, rfl, by rw [List.map_cons, g2, hv, List.drop_eq_getElem_cons hjl]⟩

theorem all_step {K : VK} (hK : K.Is) (big : Bool) (L : List Ve) (ok : ∀ e ∈ L, e.Ok K ∧ e.May = true) (post l : List UInt8) (hl : l = vsB K big L ++ post) (G : Nat → Nat → Nat) (n : Nat) (hG : ∀ q wd, q + wd ≤ n → G q wd = vG l big q wd) (d i f : Nat) (hi : i + (d + 1) = L.length) (hf : 1 ≤ f) (hn : n < (vsP K big L i).length + f)
    (ih : d ≠ 0 → ∀ f', 1 ≤ f' → n < (vsP K big L (i + 1)).length + f' → ((vsB K big L).length ≤ n → ∃ T, vtAll K G n f' (vsP K big L (i + 1)).length = (T, 0, 0) ∧ T.map (veOf K G) = L.drop (i + 1)) ∧
      (n < (vsB K big L).length → (vtAll K G n f' (vsP K big L (i + 1)).length).2.1 ≠ 0)) :
    ((vsB K big L).length ≤ n → ∃ T, vtAll K G n f (vsP K big L i).length = (T, 0, 0) ∧ T.map (veOf K G) = L.drop i) ∧
    (n < (vsB K big L).length → (vtAll K G n f (vsP K big L i).length).2.1 ≠ 0) := by
  obtain ⟨hz8, hz16, hS16, hS20, hcp, hpo, hho⟩ := K_small hK
  have hil : i < L.length := by omega
  have hle := vsP_mono hK big L (show i + 1 ≤ L.length by omega)
  have hsucc := len_vsP_succ hK big L i
  have heq : veAt L i = L[i] := by simp [veAt, hil]
  obtain ⟨t, ht⟩ := vsP_split K big L i L.length hil
  rw [heq] at hsucc ht
  obtain ⟨hok, hmay⟩ := ok L[i] (List.getElem_mem hil)
  generalize hQ : L[i] = e at *
  unfold Ve.May at hmay
  rw [Bool.and_eq_true, decide_eq_true_iff, decide_eq_true_iff] at hmay
  obtain ⟨f, rfl⟩ : ∃ f', f = f' + 1 := ⟨f - 1, by omega⟩
  rw [show vsB K big L = vsP K big L L.length from rfl] at *
  by_cases hin : n < (vsP K big L i).length + K.S
  · refine ⟨fun h => by omega, fun _ => ?_⟩
    rw [vtAll, if_pos hin]
    exact (by decide : (2 : Nat) ≠ 0)
  · have hle2 : K.z * e.p.length ≤ 16 * 65535 := Nat.mul_le_mul hz16 hmay.2
    have hm : nx i L.length (K.S + K.z * e.p.length) < 4294967296 := by unfold nx; split <;> omega
    have hl2 : l = vsP K big L i ++ rowB big (K.hq e.h e.p.length (nx i L.length (K.S + K.z * e.p.length))) ++ (vePs K big e e.p.length ++ t ++ post) := by
      rw [hl, ht, veH]; simp only [List.append_assoc]
    obtain ⟨t1, t2, t3, t4, t5⟩ := head_told hK e.h hok.1 e.p.length _ (by omega) hm _ _ big l hl2
    have hl3 : l = (vsP K big L i ++ veH K big L i e) ++ vePs K big e e.p.length ++ (t ++ post) := by
      rw [hl, ht]; simp only [List.append_assoc]
    have hP := parts_back hK big e hok _ _ l hl3 G n hG e.p.length 0 (by omega) (by omega)
    rw [Nat.zero_mul, Nat.add_zero, List.length_append, veH, len_hq hK, List.drop_zero] at hP
    rw [← hG _ _ (by omega)] at t1 t2 t3 t4
    have t6 : (K.ho.map fun o => G ((vsP K big L i).length + o.1) o.2) = e.h := by
      rw [← t5]
      refine List.map_congr_left fun o ho => hG _ _ ?_
      have := hho o ho
      omega
    have hw : vWell K G (vsP K big L i).length = true := by
      unfold vWell
      rw [t1, t2, t3]
      simp
      intro h0
      rw [h0] at hmay
      simp at hmay
    have h1 : vtOne K G n (vsP K big L i).length = vtParts G n K.z e.p.length ((vsP K big L i).length + K.S) := by unfold vtOne; rw [t2, t3]
    have h2 : vNext K G (vsP K big L i).length = nx i L.length (K.S + K.z * e.p.length) := t4
    rw [vtAll, if_neg hin, if_neg (by rw [hw]; decide), h1, h2]
    by_cases hwh : n < (vsP K big L i).length + K.S + e.p.length * K.z
    · have hb := hP.2 hwh
      rw [if_pos hb]
      exact ⟨fun h => by omega, fun _ => hb⟩
    · obtain ⟨T, hT, hTv⟩ := hP.1 (by omega)
      rw [hT]
      rw [if_neg (by simp)]
      have hv : veOf K G ((vsP K big L i).length, T) = e := by unfold veOf; rw [t6, hTv]
      by_cases hd : d = 0
      · have e1 : nx i L.length (K.S + K.z * e.p.length) = 0 := by unfold nx; rw [if_pos (by omega)]
        rw [if_pos e1]
        refine ⟨fun _ => ⟨_, rfl, ?_⟩, fun h => ?_⟩
        · rw [List.map_cons, List.map_nil, hv, ← hQ, List.drop_eq_getElem_cons hil, List.drop_eq_nil_of_le (by omega)]
        · have : L.length = i + 1 := by omega
          rw [this] at h
          omega
      · have e1 : nx i L.length (K.S + K.z * e.p.length) = K.S + K.z * e.p.length := by unfold nx; rw [if_neg (by omega)]
        rw [e1, if_neg (by omega), if_neg (by omega)]
        have e2 : (vsP K big L i).length + (K.S + K.z * e.p.length) = (vsP K big L (i + 1)).length := by rw [hsucc, Nat.mul_comm]; omega
        rw [e2]
        have := ih hd f (by omega) (by omega)
        refine ⟨fun h => ?_, fun h => this.2 h⟩
        obtain ⟨T', hT', hv'⟩ := this.1 h
        rw [hT']
        exact ⟨_, rfl, by rw [List.map_cons, hv, hv', List.drop_eq_getElem_cons hil, hQ]⟩

theorem all_back {K : VK} (hK : K.Is) (big : Bool) (L : List Ve) (ok : ∀ e ∈ L, e.Ok K ∧ e.May = true) (post l : List UInt8) (hl : l = vsB K big L ++ post) (G : Nat → Nat → Nat) (n : Nat) (hG : ∀ q wd, q + wd ≤ n → G q wd = vG l big q wd) :
    ∀ (d i f : Nat), i + (d + 1) = L.length → 1 ≤ f → n < (vsP K big L i).length + f →
      ((vsB K big L).length ≤ n → ∃ T, vtAll K G n f (vsP K big L i).length = (T, 0, 0) ∧ T.map (veOf K G) = L.drop i) ∧
      (n < (vsB K big L).length → (vtAll K G n f (vsP K big L i).length).2.1 ≠ 0) := by
  intro d
  induction d with
  | zero =>
    intro i f hi hf hn
    exact all_step hK big L ok post l hl G n hG 0 i f hi hf hn (fun h => absurd rfl h)
  | succ d ih =>
    intro i f hi hf hn
    exact all_step hK big L ok post l hl G n hG (d + 1) i f hi hf hn (fun _ f' h1 h2 => ih (i + 1) f' (by omega) h1 h2)

/-- What was put is told, whatever stands behind it. -/
theorem ans_back {K : VK} (hK : K.Is) (big : Bool) (L : List Ve) (ok : ∀ e ∈ L, e.Ok K ∧ e.May = true) (h0 : 0 < L.length) (post : List UInt8) : vAns K (vsB K big L ++ post) big = (L, 0, 0) := by
  have h := all_back hK big L ok post _ rfl (vG (vsB K big L ++ post) big) (vsB K big L ++ post).length (fun _ _ _ => rfl) (L.length - 1) 0 ((vsB K big L ++ post).length + 1) (by omega) (by omega) (by simp [vsP])
  obtain ⟨T, hT, hv⟩ := h.1 (by simp)
  have hpos : (vsB K big L ++ post).length ≠ 0 := by
    have h1 := vsP_mono hK big L (show 1 ≤ L.length by omega)
    have h2 : (vsP K big L 1).length = _ := len_vsP_succ hK big L 0
    have := (K_small hK).2.2.1
    have h3 : (vsP K big L 0).length = 0 := rfl
    rw [List.length_append, vsB]; omega
  unfold vAns
  rw [if_neg hpos]
  simp only [vsP, List.length_nil] at hT
  rw [hT]
  rw [hv, List.drop_zero]
/-- Cut off it isn't. -/
theorem ans_cut {K : VK} (hK : K.Is) (big : Bool) (L : List Ve) (ok : ∀ e ∈ L, e.Ok K ∧ e.May = true) (h0 : 0 < L.length) (k : Nat) (hk : k < (vsB K big L).length) (hk0 : 0 < k) : (vAns K ((vsB K big L).take k) big).2.1 ≠ 0 := by
  have hlen : ((vsB K big L).take k).length = k := by rw [List.length_take]; omega
  have h := all_back hK big L ok [] (vsB K big L) (by simp) (vG ((vsB K big L).take k) big) k (fun q wd h => vG_take _ _ _ _ _ h) (L.length - 1) 0 (k + 1) (by omega) (by omega) (by simp [vsP])
  have h2 := h.2 hk
  unfold vAns
  rw [hlen, if_neg (by omega)]
  simpa [vsP] using h2
theorem vsB_pos {K : VK} (hK : K.Is) (big : Bool) (L : List Ve) (h0 : 0 < L.length) : 0 < (vsB K big L).length := by
  have h1 := vsP_mono hK big L (show 1 ≤ L.length by omega)
  have h2 : (vsP K big L 1).length = _ := len_vsP_succ hK big L 0
  have := (K_small hK).2.2.1
  have h3 : (vsP K big L 0).length = 0 := rfl
  rw [vsB]; omega
end Go.Proofs.Ytfnaigeakfgpbaa
