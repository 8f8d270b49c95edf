/-
  Small words for the walk of PlanApart: a plan that may be, what its rows read as, what the law asks of them; append of one number that tells which blocks stay.
-/
import Derived.Test.YthebemikhjglbaaPlApart
import Derived.Test.YthebemikhjglbaaUp15
import Derived.Test.YthebemikhjglbaaMdFew
import Derived.Test.YthebemikhjglbaaRefSizes
import Derived.Test.YthebemikhjglbaaRefWithin
import Derived.Test.YthebemikhjglbaaRfSpan
import Derived.Test.YthebemikhjglbaaRfPow
import Derived.Test.YthebemikhjglbaaAppM
import Derived.Test.YthebemikhjglbaaCut
namespace Go.Proofs.Ythebemikhjglbaa
open Go.RowKit

theorem segC_own {m : Md} {s : Sg} (h : m.segC s = 0) (ht : s.typ = 1) : s.pl.inn = -1 := by
  unfold Md.segC at h
  split at h
  · omega
  split at h
  · omega
  split at h
  · omega
  split at h
  · omega
  · rename_i h1
    omega
theorem planned_of {m : Md} (ok : m.Ok) (h : m.planC = 0) (hl : ∀ s ∈ m.segs, s.pl.own.length ≤ maxLen) (hl2 : ∀ s ∈ m.secs, s.pl.own.length ≤ maxLen) : Planned m := by
  unfold Md.planC at h
  split at h
  · omega
  · rename_i h1
    have hc : m.chk = 0 := by omega
    split at h
    · rename_i h2
      exact ⟨plan_ok ok hc hl hl2, fun k hk ht => segC_own ((Md.chk_zero hc).1 _ (m.sg_mem hk)) ht, h2⟩
    · omega
/-- A row, and whatever has grown since. -/
def RowAt (w : World) (B n : Nat) (A : Option Addr) (f : Nat → Nat) : Prop := ∃ b off, A = some ⟨b, off, none⟩ ∧ b < B ∧ ∀ i, i < n → w.cell? ⟨b, off + i, none⟩ = some (.int .u64 (f i : Int))
theorem row_on {w w' : World} {n : Nat} {A : Option Addr} {f : Nat → Nat} (hg : Grow w w') (h : RowAt w w.heap.size n A f) : RowAt w' w'.heap.size n A f := by
  obtain ⟨b, off, e, hb, hc⟩ := h
  exact ⟨b, off, e, Nat.lt_of_lt_of_le hb hg.size, fun i hi => (Below.cell hg hb).trans (hc i hi)⟩

/-- The row of a plan: its cells. -/
theorem nsp_cells {w : World} {B n c : Nat} {A : Option Addr} {f : Nat → Nat} {N : Nat} (h : NS w B .u64 A n c ((List.range N).map f)) (hN : n = N) : ∀ j, j < n → RowAt w B n A f := fun j hj => by
  obtain ⟨b, off, e, hb, hc⟩ := h.pos (by omega)
  refine ⟨b, off, e, hb, fun i hi => ?_⟩
  have := hc i (by simp; omega)
  simpa using this

/-- What the law asks of a segment, of a section. -/
theorem Planned.seg_in {m : Md} (h : Planned m) {k : Nat} (hk : k < m.segs.length) (hi : (m.sg k).pl.inn ≠ -1) : (m.sg k).typ ≠ 1 ∧ ∃ i : Nat, (m.sg k).pl.inn = (i : Int) ∧ i < m.segs.length ∧ m.P2 k = m.P2 i + (m.sg k).pl.off ∧ m.P2 k < 18446744073709551616 := by
  have ht : (m.sg k).typ ≠ 1 := fun e => hi (h.load k hk e)
  refine ⟨ht, ?_⟩
  rcases (h.ok.sg k hk).pl ht with a | ⟨i, a, b, c, d⟩
  · exact absurd a hi
  · have e1 : m.P2 i = m.P1 i := by unfold Md.P2; rw [if_pos c]
    have e2 : m.P2 k = m.P1 i + (m.sg k).pl.off := by unfold Md.P2; rw [if_neg ht, if_neg hi, a]; rfl
    have := m.P1_le i
    exact ⟨i, a, b, by rw [e1, e2], by omega⟩
theorem Planned.sec_in {m : Md} (h : Planned m) {k : Nat} (hk : k < m.secs.length) (hi : (m.se k).pl.inn ≠ -1) : ∃ i : Nat, (m.se k).pl.inn = (i : Int) ∧ i < m.segs.length ∧ m.P3 k = m.P2 i + (m.se k).pl.off ∧ m.P3 k < 18446744073709551616 := by
  rcases h.ok.se k hk with a | ⟨i, a, b, c⟩
  · exact absurd a hi
  · have e2 : m.P3 k = m.P2 i + (m.se k).pl.off := by unfold Md.P3; rw [if_neg hi, a]; rfl
    exact ⟨i, a, b, e2, by omega⟩
theorem Planned.seg_mod {m : Md} (h : Planned m) {k : Nat} (hk : k < m.segs.length) (ht : (m.sg k).typ = 1) (ha : 1 < (m.sg k).align) (hv : (m.sg k).vaddr < 18446744073709551616) :
    ((m.P2 k + (18446744073709551616 - (m.sg k).vaddr)) % 18446744073709551616) % (m.sg k).align = 0 := by
  have hs := h.ok.sg k hk
  have hm := nxt_mod (e := m.eL k) (v := (m.sg k).vaddr) (m.eL_le h.ok.n1 k) hs.align hs.ones
  rw [← (h.load_at hk ht).2.2] at hm
  obtain ⟨q, hq, hM⟩ := pow_of hs.align hs.ones
  rw [show max (m.sg k).align 1 = (m.sg k).align by omega] at hm hM
  rw [hM] at hm ⊢
  rw [Nat.mod_mod_of_dvd _ (pow_dvd hq)]
  obtain ⟨c, hc⟩ := pow_dvd hq
  rw [Nat.add_mod, hm, ← Nat.add_mod, show (m.sg k).vaddr + (18446744073709551616 - (m.sg k).vaddr) = 18446744073709551616 by omega, hc, Nat.mul_mod_right]
theorem Planned.P2_lt {m : Md} (h : Planned m) {k : Nat} (hk : k < m.segs.length) (hi : (m.sg k).pl.inn = -1) : m.P2 k + (m.sg k).pl.size ≤ 65536 := by
  by_cases ht : (m.sg k).typ = 1
  · have a := h.load_at hk ht
    have b := h.eL_in (k := k + 1) hk
    omega
  · have a := h.other_at hk ht hi
    have b := h.eO_in (k := k + 1) hk
    omega
theorem Planned.P3_lt {m : Md} (h : Planned m) {k : Nat} (hk : k < m.secs.length) (hi : (m.se k).pl.inn = -1) : m.P3 k + (m.se k).pl.size ≤ 65536 := by
  have a := h.sec_at hk hi
  have b := h.eS_in (k := k + 1) hk
  omega

theorem ap_meet {x y : Nat × Nat} (h : Ap x y) (hx : x.1 + x.2 ≤ 65536) (hy : y.1 + y.2 ≤ 65536) : meetN x.1 x.2 y.1 y.2 = false := by
  unfold meetN lastN
  rw [decide_eq_false_iff_not]
  unfold Ap at h
  omega
theorem Planned.pair {m : Md} (h : Planned m) {i k : Nat} (hik : i < k) (hk : k < (allP m).length) : meetN ((allP m).getD i (0, 0)).1 ((allP m).getD i (0, 0)).2 ((allP m).getD k (0, 0)).1 ((allP m).getD k (0, 0)).2 = false := by
  have hf := h.fits
  have hi : i < (allP m).length := by omega
  have a := List.pairwise_iff_getElem.1 h.all_ap i k hi hk hik
  have b := h.all_in _ (List.getElem_mem hi)
  have c := h.all_in _ (List.getElem_mem hk)
  rw [List.getD_eq_getElem?_getD, List.getD_eq_getElem?_getD, List.getElem?_eq_getElem hi, List.getElem?_eq_getElem hk]
  show meetN (allP m)[i].1 (allP m)[i].2 (allP m)[k].1 (allP m)[k].2 = false
  generalize (allP m)[i] = x at a b
  generalize (allP m)[k] = y at a c
  exact ap_meet a (by rcases b with b | b <;> omega) (by rcases c with c | c <;> omega)
theorem Planned.within {m : Md} (h : Planned m) {k : Nat} (hk : k < (allP m).length) : ((allP m).getD k (0, 0)).1 + ((allP m).getD k (0, 0)).2 ≤ m.eT ∧ m.eT ≤ 65536 := by
  have c := h.all_in _ (List.getElem_mem hk)
  rw [List.getD_eq_getElem?_getD, List.getElem?_eq_getElem hk]
  refine ⟨?_, h.fits⟩
  show (allP m)[k].1 + (allP m)[k].2 ≤ m.eT
  rcases c with c | c <;> omega
theorem allP_len (m : Md) (h : Planned m) : (allP m).length ≤ 83 := by
  have a := baseP_len m
  have b := segP_len m m.segs.length
  have c := secP_len m m.secs.length
  have d := h.ok.n1
  have e := h.ok.n2
  unfold allP
  rw [List.length_append, List.length_append]
  omega

/-- The block of a slice. -/
def ownB (A : Option Addr) : Option Nat := A.map (·.block)
theorem own_sliceB (A : Option Addr) (n c : Nat) : (Value.slice A n c).ownBlock = ownB A := by cases A <;> rfl
theorem ON.grownBy {w w' : World} {base : Nat} {e : TypeId} {k : IntKind} {A : Option Addr} {n c : Nat} {q : List Nat} {row : Option Nat} (h : ON w base e k A n c q) (hg : w.grownBy w' row) (hne : ownB A = none ∨ ownB A ≠ row) : ON w' base e k A n c q := World.ownsRow.kept h hg (by rw [own_sliceB]; exact hne)
theorem ON.ltB {w : World} {base : Nat} {e : TypeId} {k : IntKind} {A : Option Addr} {n c : Nat} {q : List Nat} (h : ON w base e k A n c q) {g : Nat} (hg : ownB A = some g) : base ≤ g ∧ g < w.heap.size := World.ownsRow.lt h g (by rw [own_sliceB]; exact hg)
/-- append of one number: which blocks stay, and where the new row stands. -/
theorem wpList_append1P {P : Program} (w : World) {ops : Array Oper} {rest : List Oper} {o : Oper} {a : Act} {Q : Exit → Act → World → Prop} (hgd : o.guard = none) (s x : Operand) (t : TypeId)
    (ho : o.op = .call { callee := .builtin .append, args := #[s, x], argTypes := #[t, t] })
    (base : Nat) (e : TypeId) (k : IntKind) (bytes : Nat) (ht : P.underlying t = some (.slice e)) (hinfo : (P.info? e).map (fun i => (i.zero, i.size, i.bytes)) = some (some (.int k 0), 1, bytes))
    (A : Option Addr) (n c : Nat) (l : List Nat) (hs : a.eval s = .slice A n c) (hown : ON w base e k A n c l)
    (g : Nat) (t' : TypeId) (y : Nat) (hx : a.eval x = .slice (some ⟨g, 0, none⟩) 1 1) (hr : Blk w g t' #[.int k (y : Int)])
    (h63 : n + 1 ≤ maxLen) (hsz : (n + 1) * bytes ≤ 140737488355328) (hbase : base ≤ w.heap.size)
    (h : ∀ A2 c2 w', ON w' base e k A2 (n + 1) c2 (l ++ [y]) → w.grownBy w' (ownB A) → (ownB A2 = ownB A ∨ ownB A2 = some w.heap.size) → wpList P ops Q rest (a.put o.dst (.slice A2 (n + 1) c2)) w') : wpList P ops Q (o :: rest) a w := by
  refine wpList_plain hgd fun K hK => ?_
  obtain ⟨i, hi, hz, hs1, hby⟩ := info_parts hinfo
  obtain ⟨v', w', hrun, h2, h3, _, h5⟩ := run_append_own_at (P := P) w base t o.type e i (.int k 0) 1 bytes ht hi hz hs1 hby rfl (by omega) _ n _ hown ⟨g, 0, none⟩ 1 1 [.int k (y : Int)]
    rfl (fun j u hj => by
      have hj0 : j = 0 := by
        rcases Nat.eq_zero_or_pos j with h0 | h0
        · exact h0
        · rw [List.getElem?_eq_none (by simp; omega)] at hj; cases hj
      subst hj0
      have e2 : (⟨g, 0, none⟩ : Addr).add 0 = ⟨g, 0, none⟩ := by unfold Addr.add; split <;> simp_all
      rw [e2, hr.at]
      simpa using hj) (by intro u hu; simp at hu; subst hu; rfl) h63 hsz hbase
  rw [own_sliceB] at h3 h5
  have hv : ∃ A2 c2, v' = .slice A2 (n + 1) c2 := by
    rcases h2.2 with ⟨h0, h1⟩ | ⟨g, cap, cur, h0, _⟩
    · omega
    · exact ⟨_, _, h0⟩
  obtain ⟨A2, c2, rfl⟩ := hv
  rw [own_sliceB] at h5
  unfold Oper.wp execOp
  simp only [ho, resolve, invoke, builtin, Sem.run_bind, Sem.run_pure, Result.andThen_ok, List.map_toArray, List.map_cons, List.map_nil, hs, hx, hrun]
  exact hK _ _ (h A2 c2 w' (by simpa [ON, ival] using h2) h3 h5)

theorem grow_below {w a b : World} (h : Grow w a) (k : Below w.heap.size a b) : Below w.heap.size w b := Below.trans h k

/-- Two rows of the call's own, apart, that read as pairs. -/
structure Pr (w : World) (base : Nat) (A : Option Addr) (c : Nat) (A' : Option Addr) (c' n : Nat) (L : List (Nat × Nat)) : Prop where
  len : n = L.length
  f : ON w base 28 .u64 A n c (L.map (·.1))
  s : ON w base 28 .u64 A' n c' (L.map (·.2))
  ap : ownB A ≠ ownB A'
theorem Pr.cells {w : World} {base c c' n : Nat} {A A' : Option Addr} {L : List (Nat × Nat)} (h : Pr w base A c A' c' n L) (hn : 0 < n) : ∃ b o b' o', A = some ⟨b, o, none⟩ ∧ A' = some ⟨b', o', none⟩ ∧ b < w.heap.size ∧ b' < w.heap.size ∧
    ∀ j, j < n → w.cell? ⟨b, o + j, none⟩ = some (.int .u64 ((L.getD j (0, 0)).1 : Nat)) ∧ w.cell? ⟨b', o' + j, none⟩ = some (.int .u64 ((L.getD j (0, 0)).2 : Nat)) := by
  obtain ⟨b, o, e1, h1, c1⟩ := h.f.ns.pos hn
  obtain ⟨b', o', e2, h2, c2⟩ := h.s.ns.pos hn
  refine ⟨b, o, b', o', e1, e2, h1, h2, fun j hj => ?_⟩
  have hl : j < L.length := by rw [← h.len]; exact hj
  have a := c1 j (by simpa using hl)
  have d := c2 j (by simpa using hl)
  rw [List.getD_eq_getElem?_getD, List.getElem?_eq_getElem hl]
  refine ⟨?_, ?_⟩
  · rw [a]; simp
  · rw [d]; simp
theorem Pr.grow {w w' : World} {base c c' n : Nat} {A A' : Option Addr} {L : List (Nat × Nat)} (h : Pr w base A c A' c' n L) (hg : Grow w w') : Pr w' base A c A' c' n L := ⟨h.len, h.f.keep hg, h.s.keep hg, h.ap⟩
end Go.Proofs.Ythebemikhjglbaa
