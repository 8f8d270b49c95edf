/-
  Slices of numbers: what is read from them, and one more appended. No program's function is spoken of here.
-/
import Derived.Test.YtahmdccalgdiaaaBlk
import Derived.Maps.AppendAt
namespace Go.Proofs.Ytahmdccalgdiaaa
open Go.RowKit

def ival (k : IntKind) (n : Nat) : Value := .int k (n : Int)

/-- The slice (A, n, c) reads as the numbers l; its cells lie below block B. -/
structure NS (w : World) (B : Nat) (k : IntKind) (A : Option Addr) (n c : Nat) (l : List Nat) : Prop where
  len : n = l.length
  cap : n ≤ c
  max : c ≤ maxLen
  pos : 0 < n → ∃ b off, A = some ⟨b, off, none⟩ ∧ b < B ∧ ∀ j (h : j < l.length), w.cell? ⟨b, off + j, none⟩ = some (.int k (l[j] : Int))

section
variable {w w' : World} {B : Nat} {k : IntKind} {A : Option Addr} {n c : Nat} {l : List Nat}
theorem NS.keep (h : NS w B k A n c l) (hk : ∀ p : Addr, p.block < B → w'.cell? p = w.cell? p) : NS w' B k A n c l :=
  ⟨h.len, h.cap, h.max, fun hn => by
    obtain ⟨b, off, e, hb, hc⟩ := h.pos hn
    exact ⟨b, off, e, hb, fun j hj => (hk ⟨b, off + j, none⟩ hb).trans (hc j hj)⟩⟩
theorem NS.belowAt {B0 : Nat} (h : NS w B k A n c l) (hb : Below B0 w w') (hB : B ≤ B0) : NS w' B k A n c l := h.keep fun _ hp => hb.cell (by omega)
theorem NS.more {B' : Nat} (h : NS w B k A n c l) (hB : B ≤ B') : NS w B' k A n c l :=
  ⟨h.len, h.cap, h.max, fun hn => by
    obtain ⟨b, off, e, hb, hc⟩ := h.pos hn
    exact ⟨b, off, e, by omega, hc⟩⟩
theorem NS.of_blk {g : Nat} {t : TypeId} {cs : Array Value} (h : Blk w g t cs) (hcs : cs = (l.map (ival k)).toArray) (hB : g < B) (hm : l.length ≤ maxLen) : NS w B k (some ⟨g, 0, none⟩) l.length l.length l :=
  ⟨rfl, Nat.le_refl _, hm, fun _ => ⟨g, 0, rfl, hB, fun j hj => by rw [Nat.zero_add, h.at, hcs]; simp [hj, ival]⟩⟩
/-- The first m of them. -/
theorem NS.first {m : Nat} (h : NS w B k A n c l) (hm : m ≤ n) : NS w B k A m c (l.take m) :=
  ⟨by have := h.len; simp; omega, by have := h.cap; omega, h.max, fun hp => by
    obtain ⟨b, off, e, hb, hc⟩ := h.pos (by omega)
    exact ⟨b, off, e, hb, fun j hj => by
      have hj2 : j < l.length := by simp at hj; omega
      rw [hc j hj2]; simp⟩⟩
end

/-- The slice is the call's own, and holds the numbers l. -/
def ON (w : World) (base : Nat) (e : TypeId) (k : IntKind) (A : Option Addr) (n c : Nat) (l : List Nat) : Prop :=
  w.ownsRow base e 1 (.slice A n c) n (l.map (ival k))
section
variable {w : World} {base : Nat} {e : TypeId} {k : IntKind} {A : Option Addr} {n c : Nat} {l : List Nat}
theorem ON.nil : ON w base e k none 0 0 [] := World.ownsRow_nil _ _ _ _
theorem ON.keep {w' : World} (h : ON w base e k A n c l) (hb : Below w.heap.size w w') : ON w' base e k A n c l := by
  refine ⟨h.1, ?_⟩
  rcases h.2 with h0 | ⟨g, cap, cur, hv, hg, hh, r⟩
  · exact .inl h0
  · refine .inr ⟨g, cap, cur, hv, hg, ?_, r⟩
    rw [hb.block g ?_]
    · exact hh
    · rcases Nat.lt_or_ge g w.heap.size with h1 | h1
      · exact h1
      · rw [Array.getElem?_eq_none h1] at hh; cases hh
theorem ON.ns (h : ON w base e k A n c l) : NS w w.heap.size k A n c l := by
  have hl : n = l.length := by have := h.1; simp at this; omega
  rcases h.2 with ⟨e0, h0⟩ | ⟨g, cap, cur, hv, _, hh, hnc, hcm, hsz, htk⟩
  · injection e0 with e1 e2 e3
    subst e1; subst e3
    exact ⟨hl, by omega, Nat.zero_le _, fun hp => by omega⟩
  · injection hv with hA _ hc
    subst hA; subst hc
    refine ⟨hl, hnc, hcm, fun _ => ⟨g, 0, rfl, ?_, fun j hj => ?_⟩⟩
    · rcases Nat.lt_or_ge g w.heap.size with h1 | h1
      · exact h1
      · rw [Array.getElem?_eq_none h1] at hh; cases hh
    · rw [cell_of_row w g (0 + j) cur e (0, 0) hh, Nat.zero_add]
      have e1 : (cur.toList.take (n * 1))[j]? = some (Value.int k (l[j] : Int)) := by
        rw [htk]; simp [hj, ival]
      rw [List.getElem?_take_of_lt (by omega)] at e1
      simpa using e1
end

theorem run_append1 {P : Program} (w : World) (base : Nat) (t ty e : TypeId) (k : IntKind) (bytes : Nat) (ht : P.underlying t = some (.slice e))
    (hinfo : (P.info? e).map (fun i => (i.zero, i.size, i.bytes)) = some (some (.int k 0), 1, bytes))
    (A : Option Addr) (n c : Nat) (l : List Nat) (hown : ON w base e k A n c l) (g : Nat) (t' : TypeId) (x : Nat) (hr : Blk w g t' #[.int k (x : Int)])
    (h63 : n + 1 ≤ maxLen) (hsz : (n + 1) * bytes ≤ 140737488355328) (hbase : base ≤ w.heap.size) :
    ∃ A2 c2 w', (Builtin.append_ #[t, t] ty #[.slice A n c, .slice (some ⟨g, 0, none⟩) 1 1]).run P w = .ok (.slice A2 (n + 1) c2) w' ∧ ON w' base e k A2 (n + 1) c2 (l ++ [x]) ∧ Below base w w' := by
  obtain ⟨i, hi, hz, hs, hby⟩ := info_parts hinfo
  obtain ⟨v', w', hrun, h2, h3, _, _⟩ := run_append_own_at (P := P) w base t ty e i (.int k 0) 1 bytes ht hi hz hs hby rfl (by omega) _ n _ hown ⟨g, 0, none⟩ 1 1 [.int k (x : Int)]
    rfl (fun j u hj => by
      have hj0 : j = 0 := by
        rcases Nat.eq_zero_or_pos j with h0 | h0
        · exact h0
        · rw [List.getElem?_eq_none (by simp; omega)] at hj; cases hj
      subst hj0
      have e2 : (⟨g, 0, none⟩ : Addr).add 0 = ⟨g, 0, none⟩ := by unfold Addr.add; split <;> simp_all
      rw [e2, hr.at]
      simpa using hj) (by intro u hu; simp at hu; subst hu; rfl) h63 hsz hbase
  have hv : ∃ A2 c2, v' = .slice A2 (n + 1) c2 := by
    rcases h2.2 with ⟨h0, h1⟩ | ⟨g, cap, cur, h0, _⟩
    · omega
    · exact ⟨_, _, h0⟩
  obtain ⟨A2, c2, rfl⟩ := hv
  exact ⟨A2, c2, w', hrun, by simpa [ON, ival] using h2, (Below.refl base w).grown h3 hbase fun k hk => (World.ownsRow.lt hown k hk).1⟩

theorem wpList_append1 {P : Program} (w : World) {ops : Array Oper} {rest : List Oper} {o : Oper} {a : Act} {Q : Exit → Act → World → Prop} (hgd : o.guard = none) (s x : Operand) (t : TypeId)
    (ho : o.op = .call { callee := .builtin .append, args := #[s, x], argTypes := #[t, t] })
    (base : Nat) (e : TypeId) (k : IntKind) (bytes : Nat) (ht : P.underlying t = some (.slice e)) (hinfo : (P.info? e).map (fun i => (i.zero, i.size, i.bytes)) = some (some (.int k 0), 1, bytes))
    (A : Option Addr) (n c : Nat) (l : List Nat) (hs : a.eval s = .slice A n c) (hown : ON w base e k A n c l)
    (g : Nat) (t' : TypeId) (y : Nat) (hx : a.eval x = .slice (some ⟨g, 0, none⟩) 1 1) (hr : Blk w g t' #[.int k (y : Int)])
    (h63 : n + 1 ≤ maxLen) (hsz : (n + 1) * bytes ≤ 140737488355328) (hbase : base ≤ w.heap.size)
    (h : ∀ A2 c2 w', ON w' base e k A2 (n + 1) c2 (l ++ [y]) → Below base w w' → wpList P ops Q rest (a.put o.dst (.slice A2 (n + 1) c2)) w') : wpList P ops Q (o :: rest) a w := by
  refine wpList_plain hgd fun K hK => ?_
  obtain ⟨A2, c2, w', hrun, h2, h3⟩ := run_append1 (P := P) w base t o.type e k bytes ht hinfo A n c l hown g t' y hr h63 hsz hbase
  unfold Oper.wp execOp
  simp only [ho, resolve, invoke, builtin, Sem.run_bind, Sem.run_pure, Result.andThen_ok, List.map_toArray, List.map_cons, List.map_nil, hs, hx, hrun]
  exact hK _ _ (h A2 c2 w' h2 h3)
end Go.Proofs.Ytahmdccalgdiaaa
