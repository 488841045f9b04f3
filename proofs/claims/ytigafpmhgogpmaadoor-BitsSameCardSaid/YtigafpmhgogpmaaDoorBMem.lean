/-
  What stands in memory, carried through calls, new blocks and stores; blocks of four words.
-/
import Derived.Test.YtigafpmhgogpmaaDoorBPop
import Derived.Test.YtigafpmhgogpmaaDoorChecked
import Derived.WalkKit
import Derived.WalkSpells
import Derived.WalkLawsBesides
import Derived.Laws.Externs
import Derived.Lib.Hide
import Derived.Below
import Derived.Deep.QuietTactic
import Derived.BigQuiet
namespace Go.Proofs.YtigafpmhgogpmaaDoor
open Go.RowKit

theorem block_of_cell {w : World} {a : Addr} {v : Value} (h : w.cell? a = some v) : a.block < w.heap.size := by
  rcases Nat.lt_or_ge a.block w.heap.size with g | g
  · exact g
  · simp [World.cell?, Array.getElem?_eq_none g] at h

theorem bcell {W w1 : World} (hb : Below W.heap.size W w1) : (∀ b o, b < W.heap.size → w1.cell? ⟨b, o, none⟩ = W.cell? ⟨b, o, none⟩) ∧ (∀ b o, b < W.heap.size → w1.frozen? ⟨b, o, none⟩ = W.frozen? ⟨b, o, none⟩) :=
  ⟨fun b o h => hb.cell (p := ⟨b, o, none⟩) h, fun b o h => hb.frozen (p := ⟨b, o, none⟩) h⟩

/-- A cell that was there reads as it did. -/
theorem kept_cell {w w' : World} (hb : Below w.heap.size w w') {b o : Nat} {v : Value} (h : w.cell? ⟨b, o, none⟩ = some v) : w'.cell? ⟨b, o, none⟩ = some v := by
  rw [hb.cell (p := ⟨b, o, none⟩) (block_of_cell h)]; exact h
theorem kept_frozen {w w' : World} (hb : Below w.heap.size w w') {b o : Nat} {v : Value} (h : w.cell? ⟨b, o, none⟩ = some v) (hf : w.frozen? ⟨b, o, none⟩ = false) : w'.frozen? ⟨b, o, none⟩ = false := by
  rw [hb.frozen (p := ⟨b, o, none⟩) (block_of_cell h)]; exact hf

/-- The walk goes on in a world of which only so much is known. -/
theorem gen_world {P : Program} {c : Code} {Q : Exit → Act → World → Prop} {a : Act} {w : World} (S : World → Prop) (h : S w) (k : ∀ w', S w' → c.wp P Q a w') : c.wp P Q a w := k w h

/-- A block of four words, none of them frozen. -/
structure Four (w : World) (b : Nat) (x0 x1 x2 x3 : Nat) : Prop where
  c0 : w.cell? ⟨b, 0, none⟩ = some (.int .u64 x0)
  c1 : w.cell? ⟨b, 1, none⟩ = some (.int .u64 x1)
  c2 : w.cell? ⟨b, 2, none⟩ = some (.int .u64 x2)
  c3 : w.cell? ⟨b, 3, none⟩ = some (.int .u64 x3)
  f0 : w.frozen? ⟨b, 0, none⟩ = false
  f1 : w.frozen? ⟨b, 1, none⟩ = false
  f2 : w.frozen? ⟨b, 2, none⟩ = false
  f3 : w.frozen? ⟨b, 3, none⟩ = false

theorem Four.kept {w w' : World} {b x0 x1 x2 x3 : Nat} (h : Four w b x0 x1 x2 x3) (hb : Below w.heap.size w w') : Four w' b x0 x1 x2 x3 :=
  ⟨kept_cell hb h.c0, kept_cell hb h.c1, kept_cell hb h.c2, kept_cell hb h.c3, kept_frozen hb h.c0 h.f0, kept_frozen hb h.c1 h.f1, kept_frozen hb h.c2 h.f2, kept_frozen hb h.c3 h.f3⟩
theorem Four.lt {w : World} {b x0 x1 x2 x3 : Nat} (h : Four w b x0 x1 x2 x3) : b < w.heap.size := block_of_cell h.c0
theorem Four.alloc {w : World} {b x0 x1 x2 x3 : Nat} (h : Four w b x0 x1 x2 x3) (o : Obj) : Four (w.alloc o) b x0 x1 x2 x3 := h.kept ((Below.refl _ _).alloc (Nat.le_refl _) o)
theorem Four.new (w : World) (x0 x1 x2 x3 : Nat) (T : TypeId) : Four (w.alloc (.cells #[.int .u64 x0, .int .u64 x1, .int .u64 x2, .int .u64 x3] T)) w.heap.size x0 x1 x2 x3 :=
  ⟨by simp, by simp, by simp, by simp, by simp, by simp, by simp, by simp⟩
theorem Four.far {w : World} {b x0 x1 x2 x3 : Nat} (h : Four w b x0 x1 x2 x3) {p : Addr} (hp : b ≠ p.block) (v : Value) : Four (w.setCell p v) b x0 x1 x2 x3 := by
  have e : ∀ o, (⟨b, o, none⟩ : Addr) ≠ p := fun o e => hp (by rw [← e])
  refine ⟨?_, ?_, ?_, ?_, ?_, ?_, ?_, ?_⟩
  · rw [World.cell?_setCell_other _ _ _ _ (fun e2 => e 0 e2.symm)]; exact h.c0
  · rw [World.cell?_setCell_other _ _ _ _ (fun e2 => e 1 e2.symm)]; exact h.c1
  · rw [World.cell?_setCell_other _ _ _ _ (fun e2 => e 2 e2.symm)]; exact h.c2
  · rw [World.cell?_setCell_other _ _ _ _ (fun e2 => e 3 e2.symm)]; exact h.c3
  · simp; exact h.f0
  · simp; exact h.f1
  · simp; exact h.f2
  · simp; exact h.f3
theorem Four.set0 {w : World} {b x0 x1 x2 x3 : Nat} (h : Four w b x0 x1 x2 x3) (v : Nat) : Four (w.setCell ⟨b, 0, none⟩ (.int .u64 v)) b v x1 x2 x3 := by
  refine ⟨World.cell?_setCell_same _ _ _ h.c0, ?_, ?_, ?_, ?_, ?_, ?_, ?_⟩
  · rw [World.cell?_setCell_other _ _ _ _ (by simp)]; exact h.c1
  · rw [World.cell?_setCell_other _ _ _ _ (by simp)]; exact h.c2
  · rw [World.cell?_setCell_other _ _ _ _ (by simp)]; exact h.c3
  · simp; exact h.f0
  · simp; exact h.f1
  · simp; exact h.f2
  · simp; exact h.f3
theorem Four.set1 {w : World} {b x0 x1 x2 x3 : Nat} (h : Four w b x0 x1 x2 x3) (v : Nat) : Four (w.setCell ⟨b, 1, none⟩ (.int .u64 v)) b x0 v x2 x3 := by
  refine ⟨?_, World.cell?_setCell_same _ _ _ h.c1, ?_, ?_, ?_, ?_, ?_, ?_⟩
  · rw [World.cell?_setCell_other _ _ _ _ (by simp)]; exact h.c0
  · rw [World.cell?_setCell_other _ _ _ _ (by simp)]; exact h.c2
  · rw [World.cell?_setCell_other _ _ _ _ (by simp)]; exact h.c3
  · simp; exact h.f0
  · simp; exact h.f1
  · simp; exact h.f2
  · simp; exact h.f3
theorem Four.set2 {w : World} {b x0 x1 x2 x3 : Nat} (h : Four w b x0 x1 x2 x3) (v : Nat) : Four (w.setCell ⟨b, 2, none⟩ (.int .u64 v)) b x0 x1 v x3 := by
  refine ⟨?_, ?_, World.cell?_setCell_same _ _ _ h.c2, ?_, ?_, ?_, ?_, ?_⟩
  · rw [World.cell?_setCell_other _ _ _ _ (by simp)]; exact h.c0
  · rw [World.cell?_setCell_other _ _ _ _ (by simp)]; exact h.c1
  · rw [World.cell?_setCell_other _ _ _ _ (by simp)]; exact h.c3
  · simp; exact h.f0
  · simp; exact h.f1
  · simp; exact h.f2
  · simp; exact h.f3
theorem Four.set3 {w : World} {b x0 x1 x2 x3 : Nat} (h : Four w b x0 x1 x2 x3) (v : Nat) : Four (w.setCell ⟨b, 3, none⟩ (.int .u64 v)) b x0 x1 x2 v := by
  refine ⟨?_, ?_, ?_, World.cell?_setCell_same _ _ _ h.c3, ?_, ?_, ?_, ?_⟩
  · rw [World.cell?_setCell_other _ _ _ _ (by simp)]; exact h.c0
  · rw [World.cell?_setCell_other _ _ _ _ (by simp)]; exact h.c1
  · rw [World.cell?_setCell_other _ _ _ _ (by simp)]; exact h.c2
  · simp; exact h.f0
  · simp; exact h.f1
  · simp; exact h.f2
  · simp; exact h.f3

/-- A set is stored whole. -/
def set4 (w : World) (b x0 x1 x2 x3 : Nat) : World := (((w.setCell ⟨b, 0, none⟩ (.int .u64 x0)).setCell ⟨b, 1, none⟩ (.int .u64 x1)).setCell ⟨b, 2, none⟩ (.int .u64 x2)).setCell ⟨b, 3, none⟩ (.int .u64 x3)
theorem Four.set4 {w : World} {b y0 y1 y2 y3 : Nat} (h : Four w b y0 y1 y2 y3) (x0 x1 x2 x3 : Nat) : Four (set4 w b x0 x1 x2 x3) b x0 x1 x2 x3 := (((h.set0 x0).set1 x1).set2 x2).set3 x3
theorem Four.far4 {w : World} {b d y0 y1 y2 y3 : Nat} (h : Four w b y0 y1 y2 y3) (hne : b ≠ d) (x0 x1 x2 x3 : Nat) : Four (Go.Proofs.YtigafpmhgogpmaaDoor.set4 w d x0 x1 x2 x3) b y0 y1 y2 y3 :=
  (((h.far (p := ⟨d, 0, none⟩) hne _).far (p := ⟨d, 1, none⟩) hne _).far (p := ⟨d, 2, none⟩) hne _).far (p := ⟨d, 3, none⟩) hne _
theorem below_set4 {B : Nat} {W w : World} {d : Nat} (h : Below B W w) (hd : B ≤ d) (x0 x1 x2 x3 : Nat) : Below B W (set4 w d x0 x1 x2 x3) :=
  (((h.setCell (p := ⟨d, 0, none⟩) hd _).setCell (p := ⟨d, 1, none⟩) hd _).setCell (p := ⟨d, 2, none⟩) hd _).setCell (p := ⟨d, 3, none⟩) hd _
theorem set4_size (w : World) (b x0 x1 x2 x3 : Nat) : (set4 w b x0 x1 x2 x3).heap.size = w.heap.size := by simp [set4]

theorem cell_same {w w1 : World} (e : w1.heap = w.heap) (a : Addr) : w1.cell? a = w.cell? a := by unfold World.cell?; rw [e]
theorem frozen_same {w w1 : World} (e : w1.heap = w.heap) (a : Addr) : w1.frozen? a = w.frozen? a := by unfold World.frozen?; rw [e]
/-- The same, where the walk has drawn in between. -/
theorem Four.next {w w1 w2 : World} {b x0 x1 x2 x3 : Nat} (hb : Below w1.heap.size w1 w2) (h : Four w b x0 x1 x2 x3) (e : w1.heap = w.heap := by rfl) : Four w2 b x0 x1 x2 x3 := by
  refine Four.kept ?_ hb
  exact ⟨by rw [cell_same e]; exact h.c0, by rw [cell_same e]; exact h.c1, by rw [cell_same e]; exact h.c2, by rw [cell_same e]; exact h.c3, by rw [frozen_same e]; exact h.f0, by rw [frozen_same e]; exact h.f1, by rw [frozen_same e]; exact h.f2, by rw [frozen_same e]; exact h.f3⟩
theorem below_next {B : Nat} {W w w1 w2 : World} (hb : Below w1.heap.size w1 w2) (h : Below B W w) (hB : B ≤ W.heap.size) (e : w1.heap = w.heap := by rfl) (e1 : w1.os = w.os := by rfl) (e2 : w1.tape = w.tape := by rfl) (e3 : w1.output = w.output := by rfl) : Below B W w2 := by
  have hs : w1.heap.size = w.heap.size := by rw [e]
  have h1 : Below B W w1 := ⟨e1.trans h.os, e2.trans h.tape, e3.trans h.output, by rw [hs]; exact h.size, fun k hk => by rw [e]; exact h.block k hk⟩
  exact h1.trans (hb.mono (by rw [hs]; exact Nat.le_trans hB h.size))

/-- A slice of integers that came in. -/
def IsRow (k : IntKind) (w : World) (a : Option Addr) (len cap : Nat) (zs : List Int) : Prop :=
  (a = none ∧ len = 0 ∧ cap = 0 ∧ zs = []) ∨
  ∃ x, a = some x ∧ len ≤ cap ∧ cap ≤ maxLen ∧ zs.length = cap ∧ (∀ i, i < zs.length → w.cell? (x.add i) = some (.int k (zs.getD i 0))) ∧ ∀ n ∈ zs, (Lit.int k n).wf = true

/-- A row of ints that lies below block B. -/
def Reads (w : World) (B : Nat) (a : Option Addr) (zs : List Int) : Prop :=
  zs = [] ∨ ∃ b off, a = some ⟨b, off, none⟩ ∧ b < B ∧ ∀ k, k < zs.length → w.cell? ⟨b, off + k, none⟩ = some (.int .i64 (zs.getD k 0))

theorem Reads.below {w w' : World} {B : Nat} {a : Option Addr} {zs : List Int} (h : Reads w B a zs) (hb : Below B w w') : Reads w' B a zs := by
  rcases h with h | ⟨b, off, h1, h2, h3⟩
  · exact .inl h
  · exact .inr ⟨b, off, h1, h2, fun k hk => by rw [hb.cell (p := ⟨b, off + k, none⟩) h2]; exact h3 k hk⟩
theorem Reads.up {w : World} {B B' : Nat} {ao : Option Addr} {zs : List Int} (h : Reads w B ao zs) (hB : B ≤ B') : Reads w B' ao zs := by
  rcases h with h | ⟨b, off, h1, h2, h3⟩
  · exact .inl h
  · exact .inr ⟨b, off, h1, by omega, h3⟩
theorem Reads.later {w w' : World} {B : Nat} {ao : Option Addr} {zs : List Int} (h : Reads w B ao zs) (hB : B ≤ w.heap.size) (hb : Below B w w') : Reads w' w'.heap.size ao zs :=
  (h.below hb).up (Nat.le_trans hB hb.size)

theorem getD_take (zs : List Int) (n k : Nat) (h : k < n) : (zs.take n).getD k 0 = zs.getD k 0 := by
  simp only [List.getD_eq_getElem?_getD, List.getElem?_take, if_pos h]
theorem Reads.take {w : World} {B : Nat} {ao : Option Addr} {zs : List Int} (h : Reads w B ao zs) (n : Nat) : Reads w B ao (zs.take n) := by
  rcases h with h | ⟨b, off, h1, h2, h3⟩
  · left; rw [h]; simp
  · right
    refine ⟨b, off, h1, h2, fun k hk => ?_⟩
    rw [List.length_take] at hk
    rw [getD_take _ _ _ (by omega)]
    exact h3 k (by omega)

theorem isrow_reads {w : World} {a : Option Addr} {len cap : Nat} {z : List Int} (h : IsRow .i64 w a len cap z) :
    Reads w w.heap.size a (z.take len) ∧ (z.take len).length = len ∧ (len : Int) ≤ 9223372036854775807 ∧ len ≤ cap ∧ (cap : Int) ≤ 9223372036854775807 ∧ ∀ x ∈ z.take len, (Lit.int .i64 x).wf = true := by
  rcases h with ⟨rfl, rfl, rfl, rfl⟩ | ⟨x, rfl, h1, h2, h3, h4, h5⟩
  · exact ⟨.inl rfl, rfl, by omega, by omega, by omega, by simp⟩
  · have hl : (z.take len).length = len := by rw [List.length_take]; omega
    refine ⟨?_, hl, by unfold maxLen at h2; omega, h1, by unfold maxLen at h2; omega, fun y hy => h5 y (List.mem_of_mem_take hy)⟩
    rcases Nat.eq_zero_or_pos len with e | e
    · left; rw [e]; simp
    · right
      have h0 := h4 0 (by omega)
      rcases x with ⟨b, off, spot⟩
      have hs : spot = none := by
        cases spot with
        | none => rfl
        | some s => simp [World.cell?, Addr.add] at h0; split at h0 <;> simp at h0
      subst hs
      refine ⟨b, off, rfl, block_of_cell h0, fun k hk => ?_⟩
      rw [getD_take _ _ _ (by omega)]
      have e : (⟨b, off, none⟩ : Addr).add k = ⟨b, off + k, none⟩ := by
        unfold Addr.add; split <;> simp_all
      rw [← e]
      exact h4 k (by omega)

theorem Calls.under {P : Program} {f : FuncId} {args : Array Value} {B : Nat} {W w : World} {R : Ending → Prop} (hb : Below B W w) (hB : B ≤ W.heap.size)
    (h : Calls P f args w fun e w' => R e ∧ Below w.heap.size w w') : Calls P f args w fun e w' => R e ∧ Below B W w' :=
  h.mono fun _ _ ⟨h1, h2⟩ => ⟨h1, hb.trans (h2.mono (Nat.le_trans hB hb.size))⟩

end Go.Proofs.YtigafpmhgogpmaaDoor
