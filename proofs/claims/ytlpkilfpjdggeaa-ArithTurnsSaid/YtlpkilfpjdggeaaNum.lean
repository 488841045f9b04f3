/-
  Plain numbers of 64 bits: no program in this text.
-/
import Derived.WalkKit
import Derived.Deep.RegionHeld
namespace Go.Proofs.Ytlpkilfpjdggeaa
open Go.RowKit

/-- Below two to the sixty-fourth, and not below 0. -/
def U64 (x : Int) : Prop := 0 ≤ x ∧ x < 18446744073709551616

theorem U64.ge {x : Int} (h : U64 x) : 0 ≤ x := h.1
theorem U64.lt {x : Int} (h : U64 x) : x < 18446744073709551616 := h.2
theorem U64.of {x : Int} (h : 0 ≤ x) (h' : x < 18446744073709551616) : U64 x := ⟨h, h'⟩

theorem u64_of_wf {x : Int} (h : (Lit.int .u64 x).wf = true) : U64 x := by
  simp [Lit.wf, IntKind.min, IntKind.max, IntKind.signed, IntKind.bits] at h
  exact ⟨by omega, by omega⟩

def addN (a b : Int) : Int := if a + b < 18446744073709551616 then a + b else 0
def addB (a b : Int) : Bool := decide (a + b < 18446744073709551616)
def subN (a b : Int) : Int := if b ≤ a then a - b else 0
def subB (a b : Int) : Bool := decide (b ≤ a)
def mulN (a b : Int) : Int := if a * b < 18446744073709551616 then a * b else 0
def mulB (a b : Int) : Bool := decide (a * b < 18446744073709551616)
def ceilN (a b : Int) : Int := if b = 0 then 0 else if a % b = 0 then a / b else a / b + 1
def ceilB (b : Int) : Bool := decide (b ≠ 0)

theorem div_succ_le {a b : Int} (h0 : 0 ≤ a) (hb : 0 < b) (h : a % b ≠ 0) : a / b + 1 ≤ a := by
  have h1 := Int.mul_ediv_add_emod a b
  have h2 := Int.emod_nonneg a (b := b) (by omega)
  have h3 := Int.ediv_nonneg h0 (Int.le_of_lt hb)
  have h4 : 1 * (a / b) ≤ b * (a / b) := Int.mul_le_mul_of_nonneg_right (by omega) h3
  omega
theorem ceilN_u64 {a b : Int} (ha : U64 a) (hb : U64 b) : U64 (ceilN a b) := by
  obtain ⟨h0, h1⟩ := ha; obtain ⟨g0, g1⟩ := hb
  unfold ceilN
  split
  · exact ⟨by omega, by omega⟩
  · have h3 := Int.ediv_nonneg h0 g0
    have h4 := Int.ediv_le_self b h0
    split
    · exact ⟨h3, by omega⟩
    · rename_i hz hm
      have := div_succ_le h0 (b := b) (by omega) hm
      exact ⟨by omega, by omega⟩

theorem addN_u64 {a b : Int} (ha : U64 a) (hb : U64 b) : U64 (addN a b) := by
  obtain ⟨_, _⟩ := ha; obtain ⟨_, _⟩ := hb; unfold addN; split <;> constructor <;> omega
theorem subN_u64 {a b : Int} (ha : U64 a) (hb : U64 b) : U64 (subN a b) := by
  obtain ⟨_, _⟩ := ha; obtain ⟨_, _⟩ := hb; unfold subN; split <;> constructor <;> omega
theorem mulN_u64 {a b : Int} (ha : U64 a) (hb : U64 b) : U64 (mulN a b) := by
  obtain ⟨h1, _⟩ := ha; obtain ⟨h2, _⟩ := hb; have := Int.mul_nonneg h1 h2
  unfold mulN; split <;> constructor <;> omega

def gcdN (a b : Int) : Int := (Nat.gcd a.toNat b.toNat : Nat)
def lcmN (a b : Int) : Int := if b = 0 then 0 else mulN (a / (Nat.gcd a.toNat b.toNat : Nat)) b
def lcmB (a b : Int) : Bool := if b = 0 then false else mulB (a / (Nat.gcd a.toNat b.toNat : Nat)) b

theorem gcdN_u64 {a b : Int} (ha : U64 a) (hb : U64 b) : U64 (gcdN a b) := by
  obtain ⟨a0, a1⟩ := ha; obtain ⟨b0, b1⟩ := hb
  unfold gcdN
  refine ⟨by omega, ?_⟩
  rcases Nat.eq_zero_or_pos a.toNat with h | h
  · rw [h, Nat.gcd_zero_left]; omega
  · have := Nat.gcd_le_left b.toNat h; omega
theorem lcmN_good {a b : Int} (ha : U64 a) (h0 : 0 < a) (hb : U64 b) (h : lcmB a b = true) : U64 (lcmN a b) ∧ 0 < lcmN a b := by
  obtain ⟨a0, a1⟩ := ha; obtain ⟨b0, b1⟩ := hb
  unfold lcmB at h; unfold lcmN
  by_cases hz : b = 0
  · simp [hz] at h
  · rw [if_neg hz] at h ⊢
    unfold mulB at h; unfold mulN
    have h := of_decide_eq_true h
    rw [if_pos h]
    have hg : 0 < Nat.gcd a.toNat b.toNat := Nat.gcd_pos_of_pos_left _ (by omega)
    have hq : 0 < a / (Nat.gcd a.toNat b.toNat : Nat) := by
      refine Int.ediv_pos_of_pos_of_dvd h0 (by omega) ?_
      have := Nat.gcd_dvd_left a.toNat b.toNat
      have e : a = (a.toNat : Int) := by omega
      rw [e]; exact Int.natCast_dvd_natCast.2 this
    have := Int.mul_pos hq (show 0 < b by omega)
    exact ⟨⟨by omega, h⟩, this⟩

/-- A fold that ends at the first number that can't be joined. -/
def foldR (jN : Int → Int → Int) (jB : Int → Int → Bool) (so : Int) : List Int → Int × Bool
  | [] => (so, true)
  | z :: r => if jB so z = true then foldR jN jB (jN so z) r else (jN so z, false)

theorem foldR_nil (jN : Int → Int → Int) (jB : Int → Int → Bool) (so : Int) : foldR jN jB so [] = (so, true) := rfl
theorem foldR_yes {jN : Int → Int → Int} {jB : Int → Int → Bool} {so z : Int} {r : List Int} (h : jB so z = true) : foldR jN jB so (z :: r) = foldR jN jB (jN so z) r := by
  simp [foldR, h]
theorem foldR_no {jN : Int → Int → Int} {jB : Int → Int → Bool} {so z : Int} {r : List Int} (h : jB so z = false) : foldR jN jB so (z :: r) = (jN so z, false) := by
  simp [foldR, h]
theorem drop_cons (zs : List Int) (k : Nat) (h : k < zs.length) : zs.drop k = zs.getD k 0 :: zs.drop (k + 1) := by
  rw [List.drop_eq_getElem_cons h, List.getD_eq_getElem?_getD, List.getElem?_eq_getElem h]; rfl

/-- What a slice's cells hold: blocks below B alone. -/
def Reads (w : World) (B : Nat) (ao : Option Addr) (zs : List Int) : Prop :=
  zs = [] ∨ ∃ b off, ao = some ⟨b, off, none⟩ ∧ b < B ∧ ∀ k, k < zs.length → w.cell? ⟨b, off + k, none⟩ = some (.int .u64 (zs.getD k 0))

theorem Reads.below {w w' : World} {B : Nat} {ao : Option Addr} {zs : List Int} (h : Reads w B ao zs) (hb : Below B w w') : Reads w' B ao zs := by
  rcases h with h | ⟨b, off, h1, h2, h3⟩
  · exact .inl h
  · exact .inr ⟨b, off, h1, h2, fun k hk => by rw [hb.cell (p := ⟨b, off + k, none⟩) h2]; exact h3 k hk⟩

/-- What is known behind one round: the counter was written, then a call made blocks of its own. -/
theorem each_step {w wr w' : World} {B pi pl : Nat} {u v x : Value} (hsi : pi < w.heap.size) (hsl : pl < w.heap.size) (hsz : w.heap.size ≤ wr.heap.size)
    (hci : wr.cell? ⟨pi, 0, none⟩ = some x) (hcl : wr.cell? ⟨pl, 0, none⟩ = some v) (hfi : wr.frozen? ⟨pi, 0, none⟩ = false) (hpl : pl ≠ pi) (hbi : B ≤ pi) (hbel : Below B w wr)
    (hw : Below (wr.setCell ⟨pi, 0, none⟩ u).heap.size (wr.setCell ⟨pi, 0, none⟩ u) w') :
    w'.cell? ⟨pi, 0, none⟩ = some u ∧ w'.cell? ⟨pl, 0, none⟩ = some v ∧ w'.frozen? ⟨pi, 0, none⟩ = false ∧ w.heap.size ≤ w'.heap.size ∧ Below B w w' := by
  have hs : (wr.setCell ⟨pi, 0, none⟩ u).heap.size = wr.heap.size := by simp
  have hz := hw.size
  have hB0 := hbel.size
  refine ⟨?_, ?_, ?_, by omega, ?_⟩
  · rw [hw.cell (p := ⟨pi, 0, none⟩) (by rw [hs]; show pi < _; omega), World.cell?_setCell_same _ _ _ hci]
  · rw [hw.cell (p := ⟨pl, 0, none⟩) (by rw [hs]; show pl < _; omega), World.cell?_setCell_far _ _ _ _ (by show pi ≠ pl; omega), hcl]
  · rw [hw.frozen (p := ⟨pi, 0, none⟩) (by rw [hs]; show pi < _; omega)]; simpa using hfi
  · exact (hbel.setCell (p := ⟨pi, 0, none⟩) hbi u).trans (hw.mono (by rw [hs]; omega))

end Go.Proofs.Ytlpkilfpjdggeaa
