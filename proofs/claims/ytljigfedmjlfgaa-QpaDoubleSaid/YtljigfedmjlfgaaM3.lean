/- Texts of this claim, put together: VMem, VDef2, VDef3, VMade, GDems, VBlks, GR6, GS0, GP1. -/
import Derived.Test.YtljigfedmjlfgaaM2
import Derived.Laws.MakeOwn
set_option linter.unusedVariables false
set_option linter.unusedSimpArgs false

/-
  Rows of blocks: two cells each.
-/
namespace Go.Proofs.Ytljigfedmjlfgaa
open Go.RowKit Go.Maps

def vcells (x : Bk) : List Value := [.int .i64 x.d, .int .i64 x.b]
/-- The cells of a demand, from a place on. -/
structure VAt (w : World) (g o : Nat) (x : Bk) : Prop where
  c0 : w.cell? ⟨g, o, none⟩ = some (.int .i64 x.d)
  c1 : w.cell? ⟨g, o + 1, none⟩ = some (.int .i64 x.b)
theorem VAt.below {w w' : World} {g o : Nat} {x : Bk} (h : VAt w g o x) (hb : Below w.heap.size w w') : VAt w' g o x :=
  ⟨kept_cell hb h.c0, kept_cell hb h.c1⟩
/-- The cells of a row of tasks. -/
def vflat : List Bk → List Value
  | [] => []
  | x :: l => vcells x ++ vflat l
theorem vcells_len (x : Bk) : (vcells x).length = 2 := rfl
theorem vflat_len : ∀ l : List Bk, (vflat l).length = l.length * 2
  | [] => rfl
  | x :: l => by simp [vflat, vflat_len l, vcells_len]; omega
theorem vflat_append : ∀ l m : List Bk, vflat (l ++ m) = vflat l ++ vflat m
  | [], _ => rfl
  | x :: l, m => by simp [vflat, vflat_append l m]
theorem vflat_at : ∀ (l : List Bk) (k : Nat) (x : Bk), l[k]? = some x → ∀ i, i < 2 → (vflat l)[k * 2 + i]? = (vcells x)[i]?
  | [], k, x, h => by simp at h
  | y :: l, 0, x, h => by
    simp at h; subst h
    intro i hi
    rw [Nat.zero_mul, Nat.zero_add, vflat, List.getElem?_append_left (by rw [vcells_len]; exact hi)]
  | y :: l, k + 1, x, h => by
    intro i hi
    have := vflat_at l k x (by simpa using h) i hi
    rw [show (k + 1) * 2 + i = 2 + (k * 2 + i) by omega, vflat, List.getElem?_append_right (by rw [vcells_len]; omega), vcells_len, ← this]
    congr 1; omega
theorem vflat_one : ∀ (l : List Bk), ∀ u ∈ vflat l, u.oneCell' = true
  | [], u, h => by simp [vflat] at h
  | x :: l, u, h => by
    rcases List.mem_append.1 h with h | h
    · simp [vcells] at h
      rcases h with rfl | rfl <;> rfl
    · exact vflat_one l u h
theorem vflat_drop : ∀ (k : Nat) (l : List Bk), vflat (l.drop k) = (vflat l).drop (k * 2)
  | 0, l => by simp
  | k + 1, [] => by simp [vflat]
  | k + 1, x :: l => by
    rw [List.drop_succ_cons, vflat_drop k l, vflat, List.drop_append, show (k + 1) * 2 = 2 + k * 2 by omega]
    simp [vcells_len]
theorem vflat_take : ∀ (k : Nat) (l : List Bk), vflat (l.take k) = (vflat l).take (k * 2)
  | 0, l => by simp [vflat]
  | k + 1, [] => by simp [vflat]
  | k + 1, x :: l => by
    rw [List.take_succ_cons, vflat, vflat, vflat_take k l, List.take_append, show (k + 1) * 2 = 2 + k * 2 by omega]
    simp [vcells_len]
    rw [List.take_of_length_le (by rw [vcells_len]; omega)]

/-- A row of tasks that can be read. -/
def VView (w : World) (a : Option Addr) (l : List Bk) : Prop :=
  l = [] ∨ ∃ g o, a = some ⟨g, o, none⟩ ∧ ∀ j u, (vflat l)[j]? = some u → w.cell? ⟨g, o + j, none⟩ = some u
theorem VView.nil {w : World} {a : Option Addr} : VView w a [] := .inl rfl
theorem VView.at_ {w : World} {a : Option Addr} {l : List Bk} (h : VView w a l) {k : Nat} {x : Bk} (hx : l[k]? = some x) : ∃ g o, a = some ⟨g, o, none⟩ ∧ VAt w g (o + k * 2) x := by
  rcases h with rfl | ⟨g, o, rfl, hc⟩
  · simp at hx
  · have f := vflat_at l k x hx
    refine ⟨g, o, rfl, ⟨?_, ?_⟩⟩
    · exact hc _ _ (f 0 (by omega))
    · exact hc _ _ (f 1 (by omega))
theorem VView.below {w w' : World} {a : Option Addr} {l : List Bk} (h : VView w a l) (hb : Below w.heap.size w w') : VView w' a l := by
  rcases h with rfl | ⟨g, o, rfl, hc⟩
  · exact .inl rfl
  · exact .inr ⟨g, o, rfl, fun j u hj => kept_cell hb (hc j u hj)⟩
theorem VView.drop {w : World} {g o : Nat} {l : List Bk} (h : VView w (some ⟨g, o, none⟩) l) (k : Nat) : VView w (some ⟨g, o + k * 2, none⟩) (l.drop k) := by
  rcases h with rfl | ⟨g', o', e, hc⟩
  · left; simp
  · cases e
    refine .inr ⟨_, _, rfl, fun j u hj => ?_⟩
    rw [vflat_drop, List.getElem?_drop] at hj
    rw [Nat.add_assoc]
    exact hc _ u hj
theorem VView.take {w : World} {a : Option Addr} {l : List Bk} (h : VView w a l) (k : Nat) : VView w a (l.take k) := by
  rcases h with rfl | ⟨g, o, rfl, hc⟩
  · left; simp
  · refine .inr ⟨g, o, rfl, fun j u hj => ?_⟩
    rw [vflat_take, List.getElem?_take] at hj
    split at hj
    · exact hc j u hj
    · cases hj
theorem VView.of_at {w : World} {g o : Nat} {x : Bk} (h : VAt w g o x) : VView w (some ⟨g, o, none⟩) [x] := by
  refine .inr ⟨g, o, rfl, fun j u hj => ?_⟩
  simp only [vflat, List.append_nil, vcells] at hj
  match j, hj with
  | 0, hj => simp at hj; subst hj; exact h.c0
  | 1, hj => simp at hj; subst hj; exact h.c1
  | j + 2, hj => simp at hj
abbrev BT2 : TypeId := 50
def OwnV (w : World) (B : Nat) (v : Value) (l : List Bk) : Prop := w.ownsRow B BT2 2 v l.length (vflat l)
theorem OwnV.nil (w : World) (B : Nat) : OwnV w B (.slice none 0 0) [] := World.ownsRow_nil _ _ _ _
theorem OwnV.made (w : World) : OwnV (w.alloc (.cells #[] BT2)) w.heap.size (.slice (some ⟨w.heap.size, 0, none⟩) 0 0) [] :=
  World.ownsRow_made (w := w) #[] 0 (Nat.le_refl _) (by decide) rfl
theorem OwnV.low {w : World} {B B' : Nat} {v : Value} {l : List Bk} (h : OwnV w B v l) (hB : B' ≤ B) : OwnV w B' v l := by
  rcases h with ⟨h0, h | ⟨g, cap, cur, rfl, hb, r⟩⟩
  · exact ⟨h0, .inl h⟩
  · exact ⟨h0, .inr ⟨g, cap, cur, rfl, by omega, r⟩⟩
theorem OwnV.slice {w : World} {B : Nat} {v : Value} {l : List Bk} (h : OwnV w B v l) : ∃ a cap, v = .slice a l.length cap ∧ VView w a l ∧ l.length ≤ cap ∧ (cap : Int) ≤ 9223372036854775807 := by
  rcases h.2 with ⟨rfl, h0⟩ | ⟨g, cap, cur, rfl, _, h3, h1, h2, h4, h5⟩
  · exact ⟨none, 0, by rw [h0], .inl (List.length_eq_zero_iff.1 h0), by omega, by omega⟩
  · refine ⟨_, cap, rfl, .inr ⟨g, 0, rfl, fun j u hj => ?_⟩, h1, by unfold maxLen at h2; omega⟩
    rw [Nat.zero_add, blk_cell h3]
    rw [← h5] at hj
    rw [List.getElem?_take] at hj
    split at hj
    · simpa using hj
    · cases hj
theorem OwnV.new {w : World} {B : Nat} {v : Value} {l : List Bk} (h : OwnV w B v l) {k : Nat} (hk : v.ownBlock = some k) : B ≤ k ∧ k < w.heap.size := World.ownsRow.lt h k hk
theorem OwnV.below {w w' : World} {B : Nat} {v : Value} {l : List Bk} (h : OwnV w B v l) (hb : Below w.heap.size w w') : OwnV w' B v l := by
  rcases h with ⟨h0, h | ⟨g, cap, cur, rfl, hB, h3, r⟩⟩
  · exact ⟨h0, .inl h⟩
  · exact ⟨h0, .inr ⟨g, cap, cur, rfl, hB, kept_obj hb h3, r⟩⟩
theorem OwnV.none_len {w : World} {B n c : Nat} {l : List Bk} (h : OwnV w B (.slice none n c) l) : n = 0 := by
  rcases h.2 with ⟨h1, h0⟩ | ⟨g, cap, cur, h1, _⟩
  · cases h1; rfl
  · cases h1

theorem infoBk2 : (Try.prog.info? BT2).map (fun i => (i.zero, i.size, i.bytes)) = some (some (.agg #[.int .i64 0, .int .i64 0]), 2, 16) := by kernel_rfl
theorem zeroBk2 (w : World) : (zeroValue BT2).run Try.prog w = .ok (.agg #[.int .i64 0, .int .i64 0]) w := by kernel_rfl
theorem vinfoParts : ∃ i, Try.prog.info? BT2 = some i ∧ i.zero = some (.agg #[.int .i64 0, .int .i64 0]) ∧ i.size = 2 ∧ i.bytes = 16 := by
  obtain ⟨i, h1, h2⟩ := Option.map_eq_some_iff.1 infoBk2
  simp only [Prod.mk.injEq] at h2
  exact ⟨i, h1, h2.1, h2.2.1, h2.2.2⟩

/-- A row that was appended to: what it holds, where it lies. -/
theorem append_vview {w : World} {B m c : Nat} {v : Value} {q l : List Bk} {ad : Option Addr} (h : OwnV w B v q) (hB : B ≤ w.heap.size) (hv : VView w ad l) (hl : l.length = m) (hs : q.length + m ≤ 1000000) (hn : ad = none → m = 0) (ty : TypeId) :
    ∃ v' w', (Builtin.append_ #[27, 27] ty #[v, .slice ad m c]).run Try.prog w = .ok v' w' ∧ OwnV w' B v' (q ++ l) ∧ w.grownBy w' v.ownBlock ∧ ∀ k, v'.ownBlock = some k → v.ownBlock = some k ∨ w.heap.size ≤ k := by
  obtain ⟨i0, hi, hz0, hz1, hz2⟩ := vinfoParts
  cases ad with
  | none =>
    obtain rfl := hn rfl
    obtain rfl : l = [] := List.length_eq_zero_iff.1 hl
    refine ⟨v, w, ?_, by rw [List.append_nil]; exact h, ⟨rfl, rfl, rfl, Nat.le_refl _, fun _ _ _ => rfl⟩, fun k hk => .inl hk⟩
    rcases h.2 with ⟨rfl, h0⟩ | ⟨g, cap, cur, rfl, _, h3, h1, h2, h4, h5⟩
    · have hs := Src.ofNil (w := w) (size := i0.size) Try.underlying27 c
      simp [Builtin.append_, run_underlying Try.underlying27, sizeOf, typeInfo, hi, hs.len, hs.cells]
    · have := run_append_room_src (P := Try.prog) (w := w) 27 27 ty BT2 i0 Try.underlying27 hi g 0 q.length cap (.slice none 0 c) 0 [] (Src.ofNil w Try.underlying27 c) (by omega) (fun j hj => absurd hj (Nat.not_lt_zero _)) (fun j hj => absurd hj (Nat.not_lt_zero _))
      simpa [World.setCells] using this
  | some x =>
    have hnews : ∀ j u, (vflat l)[j]? = some u → w.cell? (x.add j) = some u := by
      intro j u hj
      rcases hv with rfl | ⟨g, o, e, hc⟩
      · simp [vflat] at hj
      · cases e
        rw [addr_at]; exact hc j u hj
    obtain ⟨v', w', h1, h2, h3, _, h5⟩ := run_append_own_at (P := Try.prog) w B 27 ty BT2 i0 _ 2 16 Try.underlying27 hi hz0 hz1 hz2 rfl (by decide) v q.length (vflat q) h x m c (vflat l) (by rw [vflat_len, hl]) hnews (vflat_one l) (by unfold maxLen; omega) (by omega) hB
    refine ⟨v', w', h1, ?_, h3, fun k hk => ?_⟩
    · unfold OwnV
      rw [List.length_append, vflat_append, hl]
      exact h2
    · rcases h5 with z | z
      · left; rw [← z]; exact hk
      · right; rw [z] at hk; cases hk; exact Nat.le_refl _

theorem vstep_append {w : World} {ops : Array Oper} {o : Oper} {a : Act} {K : Act → World → Prop} {Q : Exit → Act → World → Prop} {E : Prop} (hgd : o.guard = none) (s x : Operand)
    (ho : o.op = .call { callee := .builtin .append, args := #[s, x], argTypes := #[27, 27] }) {B m c : Nat} {v : Value} {q l : List Bk} {ad : Option Addr} (hs : a.eval s = v) (hx : a.eval x = .slice ad m c)
    (hown : OwnV w B v q) (hB : B ≤ w.heap.size) (hv : VView w ad l) (hl : l.length = m) (hsm : q.length + m ≤ 1000000) (hn : ad = none → m = 0) (N : Nat) (hN : q.length + m = N)
    (h : ∀ a' cp' w', OwnV w' B (.slice a' N cp') (q ++ l) → w.grownBy w' v.ownBlock → (∀ k, (Value.slice a' N cp').ownBlock = some k → v.ownBlock = some k ∨ w.heap.size ≤ k) → K (a.put o.dst (.slice a' N cp')) w') :
    if Region.wanted o (yielded ops a.tmps) = true then Oper.wp Try.prog o a w K Q else E := by
  have hw : Region.wanted o (yielded ops a.tmps) = true := by simp [Region.wanted, hgd]
  rw [if_pos hw]
  obtain ⟨v', w', hr, h2, h3, h4⟩ := append_vview (c := c) hown hB hv hl hsm hn o.type
  obtain ⟨a', cp', hv', _⟩ := h2.slice
  rw [List.length_append, hl, hN] at hv'
  subst hv'
  unfold Oper.wp execOp
  simp only [ho, resolve, invoke, builtin, Sem.run_bind, Sem.run_pure, Result.andThen_ok, List.map_toArray, List.map_cons, List.map_nil, hs, hx, hr]
  exact h a' cp' w' h2 h3 h4
theorem wp_vappend {ops : Array Oper} {rest : List Oper} {o : Oper} {a : Act} {Q : Exit → Act → World → Prop} {w : World} (hgd : o.guard = none) (s x : Operand)
    (ho : o.op = .call { callee := .builtin .append, args := #[s, x], argTypes := #[27, 27] }) {B m c : Nat} {v : Value} {q l : List Bk} {ad : Option Addr} (hs : a.eval s = v) (hx : a.eval x = .slice ad m c)
    (hown : OwnV w B v q) (hB : B ≤ w.heap.size) (hv : VView w ad l) (hl : l.length = m) (hsm : q.length + m ≤ 1000000) (hn : ad = none → m = 0) (N : Nat) (hN : q.length + m = N)
    (h : ∀ a' cp' w', OwnV w' B (.slice a' N cp') (q ++ l) → w.grownBy w' v.ownBlock → (∀ k, (Value.slice a' N cp').ownBlock = some k → v.ownBlock = some k ∨ w.heap.size ≤ k) → wpList Try.prog ops Q rest (a.put o.dst (.slice a' N cp')) w') : wpList Try.prog ops Q (o :: rest) a w :=
  wpList_step fun _ hK => vstep_append hgd s x ho hs hx hown hB hv hl hsm hn N hN (fun a' cp' w' o' g' l' => hK _ _ (h a' cp' w' o' g' l'))



end Go.Proofs.Ytljigfedmjlfgaa

/-
  What follows of whether work is done in time, plainly.
-/
namespace Go.Proofs.Ytljigfedmjlfgaa

/-- Demands that the laws make. -/
structure Nice (l : List Dm) : Prop where
  ok : ∀ x ∈ l, x.ok
  dv : ∀ x ∈ l, x.t ∣ 240
  cd : ∀ x ∈ l, x.c ≤ x.d
  len : l.length ≤ 7
theorem Nice.okL {l : List Dm} (h : Nice l) : okL l = true := okL_iff.2 ⟨h.ok, by have := h.len; omega⟩
theorem Nice.per {l : List Dm} (h : Nice l) : (perS l).2 = 0 ∧ 1 ≤ (perS l).1 ∧ (perS l).1 ≤ 240 ∧ (∀ x ∈ l, x.t ∣ (perS l).1) ∧ ∀ q : Int, 0 < q → (∀ x ∈ l, x.t ∣ q) → (perS l).1 ∣ q := by
  have hok := h.okL
  have hpos : ∀ z ∈ l.map Dm.t, 0 ≤ z := fun z hz => by have := per_row hok z hz; omega
  obtain ⟨l1, l2⟩ := lcm_row (l.map Dm.t) 1 (by omega) hpos
  have nat_dvd : ∀ (q : Nat), (∀ x ∈ l, x.t ∣ (q : Int)) → ∀ z ∈ l.map Dm.t, z.toNat ∣ q := fun q hq z hz => by
    obtain ⟨x, hx, rfl⟩ := List.mem_map.1 hz
    have h1 := (h.ok x hx).d1; have h2 := (h.ok x hx).d2
    have := hq x hx
    obtain ⟨t, ht⟩ := Int.eq_ofNat_of_zero_le (show 0 ≤ x.t by omega)
    rw [ht] at this ⊢
    rw [Int.toNat_natCast]
    exact Int.natCast_dvd_natCast.1 this
  have hd := nat_dvd 240 h.dv
  have h1 : (perR l).2 = true := by
    cases e : (perR l).2 with
    | true => rfl
    | false =>
      rcases (l2 e).2 with ⟨z, hz, hz0⟩ | q
      · have := per_row hok z hz; omega
      · have := q 240 (by omega) (by decide) hd; omega
  obtain ⟨p1, _, _, _, p5⟩ := l1 h1
  have hdv : (perR l).1.toNat ∣ 240 := p5 240 (by decide) hd
  have hle : (perR l).1.toNat ≤ 240 := Nat.le_of_dvd (by omega) hdv
  have hpp : 0 < (perR l).1 := p1
  have e := perS_is hok h1 (by omega)
  obtain ⟨_, _, _, _, _, hx⟩ := perS_ok (l := l) (by rw [e])
  refine ⟨by rw [e], by rw [e]; show 1 ≤ (perR l).1; omega, by rw [e]; show (perR l).1 ≤ 240; omega, hx, fun q hq hall => ?_⟩
  rw [e]
  show (perR l).1 ∣ q
  obtain ⟨m, rfl⟩ := Int.eq_ofNat_of_zero_le (show 0 ≤ q by omega)
  have := p5 m (by exact Nat.one_dvd _) (nat_dvd m hall)
  have h3 := Int.natCast_dvd_natCast.2 this
  rwa [Int.toNat_of_nonneg (by omega)] at h3
theorem dl_back {x : Dm} (h : x.ok) {p y : Int} (hd : x.t ∣ p) (hy : DlOf x y) (hp : p < y) : DlOf x (y - p) := by
  obtain ⟨n, hn, rfl⟩ := hy
  obtain ⟨k, rfl⟩ := hd
  have h1 := h.d1; have h2 := h.d2
  refine ⟨n - k, ?_, by rw [Int.sub_mul, Int.mul_comm k]; omega⟩
  rcases Int.lt_or_le (n - k) 0 with q | q
  · have := Int.mul_le_mul_of_nonneg_right (show n - k ≤ -1 by omega) (show 0 ≤ x.t by omega)
    rw [Int.sub_mul, Int.mul_comm k] at this
    omega
  · exact q
/-- Beyond the end there is no less. -/
theorem all_left {l : List Dm} {L : List Bk} (h : Nice l) {m : Int} (hN : loadN l (perS l).1 l.length ≤ (perS l).1) (hm : ∀ y, Dl l y → y ≤ endA l L → m ≤ leftA l L y) : ∀ y, Dl l y → m ≤ leftA l L y := by
  obtain ⟨_, p1, _, p3, _⟩ := h.per
  have key : ∀ (n : Nat) (y : Int), y.toNat = n → Dl l y → m ≤ leftA l L y := by
    intro n
    induction n using Nat.strongRecOn with
    | _ n ih =>
      intro y hy hd
      rcases Int.lt_or_le (endA l L) y with q | q
      · have he := end_per l L
        have hy1 := dl_pos' h.ok hd
        have hd' : Dl l (y - (perS l).1) := by
          obtain ⟨x, hx, hdx⟩ := hd
          exact ⟨x, hx, dl_back (h.ok x hx) (p3 x hx) hdx (by omega)⟩
        have i := ih (y - (perS l).1).toNat (by omega) _ rfl hd'
        have hz : heldA L y = 0 := held_zero (fun x hx => by have := end_top (l := l) hx; omega)
        have hp := due_period h.ok (t := y - (perS l).1) (p := (perS l).1) (by omega) (by omega) p3 l.length
        rw [Int.sub_add_cancel] at hp
        have hh := held_nonneg L (y - (perS l).1)
        unfold leftA dueA at i ⊢
        rw [hz, hp]
        omega
      · exact hm y hd q
  exact fun y hd => key _ y rfl hd
theorem fits_all {l : List Dm} {L : List Bk} (h : Nice l) (hf : FitsA l L) {y : Int} (hd : Dl l y) : 0 ≤ leftA l L y := all_left h hf.1 (fun _ a b => fits_left hf a b) y hd
/-- What fits is done in time, at any time at which a deadline has been. -/
theorem fits_sound {l : List Dm} {L : List Bk} (h : Nice l) (hf : FitsA l L) {t : Int} (hx : ∃ x ∈ l, x.d ≤ t) : dueA l t + heldA L t ≤ t := by
  cases e : lastA l (t + 1) with
  | none =>
    obtain ⟨x, hx, hd⟩ := hx
    have := last_none h.ok e (z := x.d) ⟨x, hx, 0, Int.le_refl _, by omega⟩
    omega
  | some y =>
    obtain ⟨h1, h2, h3⟩ := last_some h.ok e
    have hd := due_still h.ok (t := y) (u := t) (by omega) (fun z hz hlt => by
      rcases Int.lt_or_le t z with q | q
      · exact q
      · have := h3 z hz (by omega); omega)
    have hh := held_anti L (show y ≤ t by omega)
    have := fits_all h hf h1
    unfold leftA at this
    omega
theorem load_append {l m : List Dm} {p : Int} : ∀ k, loadN (l ++ m) p (l.length + k) = loadN l p l.length + loadN m p k
  | 0 => by
    have key : ∀ k, k ≤ l.length → loadN (l ++ m) p k = loadN l p k := fun k hk => by
      induction k with
      | zero => rfl
      | succ k ih =>
        have e : (l ++ m)[k]? = l[k]? := List.getElem?_append_left (by omega)
        rw [loadN, loadN, e, ih (by omega)]
    rw [Nat.add_zero, key _ (Nat.le_refl _)]; show _ = _ + (0 : Int); omega
  | k + 1 => by
    have e : (l ++ m)[l.length + k]? = m[k]? := by rw [List.getElem?_append_right (by omega)]; congr 1; omega
    rw [← Nat.add_assoc, loadN, e, loadN, load_append k]
    cases m[k]? with
    | none => rfl
    | some x => dsimp only; omega
theorem load_scale {l : List Dm} (hok : ∀ x ∈ l, x.ok) {p : Int} (hd : ∀ x ∈ l, x.t ∣ p) (j : Int) : ∀ k, loadN l (p * j) k = j * loadN l p k
  | 0 => by show (0 : Int) = j * 0; omega
  | k + 1 => by
    cases hx : l[k]? with
    | none => rw [load_end hx, load_end hx]; exact load_scale hok hd j k
    | some x =>
      have hm := List.mem_of_getElem? hx
      obtain ⟨q, rfl⟩ := hd x hm
      have h1 := (hok x hm).d1; have h2 := (hok x hm).d2
      have e1 : x.t * q / x.t = q := Int.mul_ediv_cancel_left _ (by omega)
      have e2 : x.t * q * j / x.t = q * j := by rw [Int.mul_assoc]; exact Int.mul_ediv_cancel_left _ (by omega)
      rw [load_next hx, load_next hx, load_scale hok hd j k, e1, e2, Int.mul_add]
      congr 1
      rw [← Int.mul_assoc, Int.mul_comm _ j]
theorem load_nonneg {l : List Dm} (h : ∀ x ∈ l, x.ok) {p : Int} (hp : 0 ≤ p) : 0 ≤ loadN l p l.length := load_mono h hp (Nat.zero_le _)
/-- With a demand more nothing fits that does not fit without it. -/
theorem more_one {l : List Dm} {x : Dm} {L : List Bk} (h : Nice (l ++ [x])) (hf : FitsA (l ++ [x]) L) : FitsA l L := by
  have hl : Nice l := ⟨fun y hy => h.ok y (List.mem_append_left _ hy), fun y hy => h.dv y (List.mem_append_left _ hy), fun y hy => h.cd y (List.mem_append_left _ hy), by have := h.len; rw [List.length_append] at this; omega⟩
  obtain ⟨_, p1, _, p3, p4⟩ := hl.per
  obtain ⟨_, q1, _, q3, _⟩ := h.per
  obtain ⟨j, hj⟩ := p4 (perS (l ++ [x])).1 (by omega) (fun y hy => q3 y (List.mem_append_left _ hy))
  have hj1 : 1 ≤ j := by
    rcases Int.lt_or_le 0 j with z | z
    · omega
    · have := Int.mul_le_mul_of_nonneg_left z (show 0 ≤ (perS l).1 by omega); omega
  have hpl : (perS l).1 ≤ (perS (l ++ [x])).1 := by
    rw [hj]
    have := Int.mul_le_mul_of_nonneg_left hj1 (show 0 ≤ (perS l).1 by omega); omega
  refine ⟨?_, fun y ⟨b1, b2, b3⟩ => ?_⟩
  · have h1 := hf.1
    have h2 := load_append (l := l) (m := [x]) (p := (perS (l ++ [x])).1) 1
    rw [List.length_append] at h1
    have h3 := load_nonneg (l := [x]) (fun y hy => h.ok y (List.mem_append_right _ hy)) (p := (perS (l ++ [x])).1) (by omega)
    have h4 := load_scale hl.ok p3 j l.length
    rw [← hj] at h4
    have h5 : j * loadN l (perS l).1 l.length ≤ (perS l).1 * j := by
      rw [← hj]
      have e : loadN [x] (perS (l ++ [x])).1 [x].length = loadN [x] (perS (l ++ [x])).1 1 := rfl
      have e2 : [x].length = 1 := rfl
      rw [e2] at h1
      omega
    rw [Int.mul_comm] at h5
    exact Int.le_of_mul_le_mul_right h5 (by omega)
  · refine hf.2 y ⟨?_, ?_, ?_⟩
    · obtain ⟨z, hz, hd⟩ := b1
      exact ⟨z, List.mem_append_left _ hz, hd⟩
    · have : endA l L ≤ endA (l ++ [x]) L := by unfold endA; split <;> split <;> omega
      omega
    · have e := due_two l [x] y
      have e2 := due_nonneg (l := [x]) (fun z hz => h.ok z (List.mem_append_right _ hz)) y
      unfold leftA at b3 ⊢
      omega
theorem top_more (L M : List Bk) : topA L ≤ topA (L ++ M) := by
  rcases top_in L with e | ⟨x, hx, e⟩
  · rw [e]
    rcases top_in (L ++ M) with z | ⟨y, hy, z⟩
    · omega
    · clear e hy z
      generalize L ++ M = K
      induction K with
      | nil => exact Int.le_refl _
      | cons k K ih => rw [topA]; split <;> omega
  · rw [← e]; exact top_ge (List.mem_append_left _ hx)
/-- .. nor with more that is held. -/
theorem more_two {l : List Dm} {L M : List Bk} (hf : FitsA l (L ++ M)) : FitsA l L := by
  refine ⟨hf.1, fun y ⟨b1, b2, b3⟩ => hf.2 y ⟨b1, ?_, ?_⟩⟩
  · have := top_more L M
    have : endA l L ≤ endA l (L ++ M) := by unfold endA; split <;> split <;> omega
    omega
  · have := held_more L M y
    unfold leftA at b3 ⊢
    omega

/-- What is held, n more, as blocks: where it changes. -/
def plusN (h : List Bk) (n : Int) : Nat → List Bk
  | 0 => []
  | t + 1 => if t + 1 = 120 ∨ heldA h (t : Int) ≠ heldA h ((t : Int) + 1) then plusN h n t ++ [⟨(t : Int) + 1, heldA h (t : Int) + n⟩] else plusN h n t
theorem plus_yes {h : List Bk} {n : Int} {t : Nat} (q : t + 1 = 120 ∨ heldA h (t : Int) ≠ heldA h ((t : Int) + 1)) : plusN h n (t + 1) = plusN h n t ++ [⟨(t : Int) + 1, heldA h (t : Int) + n⟩] := by rw [plusN, if_pos q]
theorem plus_no {h : List Bk} {n : Int} {t : Nat} (q : ¬ (t + 1 = 120 ∨ heldA h (t : Int) ≠ heldA h ((t : Int) + 1))) : plusN h n (t + 1) = plusN h n t := by rw [plusN, if_neg q]
theorem plus_mem (h : List Bk) (n : Int) : ∀ k x, x ∈ plusN h n k → ∃ t : Nat, t < k ∧ x.d = (t : Int) + 1 ∧ x.b = heldA h (t : Int) + n
  | 0, x, hx => by cases hx
  | k + 1, x, hx => by
    by_cases q : k + 1 = 120 ∨ heldA h (k : Int) ≠ heldA h ((k : Int) + 1)
    · rw [plus_yes q] at hx
      rcases List.mem_append.1 hx with z | z
      · obtain ⟨t, a, b⟩ := plus_mem h n k x z
        exact ⟨t, by omega, b⟩
      · rw [List.mem_singleton] at z
        subst z
        exact ⟨k, by omega, rfl, rfl⟩
    · rw [plus_no q] at hx
      obtain ⟨t, a, b⟩ := plus_mem h n k x hx
      exact ⟨t, by omega, b⟩
theorem plus_in (h : List Bk) (n : Int) (t : Nat) (hc : t + 1 = 120 ∨ heldA h (t : Int) ≠ heldA h ((t : Int) + 1)) : ∀ k, t < k → ⟨(t : Int) + 1, heldA h (t : Int) + n⟩ ∈ plusN h n k
  | k + 1, hk => by
    by_cases e : t = k
    · subst e
      rw [plus_yes hc]
      exact List.mem_append_right _ List.mem_cons_self
    · have := plus_in h n t hc k (by omega)
      by_cases q : k + 1 = 120 ∨ heldA h (k : Int) ≠ heldA h ((k : Int) + 1)
      · rw [plus_yes q]; exact List.mem_append_left _ this
      · rw [plus_no q]; exact this
theorem change_at {h : List Bk} {s : Nat} : ∀ (m : Nat), heldA h ((s + m : Nat) : Int) ≠ heldA h (s : Int) → ∃ t : Nat, s ≤ t ∧ t < s + m ∧ heldA h (t : Int) = heldA h (s : Int) ∧ heldA h (t : Int) ≠ heldA h ((t : Int) + 1)
  | 0, hne => absurd rfl hne
  | m + 1, hne => by
    by_cases q : heldA h ((s + m : Nat) : Int) = heldA h (s : Int)
    · refine ⟨s + m, by omega, by omega, q, ?_⟩
      rw [q]
      intro e
      apply hne
      rw [show ((s + (m + 1) : Nat) : Int) = ((s + m : Nat) : Int) + 1 by omega, ← e]
    · obtain ⟨t, a, b, c⟩ := change_at m q
      exact ⟨t, a, by omega, c⟩
def plusA (h : List Bk) (n : Int) : List Bk := plusN h n 120 ++ [⟨16384, n⟩]
theorem plus_held {h : List Bk} {n : Int} (h64 : ∀ x ∈ h, x.d ≤ 64) (hn : 0 ≤ n) {s : Int} (h0 : 0 ≤ s) (h1 : s < 16384) : heldA (plusA h n) s = heldA h s + n := by
  obtain ⟨s, rfl⟩ := Int.eq_ofNat_of_zero_le h0
  have hh := held_nonneg h (s : Int)
  refine held_eq (by omega) (fun x hx hlt => ?_) ?_
  · rcases List.mem_append.1 hx with z | z
    · obtain ⟨t, a, b, c⟩ := plus_mem h n _ x z
      have := held_anti h (show (s : Int) ≤ (t : Int) by omega)
      omega
    · rw [List.mem_singleton] at z
      subst z
      show n ≤ _
      omega
  · by_cases hz : heldA h (s : Int) = 0
    · exact .inr ⟨⟨16384, n⟩, List.mem_append_right _ List.mem_cons_self, h1, by rw [hz]; show n = 0 + n; omega⟩
    · have hs : s < 64 := by
        rcases Nat.lt_or_ge s 64 with z | z
        · exact z
        · exact absurd (held_zero (fun x hx => by have := h64 x hx; omega)) hz
      have hz64 : heldA h ((s + (64 - s) : Nat) : Int) = 0 := held_zero (fun x hx => by have := h64 x hx; omega)
      obtain ⟨t, a, b, c, d⟩ := change_at (h := h) (s := s) (64 - s) (by rw [hz64]; exact fun e => hz e.symm)
      exact .inr ⟨_, List.mem_append_left _ (plus_in h n t (.inr d) 120 (by omega)), by show (s : Int) < (t : Int) + 1; omega, by rw [c]⟩
theorem plus_top {h : List Bk} {n : Int} {x : Bk} (hx : x ∈ plusA h n) : x.d ≤ 16384 := by
  rcases List.mem_append.1 hx with z | z
  · obtain ⟨t, a, b, c⟩ := plus_mem h n _ x z
    omega
  · rw [List.mem_singleton] at z
    subst z
    exact Int.le_refl _
theorem plus_end {l : List Dm} (hl : Nice l) (h : List Bk) (n : Int) : endA l (plusA h n) = 16384 := by
  obtain ⟨_, _, p2, _⟩ := hl.per
  have e : topA (plusA h n) = 16384 := top_eq (by omega) (fun x hx => plus_top hx) (.inr ⟨⟨16384, n⟩, List.mem_append_right _ List.mem_cons_self, rfl⟩)
  unfold endA
  rw [e, if_pos (by omega)]
/-- With what is left held at all times it still fits. -/
theorem room_fits {l : List Dm} {h : List Bk} {n : Int} (hl : Nice l) (h64 : ∀ x ∈ h, x.d ≤ 64) (hr : RoomAt l h n) : 0 ≤ n ∧ n ≤ 240 ∧ FitsA l (plusA h n) ∧ ¬ FitsA l (plusA h (n + 1)) := by
  obtain ⟨hf, ⟨y, y1, y2, y3⟩, hm⟩ := hr
  have hn : 0 ≤ n := by rw [← y3]; exact fits_left hf y1 y2
  have hend : endA l h ≤ 240 := by
    obtain ⟨_, _, p2, _⟩ := hl.per
    rcases end_in l h with e | ⟨x, hx, e⟩
    · omega
    · have := h64 x hx; omega
  have hall := all_left hl hf.1 hm
  have hy0 := dl_pos' hl.ok y1
  have hd0 := due_nonneg hl.ok y
  have hh0 := held_nonneg h y
  refine ⟨hn, by unfold leftA at y3; omega, ⟨hf.1, fun z ⟨b1, b2, b3⟩ => ?_⟩, fun hf2 => ?_⟩
  · rw [plus_end hl] at b2
    have hz := hall z b1
    have hz0 := dl_pos' hl.ok b1
    have hh := held_nonneg h z
    unfold leftA at hz b3
    rcases Int.lt_or_le z 16384 with q | q
    · rw [plus_held h64 hn (by omega) q] at b3; omega
    · rw [held_zero (fun x hx => by have := plus_top hx; omega)] at b3; omega
  · refine hf2.2 y ⟨y1, by rw [plus_end hl]; omega, ?_⟩
    unfold leftA at y3 ⊢
    rw [plus_held h64 (by omega) (by omega) (by omega)]
    omega
end Go.Proofs.Ytljigfedmjlfgaa

/-
  All times, and all work, doubled, plainly.
-/
namespace Go.Proofs.Ytljigfedmjlfgaa

def dbl (x : Dm) : Dm := ⟨2 * x.c, 2 * x.d, 2 * x.t⟩
def dblB (x : Bk) : Bk := ⟨2 * x.d, 2 * x.b⟩
theorem jobs_dbl {x : Dm} (t : Int) : jobsD (dbl x) (2 * t) = jobsD x t := by
  unfold jobsD dbl
  dsimp only
  by_cases q : t < x.d
  · rw [if_pos q, if_pos (by omega)]
  · rw [if_neg q, if_neg (by omega), ← Int.mul_sub, Int.mul_ediv_mul_of_pos _ _ (by omega)]
theorem dl_dbl {x : Dm} {y : Int} (h : DlOf x y) : DlOf (dbl x) (2 * y) := by
  obtain ⟨n, hn, rfl⟩ := h
  refine ⟨n, hn, ?_⟩
  unfold dbl
  dsimp only
  rw [Int.mul_add, Int.mul_left_comm]
theorem dl_half {x : Dm} {z : Int} (h : DlOf (dbl x) z) : ∃ y, z = 2 * y ∧ DlOf x y := by
  obtain ⟨n, hn, rfl⟩ := h
  refine ⟨x.d + n * x.t, ?_, n, hn, rfl⟩
  unfold dbl
  dsimp only
  rw [Int.mul_add, Int.mul_left_comm]
def dblL (l : List Dm) : List Dm := l.map dbl
def dblH (L : List Bk) : List Bk := L.map dblB
theorem dl_dblL {l : List Dm} {y : Int} (h : Dl l y) : Dl (dblL l) (2 * y) := by
  obtain ⟨x, hx, hd⟩ := h
  exact ⟨dbl x, List.mem_map.2 ⟨x, hx, rfl⟩, dl_dbl hd⟩
theorem dl_halfL {l : List Dm} {z : Int} (h : Dl (dblL l) z) : ∃ y, z = 2 * y ∧ Dl l y := by
  obtain ⟨x, hx, hd⟩ := h
  obtain ⟨y, hy, rfl⟩ := List.mem_map.1 hx
  obtain ⟨u, e, h⟩ := dl_half hd
  exact ⟨u, e, y, hy, h⟩
theorem dbl_at {l : List Dm} {k : Nat} : (dblL l)[k]? = (l[k]?).map dbl := by unfold dblL; exact List.getElem?_map
theorem due_dbl {l : List Dm} {t : Int} : ∀ k, dueN (dblL l) (2 * t) k = 2 * dueN l t k
  | 0 => rfl
  | k + 1 => by
    cases hx : l[k]? with
    | none => rw [due_end hx, due_end (by rw [dbl_at, hx]; rfl)]; exact due_dbl k
    | some x =>
      rw [due_next hx, due_next (x := dbl x) (by rw [dbl_at, hx]; rfl), due_dbl k, jobs_dbl, Int.mul_add]
      congr 1
      unfold dbl
      dsimp only
      rw [Int.mul_assoc]
theorem load_dbl {l : List Dm} {p : Int} : ∀ k, loadN (dblL l) (2 * p) k = 2 * loadN l p k
  | 0 => rfl
  | k + 1 => by
    cases hx : l[k]? with
    | none => rw [load_end hx, load_end (by rw [dbl_at, hx]; rfl)]; exact load_dbl k
    | some x =>
      rw [load_next hx, load_next (x := dbl x) (by rw [dbl_at, hx]; rfl), load_dbl k, Int.mul_add]
      congr 1
      unfold dbl
      dsimp only
      rw [Int.mul_ediv_mul_of_pos _ _ (by omega), Int.mul_assoc]
theorem held_dbl {L : List Bk} (t : Int) : heldA (dblH L) (2 * t) = 2 * heldA L t := by
  have h0 := held_nonneg L t
  refine held_eq (by omega) (fun x hx hlt => ?_) ?_
  · obtain ⟨y, hy, rfl⟩ := List.mem_map.1 hx
    have := held_ge hy (t := t) (by unfold dblB at hlt; dsimp only at hlt; omega)
    show 2 * y.b ≤ _
    omega
  · rcases held_in L t with e | ⟨x, hx, ht, e⟩
    · exact .inl (by rw [e]; rfl)
    · exact .inr ⟨dblB x, List.mem_map.2 ⟨x, hx, rfl⟩, by show 2 * t < 2 * x.d; omega, by show 2 * x.b = _; omega⟩
theorem top_dbl (L : List Bk) : topA (dblH L) = 2 * topA L := by
  induction L with
  | nil => rfl
  | cons x L ih =>
    show topA (dblB x :: dblH L) = _
    rw [topA, topA, ih]
    show (if 2 * topA L < 2 * x.d then 2 * x.d else 2 * topA L) = _
    split <;> split <;> omega
/-- Demands that may be doubled. -/
structure NiceH (l : List Dm) : Prop where
  ok : ∀ x ∈ l, x.ok
  dv : ∀ x ∈ l, x.t ∣ 120
  cd : ∀ x ∈ l, x.c ≤ x.d
  len : l.length ≤ 7
theorem NiceH.nice {l : List Dm} (h : NiceH l) : Nice l := ⟨h.ok, fun x hx => Int.dvd_trans (h.dv x hx) ⟨2, rfl⟩, h.cd, h.len⟩
theorem NiceH.twice {l : List Dm} (h : NiceH l) : Nice (dblL l) := by
  have key : ∀ z ∈ dblL l, ∃ x ∈ l, z = dbl x := fun z hz => by
    obtain ⟨x, hx, rfl⟩ := List.mem_map.1 hz
    exact ⟨x, hx, rfl⟩
  refine ⟨fun z hz => ?_, fun z hz => ?_, fun z hz => ?_, by unfold dblL; rw [List.length_map]; exact h.len⟩
  · obtain ⟨x, hx, rfl⟩ := key z hz
    have q := h.ok x hx
    have := q.c0; have := q.d1; have := q.d2; have hc := h.cd x hx
    have ht : x.t ≤ 120 := Int.le_of_dvd (by omega) (h.dv x hx)
    exact ⟨by show 0 ≤ 2 * x.c; omega, by show 2 * x.c ≤ _; omega, by show 1 ≤ 2 * x.d; omega, by show 2 * x.d ≤ 2 * x.t; omega, by show 2 * x.t ≤ _; omega⟩
  · obtain ⟨x, hx, rfl⟩ := key z hz
    show 2 * x.t ∣ 240
    exact Int.mul_dvd_mul_left 2 (h.dv x hx)
  · obtain ⟨x, hx, rfl⟩ := key z hz
    have := h.cd x hx
    show 2 * x.c ≤ 2 * x.d
    omega
theorem per_dbl {l : List Dm} (h : NiceH l) (hl : l ≠ []) : (perS (dblL l)).1 = 2 * (perS l).1 := by
  obtain ⟨_, p1, _, p3, p4⟩ := h.nice.per
  obtain ⟨_, q1, _, q3, q4⟩ := h.twice.per
  have a : (perS (dblL l)).1 ∣ 2 * (perS l).1 := q4 _ (by omega) (fun z hz => by
    obtain ⟨x, hx, rfl⟩ := List.mem_map.1 hz
    show 2 * x.t ∣ _
    exact Int.mul_dvd_mul_left 2 (p3 x hx))
  have b : 2 * (perS l).1 ∣ (perS (dblL l)).1 := by
    obtain ⟨x, hx⟩ := List.exists_mem_of_ne_nil l hl
    have e2 : (2 : Int) ∣ (perS (dblL l)).1 := Int.dvd_trans ⟨x.t, rfl⟩ (q3 (dbl x) (List.mem_map.2 ⟨x, hx, rfl⟩))
    obtain ⟨q, hq⟩ := e2
    rw [hq]
    refine Int.mul_dvd_mul_left 2 (p4 q (by omega) fun y hy => ?_)
    have := q3 (dbl y) (List.mem_map.2 ⟨y, hy, rfl⟩)
    rw [hq] at this
    exact Int.dvd_of_mul_dvd_mul_left (by omega) this
  have h1 := Int.le_of_dvd (by omega) a
  have h2 := Int.le_of_dvd (by omega) b
  omega
theorem end_dbl {l : List Dm} (h : NiceH l) (hl : l ≠ []) (L : List Bk) : endA (dblL l) (dblH L) = 2 * endA l L := by
  unfold endA
  rw [per_dbl h hl, top_dbl]
  split <;> split <;> omega
theorem left_dbl (l : List Dm) (L : List Bk) (y : Int) : leftA (dblL l) (dblH L) (2 * y) = 2 * leftA l L y := by
  unfold leftA dueA
  rw [held_dbl, show (dblL l).length = l.length from List.length_map _, due_dbl]
  omega
theorem bad_dbl {l : List Dm} (h : NiceH l) (hl : l ≠ []) {L : List Bk} {y : Int} : BadAt l L y → BadAt (dblL l) (dblH L) (2 * y) :=
  fun ⟨a, b, c⟩ => ⟨dl_dblL a, by rw [end_dbl h hl]; omega, by rw [left_dbl]; omega⟩
theorem bad_half {l : List Dm} (h : NiceH l) (hl : l ≠ []) {L : List Bk} {z : Int} (hb : BadAt (dblL l) (dblH L) z) : ∃ y, z = 2 * y ∧ BadAt l L y := by
  obtain ⟨a, b, c⟩ := hb
  obtain ⟨y, rfl, hd⟩ := dl_halfL a
  rw [end_dbl h hl] at b
  rw [left_dbl] at c
  exact ⟨y, rfl, hd, by omega, by omega⟩
theorem nil_bad {L : List Bk} {y : Int} (h : BadAt [] L y) : False := by
  obtain ⟨⟨x, hx, _⟩, _⟩ := h
  cases hx
theorem fits_dbl {l : List Dm} (h : NiceH l) (L : List Bk) : FitsA (dblL l) (dblH L) ↔ FitsA l L := by
  by_cases hl : l = []
  · subst hl
    exact ⟨fun q => ⟨q.1, fun y hy => nil_bad hy⟩, fun q => ⟨q.1, fun y hy => nil_bad (show BadAt [] (dblH L) y from hy)⟩⟩
  · have e := load_dbl (l := l) (p := (perS l).1) l.length
    rw [← per_dbl h hl] at e
    constructor
    · rintro ⟨q1, q2⟩
      rw [show (dblL l).length = l.length from List.length_map _, e, per_dbl h hl] at q1
      exact ⟨by omega, fun y hy => q2 _ (bad_dbl h hl hy)⟩
    · rintro ⟨q1, q2⟩
      refine ⟨by rw [show (dblL l).length = l.length from List.length_map _, e, per_dbl h hl]; omega, fun z hz => ?_⟩
      obtain ⟨y, _, hy⟩ := bad_half h hl hz
      exact q2 y hy
theorem ts_dbl {l : List Dm} (h : NiceH l) (L : List Bk) : tsS (dblL l) (dblH L) = tsS l L := by
  rcases ts_or l L with ⟨a, b⟩ | ⟨a, b⟩
  · rw [a, ts_yes ((fits_dbl h L).2 b)]
  · rw [a, ts_no (fun q => b ((fits_dbl h L).1 q))]
theorem ms_dbl {l : List Dm} (h : NiceH l) (L : List Bk) : msS (dblL l) (dblH L) = (msS l L).map (2 * ·) := by
  by_cases hl : l = []
  · subst hl
    rw [ms_none (l := []) (L := L) (fun y hy => nil_bad hy)]
    exact ms_none (fun y hy => nil_bad (show BadAt [] (dblH L) y from hy))
  · cases e : msS l L with
    | none =>
      refine ms_none fun z hz => ?_
      obtain ⟨y, _, hy⟩ := bad_half h hl hz
      exact ms_not h.ok e y hy
    | some y =>
      obtain ⟨m1, m2⟩ := ms_at e
      show _ = some (2 * y)
      refine ms_some ⟨bad_dbl h hl m1, fun z hz => ?_⟩
      obtain ⟨u, rfl, hu⟩ := bad_half h hl hz
      have := m2 u hu
      omega
theorem rm_dbl {l : List Dm} (h : NiceH l) (L : List Bk) : rmS (dblL l) (dblH L) = (rmS l L).map (2 * ·) := by
  by_cases hl : l = []
  · subst hl
    rw [rm_none (l := []) (L := L) (.inr fun y ⟨x, hx, _⟩ => by cases hx)]
    exact rm_none (.inr fun y ⟨x, hx, _⟩ => by cases hx)
  · cases e : rmS l L with
    | none =>
      refine rm_none ?_
      rcases rm_not e with q | q
      · exact .inl fun z => q ((fits_dbl h L).1 z)
      · refine .inr fun z hz hle => ?_
        obtain ⟨y, rfl, hd⟩ := dl_halfL hz
        rw [end_dbl h hl] at hle
        exact q y hd (by omega)
    | some n =>
      obtain ⟨r1, ⟨y, y1, y2, y3⟩, r3⟩ := rm_at e
      show _ = some (2 * n)
      refine rm_some ⟨(fits_dbl h L).2 r1, ⟨2 * y, dl_dblL y1, by rw [end_dbl h hl]; omega, by rw [left_dbl]; omega⟩, fun z hz hle => ?_⟩
      obtain ⟨u, rfl, hd⟩ := dl_halfL hz
      rw [end_dbl h hl] at hle
      have := r3 u hd (by omega)
      rw [left_dbl]; omega
end Go.Proofs.Ytljigfedmjlfgaa

/-
  The walk over the blocks that plain numbers mean.
-/
namespace Go.Proofs.Ytljigfedmjlfgaa
open Go.RowKit Go.Maps

/-- A row of pairs. -/
structure Pairs (W : World) (a : Option Addr) (n : Nat) (l : Nat → Int × Int) : Prop where
  small : (n : Int) ≤ 9223372036854775807
  at_ : ∀ k, k < n → ∃ g o, a = some ⟨g, o, none⟩ ∧ W.cell? ⟨g, o + k * 2, none⟩ = some (.int .i64 (l k).1) ∧ W.cell? ⟨g, o + k * 2 + 1, none⟩ = some (.int .i64 (l k).2)
theorem Pairs.below {w w' : World} {a : Option Addr} {n : Nat} {l : Nat → Int × Int} (h : Pairs w a n l) (hb : Below w.heap.size w w') : Pairs w' a n l :=
  ⟨h.small, fun k hk => by obtain ⟨g, o, e, c0, c1⟩ := h.at_ k hk; exact ⟨g, o, e, kept_cell hb c0, kept_cell hb c1⟩⟩
/-- What a block is that numbers mean. -/
structure HeldD (x : Bk) : Prop where
  d1 : 1 ≤ x.d
  d2 : x.d ≤ 64
  b0 : 0 ≤ x.b
  b1 : x.b ≤ 15
def AllHeld (M : List Bk) : Prop := ∀ x ∈ M, HeldD x
theorem AllHeld.more {M : List Bk} {x : Bk} (h : AllHeld M) (hx : HeldD x) : AllHeld (M ++ [x]) := fun y hy => (List.mem_append.1 hy).elim (h y) (fun z => by rw [List.mem_singleton.1 z]; exact hx)
theorem bk_new (w : World) (x : Bk) (T : TypeId) : VView (w.alloc (.cells #[.int .i64 x.d, .int .i64 x.b] T)) (some ⟨w.heap.size, 0, none⟩) [x] :=
  VView.of_at ⟨by rw [World.cell?_alloc_new]; rfl, by rw [World.cell?_alloc_new]; rfl⟩
/-- A row of one's own that grows. -/
structure HdAt (w : World) (v : Value) (M : List Bk) (V : World) : Prop where
  low : Below w.heap.size w V
  own : OwnV V w.heap.size v M
theorem HdAt.below {w V V' : World} {v : Value} {M : List Bk} (h : HdAt w v M V) (hb : Below V.heap.size V V') : HdAt w v M V' := ⟨below_up h.low hb, h.own.below hb⟩
theorem HdAt.push {w V V' : World} {v v' : Value} {M M' : List Bk} (h : HdAt w v M V) (hg : V.grownBy V' v.ownBlock) (ho : OwnV V' w.heap.size v' M') : HdAt w v' M' V' :=
  ⟨h.low.grown hg h.low.size (fun k hk => (h.own.new hk).1), ho⟩

set_option maxRecDepth 100000 in
set_option maxHeartbeats 8000000 in
theorem held12_any {w : World} {a : Option Addr} {n : Nat} {l : Nat → Int × Int} (hn : Pairs w a n l) (cap : Nat) :
    Calls Try.prog 10 #[.slice a n cap] w fun e w' => (∃ (a' : Option Addr) (N c' : Nat) (M : List Bk), e = .returned (.slice a' N c') ∧ VView w' a' M ∧ M.length = N ∧ N = min n 6 ∧ N ≤ c' ∧ (c' : Int) ≤ 9223372036854775807 ∧ AllHeld M) ∧ Below w.heap.size w w' := by
  have HN := Lib.hid hn
  have hn9 := hn.small
  clear hn
  obtain ⟨m, hm⟩ : ∃ m, min n 6 = m := ⟨_, rfl⟩
  have hm1 : m ≤ n := by omega
  have hm2 : m ≤ 6 := by omega
  have hor : m = n ∨ (m = 6 ∧ 6 < n) := by omega
  have HG : Hid (min n 6 = m) := hm
  clear hm
  have HV0 : Hid (HdAt w (.slice none 0 0) [] w) := ⟨Below.refl _ _, World.ownsRow_nil _ _ _ _⟩
  go_enter Try.func10, Try.ntmps10
  go_wp2
  go_loopw [3, 4] (fun g u wr => ∃ (k : Nat) (a' : Option Addr) (c' : Nat) (M : List Bk), k ≤ m ∧ u = .int .i64 k ∧ g = .slice a' k c' ∧ Hid (HdAt w (.slice a' k c') M wr) ∧ Hid (M.length = k) ∧ Hid (AllHeld M)) (fun _ u _ => (m - intOf u).toNat)
  case atStart => exact ⟨0, none, 0, [], Nat.zero_le _, rfl, rfl, HV0, rfl, fun x hx => by cases hx⟩
  case round =>
    obtain ⟨k, a', c', M, hk, rfl, rfl, HP, HL, HA⟩ := hrel
    clear HV0
    by_cases hlt : k < m
    · obtain ⟨g, o, rfl, c0, c1⟩ := (HN.out.below HP.out.low).at_ k (by omega)
      have hk1 : (k : Int) < (n : Int) := by omega
      have hk2 : (k : Int) < 6 := by omega
      have hk0 : (0 : Int) ≤ (k : Int) := by omega
      obtain ⟨q, hq⟩ : ∃ q, l k = q := ⟨_, rfl⟩
      rw [hq] at c0 c1
      clear hq
      obtain ⟨q1, q2⟩ := q
      dsimp only at c0 c1
      obtain ⟨j1, hj1, band1⟩ := and_small q1 63 (by omega)
      obtain ⟨j2, hj2, band2⟩ := and_small q2 15 (by omega)
      have b1 : bits .and .i64 q1 63 = (j1 : Int) := band1
      have b2 : bits .and .i64 q2 15 = (j2 : Int) := band2
      clear band1 band2
      have e1 : IntKind.i64.wrap (1 + (j1 : Int)) = 1 + (j1 : Int) := IntWalk.i64_in _ (by omega)
      have HGD : Hid (HeldD ⟨1 + (j1 : Int), (j2 : Int)⟩) := ⟨by show 1 ≤ 1 + (j1 : Int); omega, by show 1 + (j1 : Int) ≤ 64; omega, by show (0 : Int) ≤ (j2 : Int); omega, by show (j2 : Int) ≤ 15; omega⟩
      obtain ⟨D, hD⟩ : ∃ D, 1 + (j1 : Int) = D := ⟨_, rfl⟩
      rw [hD] at e1 HGD
      have ed : IntKind.i64.wrap (1 + (j1 : Int)) = D := by rw [hD]; exact e1
      generalize (j2 : Int) = Bv at *
      have HAA := Lib.hid (HA.out.more HGD.out)
      have HLL : Hid ((M ++ [(⟨D, Bv⟩ : Bk)]).length = k + 1) := by show _ = _; rw [List.length_append, HL.out]; rfl
      have HSM : Hid (M.length + 1 ≤ 1000000) := by have := HL.out; show _ ≤ _; omega
      have HNN : Hid (M.length + 1 = k + 1) := by have := HL.out; show _ = _; omega
      clear hj1 hj2 HGD HA HL hD e1
      go_upto_region 5 with fail
      go_region_law (refine vstep_append (m := 1) (l := [(⟨D, Bv⟩ : Bk)]) rfl (.tmp 15) (.tmp 30) rfl (by rfl) (by rfl) ((HP.out.below (by repeat (first | exact Below.refl _ _ | (with_reducible assumption) | refine bw_alloc ?_ _ | refine bw_drew ?_))).own) (HP.out.below (by repeat (first | exact Below.refl _ _ | (with_reducible assumption) | refine bw_alloc ?_ _ | refine bw_drew ?_))).low.size (by first | exact bk_new _ ⟨D, Bv⟩ _ | exact (bk_new _ ⟨D, Bv⟩ _).below (by repeat (first | exact Below.refl _ _ | (with_reducible assumption) | refine bw_alloc ?_ _ | refine bw_drew ?_))) rfl HSM.out (fun z => by cases z) (k + 1) HNN.out ?_; intro a6 c6 w6 o6 n6 l6; have HP6 := Lib.hid ((HP.out.below (by repeat (first | exact Below.refl _ _ | (with_reducible assumption) | refine bw_alloc ?_ _ | refine bw_drew ?_))).push n6 o6); clear o6 n6 l6)
      all_goals
        go_wp2
        go_roundw
        case rel => exact ⟨k + 1, a6, c6, _, by omega, by go_num, rfl, (by first | exact HP6 | exact Lib.hid (HP6.out.below (by repeat (first | exact Below.refl _ _ | (with_reducible assumption) | refine bw_alloc ?_ _ | refine bw_drew ?_)))), HLL, HAA⟩
        case measure => simp [intOf]; omega
    · obtain rfl : m = k := by omega
      have HO := Lib.hid HP.out.own.slice
      have HQ : Hid (∀ w', w' = wr → (∃ (a9 : Option Addr) (N c9 : Nat) (M9 : List Bk), Ending.returned (.slice a' m c') = .returned (.slice a9 N c9) ∧ VView w' a9 M9 ∧ M9.length = N ∧ N = min n 6 ∧ N ≤ c9 ∧ (c9 : Int) ≤ 9223372036854775807 ∧ AllHeld M9) ∧ Below w.heap.size w w') := by
        rintro w' rfl
        obtain ⟨a9, c9, e9, hv, h1, h2⟩ := HO.out
        obtain ⟨rfl, hN, rfl⟩ := Value.slice.inj e9
        exact ⟨⟨_, _, _, M, rfl, hv, HL.out, HG.out.symm, by rw [hN]; exact h1, h2, HA.out⟩, HP.out.low⟩
      clear HG
      rcases hor with rfl | ⟨rfl, hh⟩
      · go_wp2
        go_ret
        exact HQ.out _ rfl
      · have h66 : (6 : Int) < (n : Int) := by omega
        go_wp2
        go_ret
        exact HQ.out _ rfl
end Go.Proofs.Ytljigfedmjlfgaa

/-
  A row of demands as callers have it.
-/
namespace Go.Proofs.Ytljigfedmjlfgaa
open Go.RowKit Go.Maps

/-- A row of demands as callers have it. -/
structure Dems (W : World) (a : Option Addr) (n c : Nat) (l : List Dm) : Prop where
  len : l.length = n
  view : GView W a l
  le : n ≤ c
  small : (c : Int) ≤ 9223372036854775807
  wf : ∀ x ∈ l, I64 x.c ∧ I64 x.d ∧ I64 x.t
theorem Dems.below {w w' : World} {a : Option Addr} {n c : Nat} {l : List Dm} (h : Dems w a n c l) (hb : Below w.heap.size w w') : Dems w' a n c l := ⟨h.len, h.view.below hb, h.le, h.small, h.wf⟩
theorem Dems.n9 {w : World} {a : Option Addr} {n c : Nat} {l : List Dm} (h : Dems w a n c l) : (n : Int) ≤ 9223372036854775807 := by have := h.le; have := h.small; omega
theorem Dems.good {w : World} {a : Option Addr} {n c : Nat} {l : List Dm} (h1 : GView w a l) (h2 : l.length = n) (h3 : n ≤ c) (h4 : (c : Int) ≤ 9223372036854775807) (h5 : AllGood l) : Dems w a n c l :=
  ⟨h2, h1, h3, h4, fun x hx => by
    have h := h5 x hx
    have := h.per; have := h.d1; have := h.d2; have := h.c0; have := h.c1
    unfold I64; omega⟩
end Go.Proofs.Ytljigfedmjlfgaa

/-
  Rows of blocks as callers have them.
-/
namespace Go.Proofs.Ytljigfedmjlfgaa
open Go.RowKit Go.Maps

structure NiceB (L : List Bk) : Prop where
  ok : ∀ x ∈ L, 1 ≤ x.d ∧ x.d ≤ 1048576 ∧ 0 ≤ x.b ∧ x.b ≤ 1000000
  len : L.length ≤ 64
/-- A row of blocks as callers have it. -/
structure Blks (W : World) (a : Option Addr) (n c : Nat) (L : List Bk) : Prop where
  len : L.length = n
  view : VView W a L
  le : n ≤ c
  small : (c : Int) ≤ 9223372036854775807
  nice : NiceB L
theorem Blks.below {w w' : World} {a : Option Addr} {n c : Nat} {L : List Bk} (h : Blks w a n c L) (hb : Below w.heap.size w w') : Blks w' a n c L := ⟨h.len, h.view.below hb, h.le, h.small, h.nice⟩
theorem Blks.n9 {w : World} {a : Option Addr} {n c : Nat} {L : List Bk} (h : Blks w a n c L) : (n : Int) ≤ 9223372036854775807 := by have := h.le; have := h.small; omega
theorem AllHeld.nice {M : List Bk} (h : AllHeld M) (hl : M.length ≤ 64) : NiceB M := ⟨fun x hx => by have q := h x hx; have := q.d1; have := q.d2; have := q.b0; have := q.b1; omega, hl⟩
theorem AllGood.niceH {M : List Dm} (h : AllGood M) (hl : M.length ≤ 7) : NiceH M := ⟨h.ok, fun x hx => by rcases (h x hx).per with e | e | e | e | e | e | e | e <;> rw [e] <;> decide, fun x hx => (h x hx).c1, hl⟩
theorem AllGood.nice {M : List Dm} (h : AllGood M) (hl : M.length ≤ 7) : Nice M := (h.niceH hl).nice
/-- What is held is not more than the most. -/
theorem held_top {L : List Bk} (h : NiceB L) (t : Int) : heldA L t ≤ 1000000 := by
  rcases held_in L t with e | ⟨x, hx, _, e⟩
  · omega
  · have := h.ok x hx; omega
end Go.Proofs.Ytljigfedmjlfgaa

/-
  The walk over the document's slack.
-/
namespace Go.Proofs.Ytljigfedmjlfgaa
open Go.RowKit Go.Maps

/-- Slack, if the times may be. -/
def slS (l : List Dm) (fr tt : Int) : Option Int := if okL l = true ∧ timeB fr = true ∧ timeB tt = true ∧ tt - fr ≤ 1048576 then (slkN l fr (tt - fr).toNat).getD none else none
theorem slS_bad {l : List Dm} {fr tt : Int} (h : ¬ (timeB fr = true ∧ timeB tt = true ∧ tt - fr ≤ 1048576)) : slS l fr tt = none := if_neg fun q => h q.2
theorem slS_is {l : List Dm} {fr tt : Int} {p : Option Int} (h0 : okL l = true) (h : timeB fr = true ∧ timeB tt = true ∧ tt - fr ≤ 1048576) (e : slkN l fr (tt - fr).toNat = some p) : slS l fr tt = p := by unfold slS; rw [if_pos ⟨h0, h⟩, e]; rfl
theorem slS_over {l : List Dm} {fr tt : Int} (e : slkN l fr (tt - fr).toNat = none) : slS l fr tt = none := by unfold slS; rw [e]; split <;> rfl
/-- Where the walk from deadline to deadline stands: all times below a are looked at, the next deadline is at b. -/
structure Stand (l : List Dm) (fr tt : Int) (p : Option Int) (a b : Nat) : Prop where
  le : a ≤ b
  sl : slkN l fr a = some p
  no : ∀ i : Nat, a ≤ i → i < b → dlB l (fr + i) = false
  dl : dlB l (fr + b) = true
  bd : fr + a ≤ tt ∨ a = 0
theorem Stand.out {l : List Dm} {fr tt : Int} {p : Option Int} {a b : Nat} (h : Stand l fr tt p a b) (ht : tt ≤ fr + b) : slkN l fr (tt - fr).toNat = some p := by
  rcases Nat.lt_or_ge (tt - fr).toNat a with q | q
  · rcases h.bd with z | z
    · omega
    · omega
  · rw [slk_skip q (fun i h1 h2 => h.no i h1 (by omega))]; exact h.sl
theorem Stand.here {l : List Dm} {fr tt : Int} {p : Option Int} {a b : Nat} (h : Stand l fr tt p a b) : slkN l fr b = some p := by
  rw [slk_skip h.le (fun i h1 h2 => h.no i h1 h2)]; exact h.sl
theorem Stand.over {l : List Dm} {fr tt : Int} {p : Option Int} {a b : Nat} (h : Stand l fr tt p a b) (ht : fr + b < tt) (hw : 4611686018427387904 < dueA l (fr + b)) : slkN l fr (tt - fr).toNat = none := by
  refine slk_bad (a := b + 1) ?_ (by omega)
  rw [slk_next h.here, step_over h.dl hw]
theorem Stand.step {l : List Dm} (hok : ∀ x ∈ l, x.ok) {fr tt : Int} {p : Option Int} {a b : Nat} (h : Stand l fr tt p a b) (ht : fr + b < tt) (hw : dueA l (fr + b) ≤ 4611686018427387904) :
    ∃ y : Int, nextA l (fr + b) = some y ∧ fr + b < y ∧ Stand l fr tt (some (slkMin p (fr + b - dueA l (fr + b)))) (b + 1) (y - fr).toNat ∧ fr + ((y - fr).toNat : Int) = y := by
  cases e : nextA l (fr + b) with
  | none =>
    have := next_nil hok e
    subst this
    have := h.dl
    cases this
  | some y =>
    obtain ⟨y1, y2, y3⟩ := next_some hok e
    have ey : fr + ((y - fr).toNat : Int) = y := by omega
    refine ⟨y, rfl, y2, ⟨by omega, ?_, fun i h1 h2 => ?_, ?_, .inl (by omega)⟩, ey⟩
    · rw [slk_next h.here, step_at h.dl hw]
    · refine dlB_not hok fun hd => ?_
      have := y3 _ hd (by omega); omega
    · rw [ey]; exact (dlB_iff hok).2 y1
theorem stand_first {l : List Dm} (hok : ∀ x ∈ l, x.ok) {fr u : Int} (tt : Int) (hf : 0 ≤ fr) (hu : u = (if 0 < fr then fr - 1 else fr)) {y : Int} (e : nextA l u = some y) : Stand l fr tt none 0 (y - fr).toNat ∧ fr + ((y - fr).toNat : Int) = y := by
  obtain ⟨y1, y2, y3⟩ := next_some hok e
  have hy : fr ≤ y := by split at hu <;> omega
  have ey : fr + ((y - fr).toNat : Int) = y := by omega
  refine ⟨⟨Nat.zero_le _, rfl, fun i h1 h2 => ?_, ?_, .inr rfl⟩, ey⟩
  · refine dlB_not hok fun hd => ?_
    have hp := dl_pos' hok hd
    have := y3 _ hd (by split at hu <;> omega)
    omega
  · rw [ey]; exact (dlB_iff hok).2 y1
theorem slS_nil {fr tt : Int} : slS [] fr tt = none := by
  unfold slS
  split
  · rw [slk_skip (Nat.zero_le _) (fun i _ _ => rfl)]; rfl
  · rfl
/-- The boxes: what comes back, the best so far, the next deadline. -/
structure RSAt (w : World) (gb gx : Nat) (p q : Option Int) (V : World) : Prop where
  low : Below w.heap.size w V
  res : Nm V w.heap.size 0 false
  bst : Nm V gb (p.getD 0) p.isSome
  nxt : Nm V gx (q.getD 0) q.isSome
  l1 : w.heap.size < gb
  l2 : gb < gx
theorem RSAt.below {w V V' : World} {gb gx : Nat} {p q : Option Int} (h : RSAt w gb gx p q V) (hb : Below V.heap.size V V') : RSAt w gb gx p q V' := ⟨below_up h.low hb, kept_obj hb h.res, kept_obj hb h.bst, kept_obj hb h.nxt, h.l1, h.l2⟩
theorem RSAt.ro {w V : World} {gb gx : Nat} {p q : Option Int} (h : RSAt w gb gx p q V) : ROAt w V := ⟨h.low, h.res⟩
theorem nm_far {V : World} {g b : Nat} (h : b ≠ g) (x : Value) (y : Value) : ((V.setCell ⟨g, 0, none⟩ x).setCell ⟨g, 1, none⟩ y).heap[b]? = V.heap[b]? :=
  (blk_far (a := ⟨g, 1, none⟩) h _).trans (blk_far (a := ⟨g, 0, none⟩) h _)
theorem RSAt.putB {w V : World} {gb gx : Nat} {p q : Option Int} (h : RSAt w gb gx p q V) (x : Int) : RSAt w gb gx (some x) q ((V.setCell ⟨gb, 0, none⟩ (.int .i64 x)).setCell ⟨gb, 1, none⟩ (.bool true)) := by
  have h1 := h.l1; have h2 := h.l2
  exact ⟨(h.low.setCell (p := ⟨gb, 0, none⟩) (Nat.le_of_lt h1) _).setCell (p := ⟨gb, 1, none⟩) (Nat.le_of_lt h1) _, (nm_far (by omega) _ _).trans h.res, h.bst.set x true, (nm_far (by omega) _ _).trans h.nxt, h1, h2⟩
theorem RSAt.putX {w V : World} {gb gx : Nat} {p q : Option Int} (h : RSAt w gb gx p q V) (o : Option Int) : RSAt w gb gx p o ((V.setCell ⟨gx, 0, none⟩ (.int .i64 (o.getD 0))).setCell ⟨gx, 1, none⟩ (.bool o.isSome)) := by
  have h1 := h.l1; have h2 := h.l2
  exact ⟨(h.low.setCell (p := ⟨gx, 0, none⟩) (by show _ ≤ gx; omega) _).setCell (p := ⟨gx, 1, none⟩) (by show _ ≤ gx; omega) _, (nm_far (by omega) _ _).trans h.res, (nm_far (by omega) _ _).trans h.bst, h.nxt.set _ _, h1, h2⟩

end Go.Proofs.Ytljigfedmjlfgaa

/-
  Slack, plainly: from deadline to deadline, with the work of each.
-/
namespace Go.Proofs.Ytljigfedmjlfgaa

theorem step_eq {x : Dm} (h : x.ok) {u t : Int} (e : nxtD x u = t) : jobsD x t = jobsD x u + 1 ∧ nxtD x t = t + x.t := by
  have hj := jobs_nonneg h u
  have hd := h.d1; have hd2 := h.d2
  have h1 : jobsD x t = jobsD x u + 1 := by
    refine jobs_is h (by omega) ?_ fun _ => ?_
    · rw [Int.add_mul, Int.one_mul]; unfold nxtD at e; omega
    · rw [Int.add_sub_cancel]; unfold nxtD at e; omega
  refine ⟨h1, ?_⟩
  unfold nxtD at e ⊢
  rw [h1, Int.add_mul, Int.one_mul]; omega
theorem step_ne {x : Dm} (h : x.ok) {u t : Int} (h1 : u ≤ t) (h2 : t < nxtD x u) : jobsD x t = jobsD x u ∧ nxtD x t = nxtD x u := by
  have e := jobs_between h h1 h2
  exact ⟨e, by unfold nxtD; rw [e]⟩
theorem jobs_mono {x : Dm} (h : x.ok) {t u : Int} (htu : t ≤ u) : jobsD x t ≤ jobsD x u := by
  have hj := jobs_nonneg h u
  have hd := h.d1; have hd2 := h.d2
  by_cases q : t < x.d
  · rw [jobs_early q]; exact hj
  · rw [jobs_late q, jobs_late (by omega)]
    have := Int.ediv_le_ediv (a := t - x.d) (b := u - x.d) (c := x.t) (by omega) (by omega)
    omega
theorem dueN_mono {l : List Dm} (h : ∀ x ∈ l, x.ok) {t u : Int} (htu : t ≤ u) : ∀ k, dueN l t k ≤ dueN l u k
  | 0 => Int.le_refl _
  | k + 1 => by
    have ih := dueN_mono h htu k
    cases hx : l[k]? with
    | none => rw [due_end hx, due_end hx]; exact ih
    | some x =>
      have ho := h x (List.mem_of_getElem? hx)
      have := Int.mul_le_mul_of_nonneg_left (jobs_mono ho htu) ho.c0
      rw [due_next hx, due_next hx]; omega
/-- The work that is due just at the next deadline. -/
theorem due_jump {l : List Dm} (h : ∀ x ∈ l, x.ok) {u t : Int} (h1 : u ≤ t) (h2 : ∀ x ∈ l, t ≤ nxtD x u) : ∀ k, 0 ≤ dueN l t k - dueN l u k ∧ dueN l t k - dueN l u k ≤ (k : Int) * 1099511627776
  | 0 => ⟨by show (0 : Int) ≤ 0 - 0; omega, by show (0 : Int) - 0 ≤ _; omega⟩
  | k + 1 => by
    obtain ⟨i1, i2⟩ := due_jump h h1 h2 k
    cases hx : l[k]? with
    | none => rw [due_end hx, due_end hx]; omega
    | some x =>
      have hm := List.mem_of_getElem? hx
      have ho := h x hm
      have c0 := ho.c0; have c1 := ho.c1
      rw [due_next hx, due_next hx]
      rcases Int.lt_or_le t (nxtD x u) with q | q
      · rw [(step_ne ho h1 q).1]; omega
      · have e : nxtD x u = t := by have := h2 x hm; omega
        rw [(step_eq ho e).1, Int.mul_add, Int.mul_one]; omega
theorem jump_next {l : List Dm} {u t : Int} {k : Nat} {x : Dm} (hx : l[k]? = some x) (ho : x.ok) (h1 : u ≤ t) (h2 : t ≤ nxtD x u) :
    (nxtD x u = t → dueN l t (k + 1) - dueN l u (k + 1) = dueN l t k - dueN l u k + x.c) ∧ (nxtD x u ≠ t → dueN l t (k + 1) - dueN l u (k + 1) = dueN l t k - dueN l u k) := by
  refine ⟨fun e => ?_, fun e => ?_⟩
  · rw [due_next hx, due_next hx, (step_eq ho e).1, Int.mul_add, Int.mul_one]; omega
  · rw [due_next hx, due_next hx, (step_ne ho h1 (by omega)).1]; omega

/-- Deadlines from a time on, below another one, one behind the other, each with the work that is due just then; the last one. -/
inductive Chain (l : List Dm) (fr tt : Int) : List (Int × Int) → Int → Prop
  | nil : Chain l fr tt [] (fr - 1)
  | snoc {pre : List (Int × Int)} {u t : Int} : Chain l fr tt pre u → nextA l u = some t → t < tt → Chain l fr tt (pre ++ [(t, dueA l t - dueA l u)]) t
theorem Chain.low {l : List Dm} (hok : ∀ x ∈ l, x.ok) {fr tt : Int} {pre : List (Int × Int)} {u : Int} (h : Chain l fr tt pre u) : fr - 1 ≤ u ∧ (pre.length : Int) ≤ u + 1 - fr ∧ (u < tt ∨ (u = fr - 1 ∧ pre = [])) := by
  induction h with
  | nil => exact ⟨Int.le_refl _, by simp, .inr ⟨rfl, rfl⟩⟩
  | snoc h e ht ih =>
    have := (next_some hok e).2.1
    refine ⟨by omega, ?_, .inl ht⟩
    rw [List.length_append, List.length_singleton]; omega
/-- What the body makes of one. -/
def stS (o : Option (Int × Option Int)) (x : Int × Int) : Option (Int × Option Int) := o.bind fun s => if 4611686018427387904 < s.1 + x.2 then none else some (s.1 + x.2, some (slkMin s.2 (x.1 - (s.1 + x.2))))
def stF (w0 : Int) (pre : List (Int × Int)) : Option (Int × Option Int) := pre.foldl stS (some (w0, none))
theorem stF_snoc (w0 : Int) (pre : List (Int × Int)) (x : Int × Int) : stF w0 (pre ++ [x]) = stS (stF w0 pre) x := by unfold stF; rw [List.foldl_append]; rfl
theorem stF_over {w0 : Int} {pre : List (Int × Int)} {s : Int} {b : Option Int} {x : Int × Int} (h : stF w0 pre = some (s, b)) (hw : 4611686018427387904 < s + x.2) : stF w0 (pre ++ [x]) = none := by
  rw [stF_snoc, h]; exact if_pos hw
theorem stF_go {w0 : Int} {pre : List (Int × Int)} {s : Int} {b : Option Int} {x : Int × Int} (h : stF w0 pre = some (s, b)) (hw : ¬ 4611686018427387904 < s + x.2) : stF w0 (pre ++ [x]) = some (s + x.2, some (slkMin b (x.1 - (s + x.2)))) := by
  rw [stF_snoc, h]; exact if_neg hw
theorem Chain.is {l : List Dm} (hok : ∀ x ∈ l, x.ok) {fr tt : Int} {pre : List (Int × Int)} {u : Int} (h : Chain l fr tt pre u) : stF (dueA l (fr - 1)) pre = (slkN l fr (u + 1 - fr).toNat).map fun b => (dueA l u, b) := by
  induction h with
  | nil =>
    rw [show (fr - 1 + 1 - fr).toNat = 0 by omega]; rfl
  | @snoc pre u t h e ht ih =>
    obtain ⟨h1, h2, h3⟩ := next_some hok e
    have hl := (Chain.low hok h).1
    obtain ⟨k, hk⟩ : ∃ k, (t - fr).toNat = k := ⟨_, rfl⟩
    have hk1 : fr + (k : Int) = t := by omega
    have hk2 : (t + 1 - fr).toNat = k + 1 := by omega
    have hsk : slkN l fr k = slkN l fr (u + 1 - fr).toNat := slk_skip (by omega) fun i a1 a2 => dlB_not hok fun hd => by
      have := h3 _ hd (by omega); omega
    have hdl : dlB l t = true := (dlB_iff hok).2 h1
    rw [stF_snoc, ih, hk2, ← hsk]
    cases hz : slkN l fr k with
    | none => rw [slk_fell hz]; rfl
    | some b =>
      rw [slk_next hz, hk1]
      show stS (some (dueA l u, b)) (t, dueA l t - dueA l u) = _
      unfold stS
      rw [Option.bind_some]
      dsimp only
      rw [show dueA l u + (dueA l t - dueA l u) = dueA l t by omega]
      by_cases q : 4611686018427387904 < dueA l t
      · rw [if_pos q, step_over hdl q]; rfl
      · rw [if_neg q, step_at hdl (by omega)]; rfl
/-- At the end, or where it was too much. -/
theorem Chain.out {l : List Dm} (hok : ∀ x ∈ l, x.ok) {fr tt : Int} {pre : List (Int × Int)} {u : Int} (h : Chain l fr tt pre u) (he : ∀ t, nextA l u = some t → tt ≤ t) :
    stF (dueA l (fr - 1)) pre = (slkN l fr (tt - fr).toNat).map fun b => (dueA l u, b) := by
  have hl := Chain.low hok h
  rw [Chain.is hok h, slk_skip (a := (u + 1 - fr).toNat) (b := (tt - fr).toNat) (by omega) fun i a1 a2 => dlB_not hok fun hd => ?_]
  cases e : nextA l u with
  | none => have := next_none hok e hd; omega
  | some t => have := (next_some hok e).2.2 _ hd (by omega); have := he t e; omega
theorem Chain.fell {l : List Dm} (hok : ∀ x ∈ l, x.ok) {fr tt : Int} {pre : List (Int × Int)} {u : Int} (h : Chain l fr tt pre u) (he : stF (dueA l (fr - 1)) pre = none) : slS l fr tt = none := by
  have hl := Chain.low hok h
  rcases hl.2.2 with q | ⟨_, rfl⟩
  · rw [Chain.is hok h] at he
    refine slS_over (slk_bad (a := (u + 1 - fr).toNat) ?_ (by omega))
    cases e : slkN l fr (u + 1 - fr).toNat with
    | none => rfl
    | some b => rw [e] at he; cases he
  · cases he
theorem Chain.ends {l : List Dm} (h0 : okL l = true) {fr tt : Int} (ht : timeB fr = true ∧ timeB tt = true ∧ tt - fr ≤ 1048576) {pre : List (Int × Int)} {u : Int} (h : Chain l fr tt pre u) (he : ∀ t, nextA l u = some t → tt ≤ t) {s : Int} {b : Option Int} (hs : stF (dueA l (fr - 1)) pre = some (s, b)) : slS l fr tt = b := by
  rw [Chain.out (okL_iff.1 h0).1 h he] at hs
  cases e : slkN l fr (tt - fr).toNat with
  | none => rw [e] at hs; cases hs
  | some p =>
    rw [e] at hs
    simp only [Option.map_some, Option.some.injEq, Prod.mk.injEq] at hs
    rw [slS_is h0 ht e, hs.2]
/-- Too much ahead of all deadlines. -/
theorem slS_much {l : List Dm} (hok : ∀ x ∈ l, x.ok) {fr tt : Int} (h : 4611686018427387904 < dueA l (fr - 1)) : slS l fr tt = none := by
  have key : ∀ k, slkN l fr k = none ∨ slkN l fr k = some none := by
    intro k
    induction k with
    | zero => exact .inr rfl
    | succ k ih =>
      rcases ih with ih | ih
      · exact .inl (slk_fell ih)
      · rw [slk_next ih]
        cases hd : dlB l (fr + k) with
        | false => exact .inr (step_not hd _)
        | true =>
          refine .inl (step_over hd ?_ _)
          have := dueN_mono hok (t := fr - 1) (u := fr + k) (by omega) l.length
          unfold dueA at h ⊢; omega
  unfold slS
  split
  · rcases key (tt - fr).toNat with e | e <;> rw [e] <;> rfl
  · rfl
/-- The next deadlines of all. -/
def nxR (l : List Dm) (u : Int) : List Int := l.map fun x => nxtD x u
theorem nxR_len (l : List Dm) (u : Int) : (nxR l u).length = l.length := List.length_map _
theorem nxR_at {l : List Dm} {u : Int} {k : Nat} {x : Dm} (h : l[k]? = some x) : (nxR l u)[k]? = some (nxtD x u) := by unfold nxR; rw [List.getElem?_map, h]; rfl
theorem nxR_least {l : List Dm} (hok : ∀ x ∈ l, x.ok) {u t : Int} (e : nextA l u = some t) : t ∈ nxR l u ∧ ∀ y ∈ nxR l u, t ≤ y := by
  obtain ⟨⟨x, hx, hd⟩, h2, h3⟩ := next_some hok e
  have hle : ∀ y ∈ nxR l u, t ≤ y := fun y hy => by
    obtain ⟨z, hz, rfl⟩ := List.mem_map.1 hy
    exact h3 _ ⟨z, hz, nxt_dl (hok z hz) u⟩ (jobs_fit (hok z hz) u).1
  refine ⟨?_, hle⟩
  have h4 := nxt_least (hok x hx) hd h2
  have h5 := hle _ (List.mem_map.2 ⟨x, hx, rfl⟩)
  exact List.mem_map.2 ⟨x, hx, by omega⟩
theorem nxR_le {l : List Dm} (hok : ∀ x ∈ l, x.ok) {u t : Int} (e : nextA l u = some t) : ∀ x ∈ l, t ≤ nxtD x u := fun x hx => (nxR_least hok e).2 _ (List.mem_map.2 ⟨x, hx, rfl⟩)
/-- Half way. -/
def nxH (l : List Dm) (t u : Int) (k : Nat) : List Int := (nxR l t).take k ++ (nxR l u).drop k
theorem nxH_zero (l : List Dm) (t u : Int) : nxH l t u 0 = nxR l u := by unfold nxH; rw [List.take_zero, List.drop_zero]; rfl
theorem nxH_end {l : List Dm} {t u : Int} {n : Nat} (h : l.length = n) : nxH l t u n = nxR l t := by
  unfold nxH; rw [List.take_of_length_le (by rw [nxR_len]; omega), List.drop_of_length_le (by rw [nxR_len]; omega), List.append_nil]
theorem nxH_len (l : List Dm) (t u : Int) (k : Nat) : (nxH l t u k).length = l.length := by
  unfold nxH; rw [List.length_append, List.length_take, List.length_drop, nxR_len, nxR_len]; omega
theorem nxH_at {l : List Dm} {t u : Int} {k : Nat} {x : Dm} (h : l[k]? = some x) : (nxH l t u k)[k]? = some (nxtD x u) := by
  have hk := (List.getElem?_eq_some_iff.1 h).1
  unfold nxH
  rw [List.getElem?_append_right (by rw [List.length_take, nxR_len]; omega), List.length_take, nxR_len, List.getElem?_drop, show k + (k - min k l.length) = k by omega]
  exact nxR_at h
theorem nxH_set {l : List Dm} {t u : Int} {k : Nat} {x : Dm} (h : l[k]? = some x) : (nxH l t u k).set k (nxtD x t) = nxH l t u (k + 1) := by
  have hk := (List.getElem?_eq_some_iff.1 h).1
  have hl : ((nxR l t).take k).length = k := by rw [List.length_take, nxR_len]; omega
  unfold nxH
  rw [List.set_append_right _ _ (by omega), hl, Nat.sub_self, List.take_add_one, nxR_at h]
  have hd : (nxR l u).drop k = nxtD x u :: (nxR l u).drop (k + 1) := by
    obtain ⟨h2, h3⟩ := List.getElem?_eq_some_iff.1 (nxR_at (u := u) h)
    rw [List.drop_eq_getElem_cons h2, h3]
  rw [hd, List.set_cons_zero, List.append_assoc]; rfl
theorem nxH_same {l : List Dm} {t u : Int} {k : Nat} {x : Dm} (h : l[k]? = some x) (e : nxtD x t = nxtD x u) : nxH l t u k = nxH l t u (k + 1) := by
  rw [← nxH_set h, e]
  have := nxH_at (t := t) (u := u) h
  obtain ⟨h2, h3⟩ := List.getElem?_eq_some_iff.1 this
  rw [← h3, List.set_getElem_self]
theorem nxR_next {l : List Dm} {u : Int} {k : Nat} {x : Dm} (h : l[k]? = some x) : (nxR l u).take (k + 1) = (nxR l u).take k ++ [nxtD x u] := by rw [List.take_add_one, nxR_at h]; rfl
theorem next_some_of {l : List Dm} (hok : ∀ x ∈ l, x.ok) {u : Int} (hn : 0 < l.length) : ∃ t, nextA l u = some t := by
  cases e : nextA l u with
  | some t => exact ⟨t, rfl⟩
  | none => have := next_nil hok e; subst this; cases hn
end Go.Proofs.Ytljigfedmjlfgaa

/-
  The walks over the program's check of demands, of times, over how many jobs are due, and over the next deadline of one.
-/
namespace Go.Proofs.Ytljigfedmjlfgaa
open Go.RowKit Go.Maps

set_option maxRecDepth 100000 in
set_option maxHeartbeats 2000000 in
theorem pjobs_any (x : Dm) (hx : x.ok) (t : Int) (h0 : -1 ≤ t) (ht : t ≤ 2199023255552) (w : World) :
    Calls Try.prog 58 #[.agg #[.int .i64 x.c, .int .i64 x.d, .int .i64 x.t], .int .i64 t] w fun e w' => e = .returned (.int .i64 (jobsD x t)) ∧ Below w.heap.size w w' := by
  have h1 := hx.d1; have h2 := hx.d2; have h3 := hx.t2
  have hj := jobs_top hx ht
  have hj0 := jobs_nonneg hx t
  by_cases q : t < x.d
  · rw [jobs_early q]
    clear hj hj0 hx h1 h2 h3
    go_enter Try.func58, Try.ntmps58
    go_wp2
    go_ret
    exact ⟨rfl, (by repeat (first | exact Below.refl _ _ | (with_reducible assumption) | refine bw_alloc ?_ _ | refine bw_drew ?_))⟩
  · rw [jobs_late q] at hj hj0 ⊢
    have e0 : (t - x.d).tdiv x.t = (t - x.d) / x.t := Int.tdiv_eq_ediv_of_nonneg (by omega)
    have e1 : IntKind.i64.wrap (t - x.d) = t - x.d := IntWalk.i64_in _ (by omega)
    have e2 : IntKind.i64.wrap ((t - x.d).tdiv x.t) = (t - x.d) / x.t := by rw [e0]; exact IntWalk.i64_in _ (by omega)
    have e2' : IntKind.i64.wrap ((t - x.d) / x.t) = (t - x.d) / x.t := IntWalk.i64_in _ (by omega)
    have e3 : IntKind.i64.wrap ((t - x.d) / x.t + 1) = (t - x.d) / x.t + 1 := IntWalk.i64_in _ (by omega)
    have z1 : (x.t == 0) = false := by rw [beq_eq_false_iff_ne]; omega
    have z2 : ¬ x.t = 0 := by omega
    clear hj hj0 hx h1 h2 h3
    go_enter Try.func58, Try.ntmps58
    go_wp2
    go_ret
    exact ⟨rfl, (by repeat (first | exact Below.refl _ _ | (with_reducible assumption) | refine bw_alloc ?_ _ | refine bw_drew ?_))⟩

set_option maxRecDepth 100000 in
theorem ptime_any (t : Int) (w : World) : Calls Try.prog 44 #[.int .i64 t] w fun e w' => e = .returned (.bool (timeB t)) ∧ w = w' := by
  unfold timeB
  by_cases q : 0 ≤ t
  · rw [decide_eq_true q, Bool.true_and]
    by_cases q2 : t ≤ 2199023255552
    · rw [decide_eq_true q2]
      go_enter Try.func44, Try.ntmps44
      go_wp2
      go_ret
      exact ⟨rfl, rfl⟩
    · rw [decide_eq_false q2]
      go_enter Try.func44, Try.ntmps44
      go_wp2
      go_ret
      exact ⟨rfl, rfl⟩
  · rw [decide_eq_false q, Bool.false_and]
    go_enter Try.func44, Try.ntmps44
    go_wp2
    go_ret
    exact ⟨rfl, rfl⟩

set_option maxRecDepth 100000 in
set_option maxHeartbeats 4000000 in
/-- The next deadline of one. -/
theorem pafter_any (x : Dm) (hx : x.ok) (t : Int) (h0 : -1 ≤ t) (ht : t ≤ 2199023255552) (w : World) :
    Calls Try.prog 60 #[.agg #[.int .i64 x.c, .int .i64 x.d, .int .i64 x.t], .int .i64 t] w fun e w' => e = .returned (.int .i64 (nxtD x t)) ∧ Below w.heap.size w w' := by
  have JC := Lib.hid (fun v => pjobs_any x hx t h0 ht v)
  obtain ⟨m1, m2, m3⟩ := nxt_top hx ht
  have h1 := hx.d1; have h2 := hx.d2; have h3 := hx.t2
  unfold nxtD at m2 ⊢
  obtain ⟨j, hj⟩ : ∃ j, jobsD x t = j := ⟨_, rfl⟩
  rw [hj] at JC m1 m2 m3 ⊢
  have e1 : IntKind.i64.wrap (j * x.t) = j * x.t := IntWalk.i64_in _ (by omega)
  have e2 : IntKind.i64.wrap (x.d + j * x.t) = x.d + j * x.t := IntWalk.i64_in _ (by omega)
  obtain ⟨p, hp⟩ : ∃ p, j * x.t = p := ⟨_, rfl⟩
  rw [hp] at e1 e2 ⊢
  clear hj m1 m2 m3 h1 h2 h3 hx
  go_enter Try.func60, Try.ntmps60
  go_upto_region 1 with fail
  refine gen_world (fun v => Below w.heap.size w v ∧ v.cell? ⟨w.heap.size, 0, none⟩ = some (.int .i64 x.c) ∧ v.cell? ⟨w.heap.size, 1, none⟩ = some (.int .i64 x.d) ∧ v.cell? ⟨w.heap.size, 2, none⟩ = some (.int .i64 x.t)) ⟨(by repeat (first | exact Below.refl _ _ | (with_reducible assumption) | refine bw_alloc ?_ _ | refine bw_drew ?_)), by rw [World.cell?_alloc_new]; rfl, by rw [World.cell?_alloc_new]; rfl, by rw [World.cell?_alloc_new]; rfl⟩ ?_
  intro V ⟨hb, c0, c1, c2⟩
  have HB := Lib.hid hb
  have HC := Lib.hid (fun w' (hb : Below V.heap.size V w') => And.intro (kept_cell hb c0) (And.intro (kept_cell hb c1) (kept_cell hb c2)))
  clear hb
  go_region_held3 (fun w' => w'.cell? ⟨w.heap.size, 0, none⟩ = some (.int .i64 x.c) ∧ w'.cell? ⟨w.heap.size, 1, none⟩ = some (.int .i64 x.d) ∧ w'.cell? ⟨w.heap.size, 2, none⟩ = some (.int .i64 x.t)) (exact HC.out _ (by repeat (first | exact Below.refl _ _ | (with_reducible assumption) | refine bw_drew ?_ | refine bw_alloc ?_ _))) ((go_at_call 58; (with_reducible refine (Calls.upV (V := V) (by repeat (first | exact Below.refl _ _ | (with_reducible assumption) | refine bw_alloc ?_ _ | refine bw_drew ?_)) (JC.out _)).mono ?_); rintro e wj ⟨rfl, bzj, bx1⟩; clear bzj))
  all_goals
    go_wp2_with fail
    go_ret
    exact ⟨rfl, below_up HB.out (by repeat (first | exact Below.refl _ _ | (with_reducible assumption) | refine bw_drew ?_ | refine bw_alloc ?_ _))⟩

set_option maxRecDepth 100000 in
set_option maxHeartbeats 4000000 in
/-- Whether one may not be. -/
theorem pcheck1_any (x : Dm) (w : World) :
    Calls Try.prog 56 #[.agg #[.int .i64 x.c, .int .i64 x.d, .int .i64 x.t]] w fun e w' => e = .returned (.bool (!(okD x))) ∧ Below w.heap.size w w' := by
  have key : ∀ b, okD x = b → Calls Try.prog 56 #[.agg #[.int .i64 x.c, .int .i64 x.d, .int .i64 x.t]] w fun e w' => e = .returned (.bool (!b)) ∧ Below w.heap.size w w' := by
    intro b hb
    by_cases q1 : x.c < 0
    · obtain rfl : b = false := by rw [← hb]; cases e : okD x with | false => rfl | true => exact absurd (okD_iff.1 e).c0 (by omega)
      clear hb
      go_enter Try.func56, Try.ntmps56
      go_wp2
      go_ret
      exact ⟨rfl, (by repeat (first | exact Below.refl _ _ | (with_reducible assumption) | refine bw_alloc ?_ _ | refine bw_drew ?_))⟩
    by_cases q2 : 1099511627776 < x.c
    · obtain rfl : b = false := by rw [← hb]; cases e : okD x with | false => rfl | true => exact absurd (okD_iff.1 e).c1 (by omega)
      clear hb
      go_enter Try.func56, Try.ntmps56
      go_wp2
      go_ret
      exact ⟨rfl, (by repeat (first | exact Below.refl _ _ | (with_reducible assumption) | refine bw_alloc ?_ _ | refine bw_drew ?_))⟩
    by_cases q3 : x.d < 1
    · obtain rfl : b = false := by rw [← hb]; cases e : okD x with | false => rfl | true => exact absurd (okD_iff.1 e).d1 (by omega)
      clear hb
      go_enter Try.func56, Try.ntmps56
      go_wp2
      go_ret
      exact ⟨rfl, (by repeat (first | exact Below.refl _ _ | (with_reducible assumption) | refine bw_alloc ?_ _ | refine bw_drew ?_))⟩
    by_cases q4 : x.t < x.d
    · obtain rfl : b = false := by rw [← hb]; cases e : okD x with | false => rfl | true => exact absurd (okD_iff.1 e).d2 (by omega)
      clear hb
      go_enter Try.func56, Try.ntmps56
      go_wp2
      go_ret
      exact ⟨rfl, (by repeat (first | exact Below.refl _ _ | (with_reducible assumption) | refine bw_alloc ?_ _ | refine bw_drew ?_))⟩
    by_cases q5 : 1073741824 < x.t
    · obtain rfl : b = false := by rw [← hb]; cases e : okD x with | false => rfl | true => exact absurd (okD_iff.1 e).t2 (by omega)
      clear hb
      go_enter Try.func56, Try.ntmps56
      go_wp2
      go_ret
      exact ⟨rfl, (by repeat (first | exact Below.refl _ _ | (with_reducible assumption) | refine bw_alloc ?_ _ | refine bw_drew ?_))⟩
    obtain rfl : b = true := by rw [← hb]; exact okD_iff.2 ⟨by omega, by omega, by omega, by omega, by omega⟩
    clear hb
    go_enter Try.func56, Try.ntmps56
    go_wp2
    go_ret
    exact ⟨rfl, (by repeat (first | exact Below.refl _ _ | (with_reducible assumption) | refine bw_alloc ?_ _ | refine bw_drew ?_))⟩
  exact key _ rfl

/-- What tells the first one that may not be. -/
def IdxBack (l : List Dm) (w : World) (e : Ending) (w' : World) : Prop := (∃ i : Int, e = .returned (.int .i64 i) ∧ (0 ≤ i ↔ l.all okD = false)) ∧ Below w.heap.size w w'
set_option maxRecDepth 100000 in
set_option maxHeartbeats 4000000 in
theorem pindex_any (l : List Dm) (n c : Nat) (hl : l.length = n) (hn : (n : Int) ≤ 9223372036854775807) (a : Option Addr) (w : World) (hv : GView w a l) :
    Calls Try.prog 68 #[.slice a n c, .func (.func 56) #[] #[]] w (IdxBack l w) := by
  have HV := Lib.hid hv
  have HL := Lib.hid hl
  clear hv hl
  go_enter Try.func68, Try.ntmps68
  go_wp2
  go_loopw [8] (fun u wr => ∃ k : Nat, k ≤ n ∧ u = .int .i64 k ∧ Hid ((l.take k).all okD = true) ∧ Hid (Below w.heap.size w wr)) (fun u _ => (n - intOf u).toNat)
  case atStart => exact ⟨0, by omega, rfl, rfl, Below.refl _ _⟩
  case round =>
    obtain ⟨k, hk, rfl, HS, HP⟩ := hrel
    by_cases hlt : k < n
    · obtain ⟨x, hx⟩ := nth_of HL.out hlt
      obtain ⟨g, o, rfl, ⟨c0, c1, c2⟩⟩ := (HV.out.below HP.out).at_ hx
      have hk1 : (k : Int) < (n : Int) := by omega
      have hk0 : (0 : Int) ≤ (k : Int) := by omega
      have HX : Hid (x ∈ l) := List.mem_of_getElem? hx
      have HT : Hid (okD x = true → (l.take (k + 1)).all okD = true) := okL_take HS.out hx
      have CC := Lib.hid (fun v => pcheck1_any x v)
      obtain ⟨b, hb⟩ : ∃ b, okD x = b := ⟨_, rfl⟩
      rw [hb] at CC HT
      have HB := Lib.hid hb
      clear hx HS hb
      cases b with
      | false =>
        have HF : Hid (l.all okD = false) := by
          cases e : l.all okD with
          | false => rfl
          | true => have := List.all_eq_true.1 e x HX.out; rw [HB.out] at this; cases this
        go_wp2_with (go_at_call 56; (with_reducible refine (CC.out _).mono ?_); rintro e wj ⟨rfl, bx1⟩)
        go_ret
        exact ⟨⟨_, rfl, fun _ => HF.out, fun _ => hk0⟩, below_up HP.out bx1⟩
      | true =>
        have HS2 := Lib.hid (HT.out rfl)
        clear HT
        go_wp2_with (go_at_call 56; (with_reducible refine (CC.out _).mono ?_); rintro e wj ⟨rfl, bx1⟩)
        go_roundw
        case rel => exact ⟨k + 1, by omega, by go_num, HS2, Lib.hid (below_up HP.out bx1)⟩
        case measure => simp [intOf]; omega
    · obtain rfl : k = n := by omega
      have HF : Hid (l.all okD = true) := by
        have := HS.out
        rw [← HL.out, List.take_of_length_le (Nat.le_refl _)] at this
        exact this
      clear HS
      go_wp2
      go_ret
      exact ⟨⟨_, rfl, fun h => absurd h (by decide), fun h => by rw [HF.out] at h; cases h⟩, HP.out⟩

set_option maxRecDepth 100000 in
set_option maxHeartbeats 4000000 in
theorem pcontains_any (l : List Dm) (n c : Nat) (hl : l.length = n) (hn : (n : Int) ≤ 9223372036854775807) (a : Option Addr) (w : World) (hv : GView w a l) :
    Calls Try.prog 55 #[.slice a n c, .func (.func 56) #[] #[]] w fun e w' => e = .returned (.bool (!(l.all okD))) ∧ Below w.heap.size w w' := by
  have HC := Lib.hid (pindex_any l n c hl hn a w hv)
  obtain ⟨b, hb⟩ : ∃ b, l.all okD = b := ⟨_, rfl⟩
  have HB := Lib.hid hb
  rw [hb]
  clear hb hv hl
  go_enter Try.func55, Try.ntmps55
  cases b with
  | false =>
    go_wp2_with (go_at_call 68; (with_reducible refine (HC.out).mono ?_); rintro e wj ⟨⟨i, rfl, hi⟩, bx1⟩; have hi0 : decide (0 ≤ i) = true := decide_eq_true (hi.2 HB.out); clear hi)
    go_ret
    exact ⟨by first | rfl | simp [hi0, go_sem], bx1⟩
  | true =>
    go_wp2_with (go_at_call 68; (with_reducible refine (HC.out).mono ?_); rintro e wj ⟨⟨i, rfl, hi⟩, bx1⟩; have hi0 : decide (0 ≤ i) = false := decide_eq_false (fun h => by (have := hi.1 h; rw [HB.out] at this; cases this)); clear hi)
    go_ret
    exact ⟨by first | rfl | simp [hi0, go_sem], bx1⟩

set_option maxRecDepth 100000 in
set_option maxHeartbeats 4000000 in
theorem pchk_any (l : List Dm) (n c : Nat) (hl : l.length = n) (hn : (n : Int) ≤ 9223372036854775807) (a : Option Addr) (w : World) (hv : GView w a l) :
    Calls Try.prog 43 #[.slice a n c] w fun e w' => e = .returned (.bool (okL l)) ∧ Below w.heap.size w w' := by
  have HC := Lib.hid (pcontains_any l n c hl hn a w hv)
  have HE : Hid (okL l = (l.all okD && decide (n ≤ 64))) := by rw [← hl]; rfl
  obtain ⟨b, hb⟩ : ∃ b, l.all okD = b := ⟨_, rfl⟩
  rw [hb] at HE HC
  clear hb hv hl
  by_cases q : n ≤ 64
  · have q1 : (n : Int) ≤ 64 := by omega
    rw [decide_eq_true q, Bool.and_true] at HE
    clear q
    cases b with
    | false =>
      go_enter Try.func43, Try.ntmps43
      go_wp2_with (go_at_call 55; (with_reducible refine (HC.out).mono ?_); rintro e wj ⟨rfl, bx1⟩)
      go_ret
      exact ⟨by rw [HE.out]; rfl, bx1⟩
    | true =>
      go_enter Try.func43, Try.ntmps43
      go_wp2_with (go_at_call 55; (with_reducible refine (HC.out).mono ?_); rintro e wj ⟨rfl, bx1⟩)
      go_ret
      exact ⟨by rw [HE.out]; rfl, bx1⟩
  · have q1 : ¬ (n : Int) ≤ 64 := by omega
    rw [decide_eq_false q, Bool.and_false] at HE
    clear q
    go_enter Try.func43, Try.ntmps43
    go_wp2
    go_ret
    exact ⟨by rw [HE.out]; rfl, Below.refl _ _⟩
end Go.Proofs.Ytljigfedmjlfgaa
