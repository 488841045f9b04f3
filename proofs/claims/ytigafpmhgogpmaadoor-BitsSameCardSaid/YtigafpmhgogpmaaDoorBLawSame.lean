/-
  The walk over the statement that two lists make the same set just if they have the same numbers.
-/
import Derived.Test.YtigafpmhgogpmaaDoorBLawParts
import Derived.Deep.CutBlock
import Derived.Deep.CutRange
import Derived.Deep.DeepCutAuto
import Derived.Deep.RegionLaw
import Derived.Deep.RegionHeld3
import Derived.Deep.AppendLies
import Derived.Maps.AppendAt
import Derived.Laws.BitsLemmas
namespace Go.Proofs.YtigafpmhgogpmaaDoor
open Go.RowKit
attribute [local go_sem] set_eq zero_eq

theorem ofN_any (l : List Int) (x : Nat) : ∀ n, n ≤ l.length → ofN l n x = (l.take n).any fun v => decide ((x : Int) = v)
  | 0, _ => by simp [ofN, noneP]
  | n + 1, h => by
    have ih := ofN_any l x n (by omega)
    have e : l.take (n + 1) = l.take n ++ [l.getD n 0] := by
      rw [List.take_succ_eq_append_getElem (by omega), List.getD_eq_getElem?_getD, List.getElem?_eq_getElem (by omega)]; rfl
    show orP (ofN l n) (oneP (l.getD n 0)) x = _
    rw [e, List.any_append, ← ih]
    simp [orP, oneP]
theorem ofN_all (l : List Int) (x : Nat) : ofN l l.length x = l.any fun v => decide ((x : Int) = v) := by rw [ofN_any l x l.length (Nat.le_refl _), List.take_length]

theorem i64_and15 (n : Int) : bits .and .i64 n 15 = n % 16 := by
  have h15 : (BitVec.ofInt 64 15).toNat = 2 ^ 4 - 1 := by decide
  have key : (BitVec.ofInt 64 n &&& BitVec.ofInt 64 15).toNat = (n % ((2 ^ 64 : Nat) : Int)).toNat % 2 ^ 4 := by
    rw [BitVec.toNat_and, BitVec.toNat_ofInt, h15, Nat.and_two_pow_sub_one_eq_mod]
  show IntKind.i64.wrap ((BitVec.ofInt 64 n &&& BitVec.ofInt 64 15).toNat : Nat) = n % 16
  rw [key, IntKind.wrap_i64]
  omega

theorem step_append_any {P : Program} {w : World} {ops : Array Oper} {o : Oper} {a : Act} {K : Act → World → Prop} {Q : Exit → Act → World → Prop} {E : Prop} (hgd : o.guard = none) (s x : Operand) (t : TypeId)
    (ho : o.op = .call { callee := .builtin .append, args := #[s, x], argTypes := #[t, t] })
    (base : Nat) (e : TypeId) (i : TypeInfo) (z : Value) (size bytes : Nat) (ht : P.underlying t = some (.slice e)) (hi : P.info? e = some i) (hz : i.zero = some z)
    (hsize : i.size = size) (hby : i.bytes = bytes) (hzs : z.cells.size = size) (hsz : 0 < size)
    (v : Value) (n : Nat) (xs : List Value) (hs : a.eval s = v) (hown : w.ownsRow base e size v n xs)
    (ad : Addr) (m c : Nat) (news : List Value) (hx : a.eval x = .slice (some ad) m c) (hl : news.length = m * size) (hnews : ∀ j u, news[j]? = some u → w.cell? (ad.add j) = some u) (h1 : ∀ u ∈ news, u.oneCell' = true)
    (h63 : n + m ≤ maxLen) (hbytes : (n + m) * bytes ≤ 140737488355328) (hbase : base ≤ w.heap.size)
    (h : ∀ v' w', w'.ownsRow base e size v' (n + m) (xs ++ news) → w.grownBy w' v.ownBlock → K (a.put o.dst v') w') :
    if Region.wanted o (yielded ops a.tmps) = true then Oper.wp P o a w K Q else E := by
  have hw : Region.wanted o (yielded ops a.tmps) = true := by simp [Region.wanted, hgd]
  rw [if_pos hw]
  obtain ⟨v', w', hr, h2, h3, _, _⟩ := run_append_own_at (P := P) w base t o.type e i z size bytes ht hi hz hsize hby hzs hsz v n xs hown ad m c news hl hnews h1 h63 hbytes hbase
  unfold Oper.wp execOp
  simp only [ho, resolve, invoke, builtin, Sem.run_bind, Sem.run_pure, Result.andThen_ok, List.map_toArray, List.map_cons, List.map_nil, hs, hx, hr]
  exact h v' w' h2 h3

/-- .. at a step of a row of operations, its guard being true. -/
theorem wpList_append_own_g {P : Program} (w : World) {ops : Array Oper} {rest : List Oper} {o : Oper} {a : Act} {Q : Exit → Act → World → Prop} (hgd : Region.wanted o (yielded ops a.tmps) = true) (s x : Operand) (t : TypeId)
    (ho : o.op = .call { callee := .builtin .append, args := #[s, x], argTypes := #[t, t] })
    (base : Nat) (e : TypeId) (i : TypeInfo) (z : Value) (size bytes : Nat) (ht : P.underlying t = some (.slice e)) (hi : P.info? e = some i) (hz : i.zero = some z)
    (hsize : i.size = size) (hby : i.bytes = bytes) (hzs : z.cells.size = size) (hsz : 0 < size)
    (v : Value) (n : Nat) (xs : List Value) (hs : a.eval s = v) (hown : w.ownsRow base e size v n xs)
    (ad : Addr) (m c : Nat) (news : List Value) (hx : a.eval x = .slice (some ad) m c) (hl : news.length = m * size) (hnews : ∀ j u, news[j]? = some u → w.cell? (ad.add j) = some u) (h1 : ∀ u ∈ news, u.oneCell' = true)
    (h63 : n + m ≤ maxLen) (hbytes : (n + m) * bytes ≤ 140737488355328) (hbase : base ≤ w.heap.size)
    (h : ∀ v' w', w'.ownsRow base e size v' (n + m) (xs ++ news) → w.grownBy w' v.ownBlock → (v' = .slice none 0 0 ↔ v = .slice none 0 0 ∧ m = 0) → wpList P ops Q rest (a.put o.dst v') w') : wpList P ops Q (o :: rest) a w :=
  wpList_step fun K hK => by
    rw [if_pos hgd]
    exact wp_append_own w s x t ho base e i z size bytes ht hi hz hsize hby hzs hsz v n xs hs hown ad m c news hx hl hnews h1 h63 hbytes hbase fun v' w' h2 h3 h4 => hK _ _ (h v' w' h2 h3 h4)

/-- Where a row is turned. -/
theorem turn_at (turn : Int) (n : Nat) (hn : 0 < n) (h8 : n ≤ 20) : ∃ k : Nat, k < n ∧ (wrap64 (turn.tmod (n : Int) + (n : Int))).tmod (n : Int) = (k : Int) := by
  have h1 := Int.tmod_lt_of_pos turn (show (0 : Int) < n by omega)
  have h2 := Int.lt_tmod_of_pos turn (show (0 : Int) < n by omega)
  generalize turn.tmod (n : Int) = t at h1 h2
  have e : wrap64 (t + n) = t + n := IntWalk.wrap64_in _ (by omega)
  rw [e]
  have h3 := Int.tmod_nonneg (n : Int) (show 0 ≤ t + n by omega)
  have h4 := Int.tmod_lt_of_pos (t + n) (show (0 : Int) < n by omega)
  exact ⟨((t + n).tmod n).toNat, by omega, by omega⟩

/-- The cells of a row of numbers. -/
def rowV (L : List Int) : List Value := L.map (Value.int .i64)
theorem rowV_length (L : List Int) : (rowV L).length = L.length := by simp [rowV]
theorem rowV_one (L : List Int) : ∀ u ∈ rowV L, u.oneCell' = true := by
  intro u hu; obtain ⟨x, _, rfl⟩ := List.mem_map.1 hu; rfl
theorem rowV_append (A B : List Int) : rowV A ++ rowV B = rowV (A ++ B) := by simp [rowV]

theorem row_news {w : World} {b off : Nat} {L : List Int} (h : ∀ k, k < L.length → w.cell? ⟨b, off + k, none⟩ = some (.int .i64 (L.getD k 0))) (k m : Nat) (hm : k + m ≤ L.length) :
    ∀ j u, (rowV ((L.drop k).take m))[j]? = some u → w.cell? ((⟨b, off + k, none⟩ : Addr).add j) = some u := by
  intro j u hu
  have e : (⟨b, off + k, none⟩ : Addr).add j = ⟨b, off + (k + j), none⟩ := by
    unfold Addr.add; split <;> simp_all; omega
  unfold rowV at hu
  rw [List.getElem?_map, List.getElem?_take] at hu
  split at hu
  · rename_i hj
    rw [List.getElem?_drop] at hu
    rw [e, h (k + j) (by omega), List.getD_eq_getElem?_getD]
    rw [List.getElem?_eq_getElem (by omega)] at hu ⊢
    simpa using hu
  · simp at hu

theorem row_news0 {w : World} {b off : Nat} {L : List Int} (h : ∀ k, k < L.length → w.cell? ⟨b, off + k, none⟩ = some (.int .i64 (L.getD k 0))) (m : Nat) (hm : m ≤ L.length) :
    ∀ j u, (rowV (L.take m))[j]? = some u → w.cell? ((⟨b, off, none⟩ : Addr).add j) = some u := by
  have := row_news h 0 m (by omega)
  simpa using this

theorem cells_grown {w w' : World} {row : Option Nat} {b off : Nat} {L : List Int} (hg : w.grownBy w' row) (hne : some b ≠ row) (h : ∀ k, k < L.length → w.cell? ⟨b, off + k, none⟩ = some (.int .i64 (L.getD k 0))) :
    ∀ k, k < L.length → w'.cell? ⟨b, off + k, none⟩ = some (.int .i64 (L.getD k 0)) := fun k hk => hg.cell (a := ⟨b, off + k, none⟩) (h k hk) hne

theorem cells_alloc {w : World} {b off : Nat} {L : List Int} (h : ∀ k, k < L.length → w.cell? ⟨b, off + k, none⟩ = some (.int .i64 (L.getD k 0))) (o : Obj) :
    ∀ k, k < L.length → (w.alloc o).drew.cell? ⟨b, off + k, none⟩ = some (.int .i64 (L.getD k 0)) := fun k hk => kept_cell ((Below.refl _ _).alloc (Nat.le_refl _) o) (h k hk)

/-- A row of one's own that is not empty, read. -/
theorem own_reads {w : World} {base n : Nat} {v : Value} {L : List Int} (h : w.ownsRow base 3 1 v n (rowV L)) (hn : 0 < n) :
    ∃ g cap, v = .slice (some ⟨g, 0, none⟩) L.length cap ∧ n = L.length ∧ base ≤ g ∧ g < w.heap.size ∧ L.length ≤ cap ∧ (cap : Int) ≤ 9223372036854775807 ∧ ∀ k, k < L.length → w.cell? ⟨g, 0 + k, none⟩ = some (.int .i64 (L.getD k 0)) := by
  have hl : L.length = n := by have := h.1; rw [rowV_length] at this; omega
  rcases h.2 with ⟨_, h0⟩ | ⟨g, cap, cur, hv, hb, hh, hc, hm, _⟩
  · omega
  · have hlt := (Array.getElem?_eq_some_iff.1 hh).1
    refine ⟨g, cap, by rw [hv, hl], hl.symm, hb, hlt, by omega, by unfold maxLen at hm; omega, ?_⟩
    intro k hk
    have := h.cells (g := g) (by rw [hv]; rfl) k (.int .i64 (L.getD k 0)) (by
      unfold rowV
      rw [List.getElem?_map, List.getElem?_eq_getElem hk, List.getD_eq_getElem?_getD, List.getElem?_eq_getElem hk]; rfl)
    have e2 : (⟨g, 0, none⟩ : Addr).add k = ⟨g, 0 + k, none⟩ := by
      unfold Addr.add; split <;> simp_all
    rw [← e2]; exact this

theorem own_reads_at {w : World} {base n : Nat} {v : Value} {L : List Int} (h : w.ownsRow base 3 1 v n (rowV L)) (hn : 0 < n) :
    ∃ g off cap, v = .slice (some ⟨g, off, none⟩) n cap ∧ base ≤ g ∧ g < w.heap.size ∧ n ≤ cap ∧ (cap : Int) ≤ 9223372036854775807 ∧ ∀ k, k < L.length → w.cell? ⟨g, off + k, none⟩ = some (.int .i64 (L.getD k 0)) := by
  obtain ⟨g, cap, h1, h2, h3, h4, h5, h6, h7⟩ := own_reads h hn
  exact ⟨g, 0, cap, by rw [h1, h2], h3, h4, by omega, h6, h7⟩

/-- The rests by 16. -/
def low (L : List Int) : List Int := L.map fun x => x % 16
theorem low_length (L : List Int) : (low L).length = L.length := by simp [low]
theorem low_at (L : List Int) {k : Nat} (h : k < L.length) : (low L).getD k 0 = L.getD k 0 % 16 := by
  unfold low
  rw [List.getD_eq_getElem?_getD, List.getElem?_map, List.getElem?_eq_getElem h, List.getD_eq_getElem?_getD, List.getElem?_eq_getElem h]; rfl
theorem low_take (L : List Int) {k : Nat} (h : k < L.length) : (low L).take (k + 1) = (low L).take k ++ [L.getD k 0 % 16] := by
  rw [List.take_succ_eq_append_getElem (by rw [low_length]; exact h)]
  congr 2
  have := low_at L h
  rw [List.getD_eq_getElem?_getD, List.getElem?_eq_getElem (by rw [low_length]; exact h)] at this
  exact this
theorem low_mem (L : List Int) : ∀ x ∈ low L, 0 ≤ x ∧ x ≤ 15 := by
  intro x hx
  obtain ⟨y, _, rfl⟩ := List.mem_map.1 hx
  show 0 ≤ y % 16 ∧ y % 16 ≤ 15
  omega

/-- Is it among them? -/
def among (M : List Int) (y : Int) : Bool := M.any fun v => v == y
theorem among_take (M : List Int) (y : Int) {k : Nat} (h : k < M.length) : among (M.take (k + 1)) y = (among (M.take k) y || M.getD k 0 == y) := by
  unfold among
  rw [List.take_succ_eq_append_getElem h, List.any_append, List.getD_eq_getElem?_getD, List.getElem?_eq_getElem h]
  simp

theorem set_turn (M : List Int) (k : Nat) (x : Nat) : ofN (M.drop k ++ M.take k) (M.drop k ++ M.take k).length x = ofN M M.length x := by
  rw [ofN_all, ofN_all, List.any_append, Bool.or_comm, ← List.any_append, List.take_append_drop]
theorem set_more (N : List Int) (y : Int) (x : Nat) : ofN (N ++ [y]) (N ++ [y]).length x = orP (ofN N N.length) (oneP y) x := by
  rw [ofN_all, List.any_append]
  show _ = (ofN N N.length x || oneP y x)
  rw [ofN_all]
  simp [oneP]

/-- One more is none more just if it was there. -/
theorem more_eq (M : List Int) (y : Int) (hy : 0 ≤ y ∧ y ≤ 15) : eq4 (wd (orP (ofN M M.length) (oneP y)) 0) (wd (orP (ofN M M.length) (oneP y)) 1) (wd (orP (ofN M M.length) (oneP y)) 2) (wd (orP (ofN M M.length) (oneP y)) 3) (wd (ofN M M.length) 0) (wd (ofN M M.length) 1) (wd (ofN M M.length) 2) (wd (ofN M M.length) 3) = among M y := by
  obtain ⟨j, rfl⟩ : ∃ j : Nat, y = (j : Int) := ⟨y.toNat, by omega⟩
  have hj : j < 64 := by omega
  cases ha : among M j with
  | true =>
    have he : ∀ i, i < 256 → orP (ofN M M.length) (oneP j) i = ofN M M.length i := by
      intro i _
      unfold orP oneP
      by_cases e : i = j
      · subst e
        rw [ofN_all]
        have : (M.any fun v => decide ((i : Int) = v)) = true := by
          obtain ⟨v, hv, hvj⟩ := List.any_eq_true.1 ha
          exact List.any_eq_true.2 ⟨v, hv, by simp at hvj ⊢; exact hvj.symm⟩
        rw [this]; rfl
      · simp [show ¬ ((i : Int) = (j : Int)) by omega]
    rw [wd_congr he (k := 0) (by omega), wd_congr he (k := 1) (by omega), wd_congr he (k := 2) (by omega), wd_congr he (k := 3) (by omega)]
    exact eq4_self _ _ _ _
  | false =>
    have hp : ofN M M.length j = false := by
      rw [ofN_all, List.any_eq_false]
      intro v hv
      have := List.any_eq_false.1 ha v hv
      simp at this ⊢
      omega
    have hn := wd_ne (p := orP (ofN M M.length) (oneP j)) (q := ofN M M.length) (k := 0) (j := j) hj (by
      rw [show 64 * 0 + j = j by omega, hp]; simp [orP, oneP])
    unfold eq4
    rw [beq_eq_false_iff_ne.2 hn]
    rfl

theorem of_none (w : World) : Calls Tryd.prog 20 #[.slice none 0 0] w fun e w' => e = .returned (.agg #[.int .u64 0, .int .u64 0, .int .u64 0, .int .u64 0]) ∧ Below w.heap.size w w' := by
  have h := of_any [] (by simp) (by simp) 0 none w (.inl rfl)
  have e : ∀ k, wd (ofN ([] : List Int) ([] : List Int).length) k = 0 := fun k => wd_none k
  rw [e, e, e, e] at h
  exact h

theorem of_in (M : List Int) (hl : M.length ≤ 21) (hu : ∀ x ∈ M, 0 ≤ x ∧ x ≤ 15) {p : Nat → Bool} (hp : ∀ x, x < 256 → ofN M M.length x = p x) (g cap : Nat) (w : World) (hg : g < w.heap.size)
    (hc : ∀ k, k < M.length → w.cell? ⟨g, 0 + k, none⟩ = some (.int .i64 (M.getD k 0))) :
    Calls Tryd.prog 20 #[.slice (some ⟨g, 0, none⟩) M.length cap] w fun e w' => e = .returned (.agg #[.int .u64 (wd p 0), .int .u64 (wd p 1), .int .u64 (wd p 2), .int .u64 (wd p 3)]) ∧ Below w.heap.size w w' :=
  set_same hp (of_any M (by omega) (fun x h => by have := hu x h; omega) cap (some ⟨g, 0, none⟩) w (.inr ⟨g, 0, rfl, hg, hc⟩))

set_option maxRecDepth 100000 in
set_option maxHeartbeats 4000000 in
theorem same_none (a0 : Option Addr) (len cap0 cap : Nat) (turn more : Int) (W : World)
    (A : Hid (∀ w, Below W.heap.size W w → Calls Tryd.prog 9 #[] w fun e w' => e = .returned (.bool true) ∧ Below w.heap.size w w'))
    (F : Hid (∀ w', Calls Tryd.prog 10 #[.slice a0 len cap0] w' fun e w'' => e = .returned (.slice a0 0 cap) ∧ w' = w'')) :
    Calls Tryd.prog 7 #[.slice a0 len cap0, .int .i64 turn, .int .i64 more] W fun e w' => e = .returned (.bool true) ∧ Below W.heap.size W w' := by
  go_enter Tryd.func7, Tryd.ntmps7
  go_upto_region 5 with (first | (go_at_call 9; (refine (A.out _ (Below.refl _ _)).mono ?_); rintro e w1 ⟨rfl, hw1⟩) | (go_at_call 10; (refine (F.out _).mono ?_); rintro e w' ⟨rfl, rfl⟩))
  refine gen_world (fun v => Four v w1.heap.size 0 0 0 0 ∧ Below W.heap.size W v) ⟨by first | exact Four.new _ _ _ _ _ _ | exact (Four.new _ _ _ _ _ _).set4 0 0 0 0, by first | exact hw1.alloc hw1.size _ | exact below_set4 (hw1.alloc hw1.size _) hw1.size _ _ _ _⟩ ?_
  intro W1 ⟨f1, b1⟩
  generalize w1.heap.size = c at f1
  have MK : Hid (∀ w', Below W1.heap.size W1 w' → Below W1.heap.size W1 w' ∧ w'.cell? ⟨c, 0, none⟩ = some (.int .u64 0) ∧ w'.cell? ⟨c, 1, none⟩ = some (.int .u64 0) ∧ w'.cell? ⟨c, 2, none⟩ = some (.int .u64 0) ∧ w'.cell? ⟨c, 3, none⟩ = some (.int .u64 0)) := fun w' h => ⟨h, (f1.kept h).c0, (f1.kept h).c1, (f1.kept h).c2, (f1.kept h).c3⟩
  have HB := Lib.hid b1
  have KN : Hid (∀ w, Below W1.heap.size W1 w → Calls Tryd.prog 20 #[.slice none 0 0] w fun e w' => e = .returned (.agg #[.int .u64 0, .int .u64 0, .int .u64 0, .int .u64 0]) ∧ Below W1.heap.size W1 w') := under W1 (fun w => of_none w)
  have e0 := eq4_self 0 0 0 0
  have r0 := Below.refl W1.heap.size W1
  obtain ⟨q0, q1, q2, q3, _, _, _, _⟩ := id f1
  clear f1 b1 A F hw1
  go_region_held3 (fun w' => Below W1.heap.size W1 w' ∧ w'.cell? ⟨c, 0, none⟩ = some (.int .u64 0) ∧ w'.cell? ⟨c, 1, none⟩ = some (.int .u64 0) ∧ w'.cell? ⟨c, 2, none⟩ = some (.int .u64 0) ∧ w'.cell? ⟨c, 3, none⟩ = some (.int .u64 0)) (exact MK.out _ (by repeat (first | (with_reducible assumption) | refine Below.drew ?_ | refine Below.alloc ?_ (by first | omega | (simp; omega)) _))) (first | (go_at_call 20; (with_reducible refine (KN.out _ (by repeat (first | (with_reducible assumption) | refine Below.drew ?_ | refine Below.alloc ?_ (by first | omega | (simp; omega)) _))).mono ?_); rintro e wx ⟨rfl, bx⟩; have sx := bx.size) | fail)
  all_goals
    go_wp2
    go_ret
    exact ⟨rfl, HB.out.trans (Below.mono (by with_reducible assumption) HB.out.size)⟩

set_option maxRecDepth 100000 in
set_option maxHeartbeats 4000000 in
theorem same_some (a0 : Option Addr) (len cap0 cap : Nat) (turn more : Int) (L : List Int) (W : World) (h20 : L.length ≤ 20) (hpos : 0 < L.length)
    (A : Hid (∀ w, Below W.heap.size W w → Calls Tryd.prog 9 #[] w fun e w' => e = .returned (.bool true) ∧ Below w.heap.size w w'))
    (F : Hid (∀ w', Calls Tryd.prog 10 #[.slice a0 len cap0] w' fun e w'' => e = .returned (.slice a0 L.length cap) ∧ w' = w''))
    (HL : Hid (Reads W W.heap.size a0 L)) :
    Calls Tryd.prog 7 #[.slice a0 len cap0, .int .i64 turn, .int .i64 more] W fun e w' => e = .returned (.bool true) ∧ Below W.heap.size W w' := by
  obtain ⟨i0, hi, hz0, hz1, hz2⟩ := info_parts infoInt
  have hzl : ((L.length : Int) == 0) = false := by rw [beq_eq_false_iff_ne]; omega
  obtain ⟨t, ht, hkt⟩ := turn_at turn L.length hpos h20
  have hy := i64_and15 more
  have hyr : 0 ≤ more % 16 ∧ more % 16 ≤ 15 := by omega
  generalize more % 16 = y at hy hyr
  go_enter Tryd.func7, Tryd.ntmps7
  go_wp2_with (first | (go_at_call 9; (refine (A.out _ (Below.refl _ _)).mono ?_); rintro e w1 ⟨rfl, hw1⟩; have HW1 := Lib.hid hw1; clear hw1) | (go_at_call 10; (refine (F.out _).mono ?_); rintro e w' ⟨rfl, rfl⟩))
  clear A F hkt hzl
  go_loopw [11, 12] (fun v i wr => ∃ n : Nat, n ≤ L.length ∧ i = .int .i64 n ∧ Hid (wr.ownsRow W.heap.size 3 1 v n (rowV ((low L).take n)) ∧ Below W.heap.size W wr)) (fun _ i _ => (L.length - intOf i).toNat)
  case atStart => exact ⟨0, by omega, rfl, World.ownsRow_nil _ _ _ _, HW1.out⟩
  case round =>
    obtain ⟨n, hn, rfl, HR⟩ := hrel
    by_cases hlt : n < L.length
    · obtain ⟨g, off, rfl, hbb, hc⟩ : ∃ g off, a0 = some ⟨g, off, none⟩ ∧ g < W.heap.size ∧ ∀ k, k < L.length → W.cell? ⟨g, off + k, none⟩ = some (.int .i64 (L.getD k 0)) := by
        rcases HL.out with h | h
        · rw [h] at hlt; exact absurd hlt (Nat.not_lt_zero _)
        · exact h
      have ck : wr.cell? ⟨g, off + n, none⟩ = some (.int .i64 (L.getD n 0)) := by rw [HR.out.2.cell (p := ⟨g, off + n, none⟩) hbb]; exact hc n hlt
      have he := i64_and15 (L.getD n 0)
      have hs := Lib.hid (low_take L hlt)
      clear hc HL HW1 hy
      generalize L.getD n 0 % 16 = z at he hs
      generalize L.getD n 0 = x at ck he
      go_wp2_with (at_builtin; refine wpList_append_own _ rfl _ _ 25 rfl W.heap.size 3 i0 (.int .i64 0) 1 8 Tryd.underlying25 hi hz0 hz1 hz2 rfl (by decide) _ _ _ rfl (HR.out.1.alloc _) ⟨wr.heap.size, 0, none⟩ 1 1 [.int .i64 z] rfl rfl (cell_one_new _ _ _) (fun x hx => by simp at hx; subst hx; rfl) (by unfold maxLen; omega) (by omega) (by have := HR.out.2.size; simp; omega) ?_; intro v' w3 hown' hgrow _; have HN : Hid (w3.ownsRow W.heap.size 3 1 v' (n + 1) (rowV ((low L).take (n + 1))) ∧ Below W.heap.size W w3) := ⟨by rw [hs.out, ← rowV_append]; exact hown', (HR.out.2.alloc HR.out.2.size _).grown hgrow (by have := HR.out.2.size; simp; omega) (fun k hk => (HR.out.1.lt k hk).1)⟩; clear hown' hgrow)
      go_roundw
      case rel => exact ⟨n + 1, by omega, by go_num, HN⟩
      case measure => simp [intOf]; omega
    · obtain rfl : n = L.length := by omega
      have hMl := low_length L
      have hMu := low_mem L
      have hown := HR.out.1
      have hlow := Lib.hid HR.out.2
      rw [← hMl, List.take_length] at hown
      have hpos' : 0 < (low L).length := by rw [hMl]; exact hpos
      rw [← hMl] at ht h20
      clear HR HL HW1 hn hlt hpos
      obtain ⟨g, off, capA, rfl, hgW, hgl, hcA, hcm, hcells⟩ := own_reads_at hown hpos'
      have HCells := Lib.hid hcells
      have HU := Lib.hid hMu
      clear hown hcells hMl hMu
      generalize low L = M at *
      have hsz := hlow.out.size
      have htn : (0 : Int) ≤ (t : Int) := by omega
      have htl : (t : Int) < (M.length : Int) := by omega
      have ht1 : t ≤ M.length := by omega
      have ht2 : t ≤ capA := by omega
      have ht3 : ¬ capA = t := by omega
      go_upto_region 12 with (fail)
      go_region_law (first
        | (refine step_append_any rfl (.tmp 53) (.tmp 56) 25 rfl wr.heap.size 3 i0 _ 1 8 Tryd.underlying25 hi hz0 hz1 hz2 rfl (by omega) _ 0 [] (by rfl) ((World.ownsRow_made (w := wr) #[] 0 (Nat.le_refl _) (by decide) rfl).drew)
            ⟨g, off + t, none⟩ (M.length - t) (capA - t) (rowV ((M.drop t).take (M.length - t))) (by rfl) (by rw [rowV_length, List.length_take, List.length_drop]; omega) (row_news (cells_alloc HCells.out _) t (M.length - t) (by omega)) (rowV_one _) (by unfold maxLen; omega) (by omega) (by simp) ?_
           intro v1 w2 hown hgrow)
        | (refine step_append_any rfl (.tmp 57) (.tmp 60) 25 rfl wr.heap.size 3 i0 _ 1 8 Tryd.underlying25 hi hz0 hz1 hz2 rfl (by omega) v1 _ _ (by rfl) hown
            ⟨g, off, none⟩ t capA (rowV (M.take t)) (by rfl) (by rw [rowV_length, List.length_take]; omega) (row_news0 (cells_grown hgrow (by simp [Value.ownBlock]; omega) (cells_alloc HCells.out _)) t ht1) (rowV_one _) (by unfold maxLen; omega) (by omega) (by have := hgrow.size; simp at this; omega) ?_
           intro v2 w3 hown2 hgrow2))
      have hb2 : Below wr.heap.size wr w2 := (((Below.refl _ _).alloc (Nat.le_refl _) _).drew).grown hgrow (by simp) (by intro k hk; simp [Value.ownBlock] at hk; omega)
      have hb3 : Below wr.heap.size wr w3 := hb2.grown hgrow2 hb2.size (fun k hk => (hown.lt k hk).1)
      have hown3 : w3.ownsRow wr.heap.size 3 1 v2 M.length (rowV (M.drop t ++ M.take t)) := by
        have e1 : 0 + (M.length - t) + t = M.length := by omega
        have e2 : [] ++ rowV ((M.drop t).take (M.length - t)) ++ rowV (M.take t) = rowV (M.drop t ++ M.take t) := by
          rw [List.nil_append, List.take_of_length_le (by rw [List.length_drop]; omega), rowV_append]
        rw [← e1, ← e2]; exact hown2
      have HB3 := Lib.hid hb3
      have HO3 := Lib.hid hown3
      have HU2 : Hid (∀ x ∈ M.drop t ++ M.take t, 0 ≤ x ∧ x ≤ 15) := fun x hx => HU.out x (by
        rcases List.mem_append.1 hx with h | h
        · exact List.mem_of_mem_drop h
        · exact List.mem_of_mem_take h)
      have HLn : Hid ((M.drop t ++ M.take t).length = M.length) := by
        show _ = _
        rw [List.length_append, List.length_drop, List.length_take]; omega
      have HST := Lib.hid (set_turn M t)
      generalize M.drop t ++ M.take t = N at HO3 HU2 HLn HST
      obtain ⟨gb, offb, capB, rfl, hgB, hglB, hcB, hcmB, hcellsB⟩ := own_reads_at (n := M.length) HO3.out hpos'
      have HCA : Hid (∀ w, Below wr.heap.size w3 w → Calls Tryd.prog 20 #[.slice (some ⟨g, off, none⟩) M.length capA] w fun e w' => e = .returned (.agg #[.int .u64 (wd (ofN M M.length) 0), .int .u64 (wd (ofN M M.length) 1), .int .u64 (wd (ofN M M.length) 2), .int .u64 (wd (ofN M M.length) 3)]) ∧ Below w.heap.size w w') := fun w hw =>
        (of_any M (by omega) (fun x h => by have := HU.out x h; omega) capA (some ⟨g, off, none⟩) w (.inr ⟨g, off, rfl, Nat.lt_of_lt_of_le hgl (Nat.le_trans HB3.out.size hw.size), fun k hk => by
          rw [hw.cell (p := ⟨g, off + k, none⟩) hgl, HB3.out.cell (p := ⟨g, off + k, none⟩) hgl]; exact HCells.out k hk⟩))
      have HCB : Hid (∀ w, Below w3.heap.size w3 w → Calls Tryd.prog 20 #[.slice (some ⟨gb, offb, none⟩) M.length capB] w fun e w' => e = .returned (.agg #[.int .u64 (wd (ofN M M.length) 0), .int .u64 (wd (ofN M M.length) 1), .int .u64 (wd (ofN M M.length) 2), .int .u64 (wd (ofN M M.length) 3)]) ∧ Below w3.heap.size w3 w') := fun w hw => by
        have := of_any N (by rw [HLn.out]; omega) (fun x h => by have := HU2.out x h; omega) capB (some ⟨gb, offb, none⟩) w (.inr ⟨gb, offb, rfl, Nat.lt_of_lt_of_le hglB hw.size, fun k hk => by
          rw [hw.cell (p := ⟨gb, offb + k, none⟩) hglB]; exact hcellsB k hk⟩)
        rw [HLn.out] at this
        exact Calls.under hw (Nat.le_refl _) (set_same (fun x _ => by have := HST.out x; rw [HLn.out] at this; exact this) this)
      have HCD : Hid (∀ (w : World) gd offd capD, gd < w.heap.size → (∀ k, k < (N ++ [y]).length → w.cell? ⟨gd, offd + k, none⟩ = some (.int .i64 ((N ++ [y]).getD k 0))) → Calls Tryd.prog 20 #[.slice (some ⟨gd, offd, none⟩) (M.length + 1) capD] w fun e w' => e = .returned (.agg #[.int .u64 (wd (orP (ofN M M.length) (oneP y)) 0), .int .u64 (wd (orP (ofN M M.length) (oneP y)) 1), .int .u64 (wd (orP (ofN M M.length) (oneP y)) 2), .int .u64 (wd (orP (ofN M M.length) (oneP y)) 3)]) ∧ Below w.heap.size w w') := fun w gd offd capD hg hc => by
        have hl : (N ++ [y]).length = M.length + 1 := by rw [List.length_append, HLn.out]; rfl
        have := of_any (N ++ [y]) (by rw [hl]; omega) (fun x h => by
          rcases List.mem_append.1 h with h | h
          · have := HU2.out x h; omega
          · simp at h; omega) capD (some ⟨gd, offd, none⟩) w (.inr ⟨gd, offd, rfl, hg, hc⟩)
        rw [hl] at this
        refine set_same (fun x _ => ?_) this
        have h1 := set_more N y x
        rw [hl] at h1
        rw [h1]
        unfold orP
        have := HST.out x
        rw [HLn.out] at this ⊢
        rw [this]
      have hme := more_eq M y hyr
      have HA1 := Lib.hid (fun k (h : k < M.length) => among_take M y h)
      have HO := Lib.hid (show w3.ownsRow wr.heap.size 3 1 (.slice (some ⟨gb, offb, none⟩) M.length capB) M.length (rowV N) from HO3.out)
      have HC3 : Hid (∀ k, k < M.length → w3.cell? ⟨g, off + k, none⟩ = some (.int .i64 (M.getD k 0))) := fun k hk => by
        rw [HB3.out.cell (p := ⟨g, off + k, none⟩) hgl]; exact HCells.out k hk
      generalize ofN M M.length = p at HCA HCB HCD hme
      have e1 := eq4_self (wd p 0) (wd p 1) (wd p 2) (wd p 3)
      have HME := Lib.hid hme
      generalize wd p = P at HCA HCB HCD HME e1
      generalize wd (orP p (oneP y)) = Q at HCD HME
      clear hown hgrow hown2 hgrow2 hb2 hb3 hown3 HU HU2 HST HO3 hcellsB HCells hme
      go_wp2
      go_loop [14, 15] (fun th i => ∃ n : Nat, n ≤ M.length ∧ i = .int .i64 n ∧ th = .bool (among (M.take n) y)) (fun _ i => (M.length - intOf i).toNat)
      case atStart => exact ⟨0, by omega, rfl, rfl⟩
      case round =>
        obtain ⟨n, hn, rfl, rfl⟩ := hrel
        by_cases hlt : n < M.length
        · have ck := HC3.out n hlt
          have HA := Lib.hid (HA1.out n hlt)
          generalize M.getD n 0 = x at ck HA
          clear HC3 HCA HCB HCD HA1 e1
          cases hA : among (M.take n) y with
          | true =>
            have HT : Hid (among (M.take (n + 1)) y = true) := by show _ = _; rw [HA.out, hA]; rfl
            clear HA hA
            go_wp2
            go_round
            case rel => exact ⟨n + 1, by omega, by go_num, by rw [HT.out]⟩
            case measure => simp [intOf]; omega
          | false =>
            have HT : Hid (among (M.take (n + 1)) y = (x == y)) := by show _ = _; rw [HA.out, hA]; simp
            clear HA hA
            generalize hxy : (x == y) = q at HT
            go_wp2
            go_round
            case rel => exact ⟨n + 1, by omega, by go_num, by rw [HT.out]⟩
            case measure => simp [intOf]; omega
        · obtain rfl : n = M.length := by omega
          rw [List.take_length]
          clear HA1 HC3 hlt hn
          generalize among M y = q at HME
          have hsz3 := HB3.out.size
          have e2 : eq4 (Q 0) (Q 1) (Q 2) (Q 3) (P 0) (P 1) (P 2) (P 3) = q := HME.out
          clear HME
          cases q
          all_goals
            go_wp2_with (first
              | (go_at_call 20; (with_reducible refine (HCA.out _ (Below.refl _ _)).mono ?_); rintro e w4 ⟨rfl, hw4⟩; have H4 := Lib.hid hw4; clear hw4)
              | (go_at_call 20; (with_reducible refine (HCB.out _ H4.out).mono ?_); rintro e w5 ⟨rfl, hw5⟩; have H5 := Lib.hid hw5; have HS5 := Lib.hid hw5.size; have HO5 := Lib.hid (owns_below HO.out hw5 (Nat.le_refl _)); clear hw5 HO H4)
              | (at_builtin; refine wpList_append_own_g _ (by first | rfl | go_simp | simp [Region.wanted, yielded]) _ _ 25 rfl wr.heap.size 3 i0 (.int .i64 0) 1 8 Tryd.underlying25 hi hz0 hz1 hz2 rfl (by decide) _ _ _ rfl (HO5.out.alloc _) ⟨w5.heap.size, 0, none⟩ 1 1 [.int .i64 y] rfl rfl (cell_one_new _ _ _) (fun x hx => by simp at hx; subst hx; rfl) (by unfold maxLen; omega) (by omega) (by have := HS5.out; simp; omega) ?_; intro v' w6 hown' hgrow _; have H6 := Lib.hid ((((Below.mono H5.out hsz3).alloc (Nat.le_trans hsz3 HS5.out) _).grown hgrow (by have := HS5.out; simp; omega) (fun k hk => (HO5.out.lt k hk).1))); obtain ⟨gd, offd, capD, rfl, hgD, hglD, _, _, hcD⟩ := own_reads_at (L := N ++ [y]) (by rw [← rowV_append]; exact hown') (by omega); have HCD2 := Lib.hid (HCD.out w6 gd offd capD hglD hcD); clear hown' hgrow hcD HCD HO5)
              | (go_at_call 20; (with_reducible refine (HCD2.out).mono ?_); rintro e w7 ⟨rfl, hw7⟩; have H7 := Lib.hid (H6.out.trans (hw7.mono (Nat.le_trans hsz3 H6.out.size))); clear hw7)
              | (go_at_call 20; (with_reducible refine (HCA.out _ H7.out).mono ?_); rintro e w8 ⟨rfl, hw8⟩; have H8 := Lib.hid (H7.out.trans (hw8.mono (Nat.le_trans hsz3 H7.out.size))); clear hw8))
            go_ret
            exact ⟨rfl, (hlow.out.trans (HB3.out.mono hsz)).trans (H8.out.mono hsz)⟩

theorem row_same (W : World) (hT : Tab W) (a0 : Option Addr) (len cap0 : Nat) (z : List Int) (hrow : IsRow .i64 W a0 len cap0 z) (turn : Int) (_h : (Lit.int .i64 turn).wf = true) (more : Int) (_h2 : (Lit.int .i64 more).wf = true) :
    Calls Tryd.prog 7 #[.slice a0 len cap0, .int .i64 turn, .int .i64 more] W fun e w' => e = .returned (.bool true) ∧ Below W.heap.size W w' := by
  obtain ⟨L, hl, _, hr, cap, _, _, F⟩ := few_any hrow
  have A := Lib.hid (awake_under hT)
  by_cases h0 : L.length = 0
  · rw [h0] at F
    exact same_none a0 len cap0 cap turn more W A F
  · exact same_some a0 len cap0 cap turn more L W hl (by omega) A F hr

end Go.Proofs.YtigafpmhgogpmaaDoor
