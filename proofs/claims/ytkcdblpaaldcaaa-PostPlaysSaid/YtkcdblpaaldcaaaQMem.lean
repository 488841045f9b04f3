/-
  What a box's blocks hold, and what of memory a call may turn.
-/
import Derived.Test.YtkcdblpaaldcaaaQLocks
import Derived.Test.YtkcdblpaaldcaaaQSel
import Derived.WalkKit
import Derived.WalkSpells
import Derived.WalkLawsBesides
import Derived.Lib.Hide
import Derived.Below
import Derived.IntWalk
import Derived.Deep.QuietTactic
import Derived.BigQuiet
import Derived.Maps.AppendAt
namespace Go.Proofs.Ytkcdblpaaldcaaa
open Go.RowKit Go.Maps Go.Conc

/-- What may have turned of what was there: the blocks of S alone. -/
structure Turn (S : Nat → Prop) (w w' : World) : Prop where
  os : w'.os = w.os
  tape : w'.tape = w.tape
  output : w'.output = w.output
  size : w.heap.size ≤ w'.heap.size
  block : ∀ k, k < w.heap.size → ¬ S k → w'.heap[k]? = w.heap[k]?

theorem Turn.refl (S : Nat → Prop) (w : World) : Turn S w w := ⟨rfl, rfl, rfl, Nat.le_refl _, fun _ _ _ => rfl⟩
theorem Turn.trans {S S' : Nat → Prop} {a b c : World} (h : Turn S a b) (k : Turn S' b c) (hs : ∀ i, i < a.heap.size → S' i → S i) : Turn S a c :=
  ⟨k.os.trans h.os, k.tape.trans h.tape, k.output.trans h.output, Nat.le_trans h.size k.size, fun i hi hn => (k.block i (Nat.lt_of_lt_of_le hi h.size) (fun q => hn (hs i hi q))).trans (h.block i hi hn)⟩
theorem Turn.then {S : Nat → Prop} {a b c : World} (h : Turn S a b) (k : Turn S b c) : Turn S a c := h.trans k fun _ _ q => q
theorem Turn.mono {S S' : Nat → Prop} {a b : World} (h : Turn S a b) (hs : ∀ i, i < a.heap.size → S i → S' i) : Turn S' a b :=
  ⟨h.os, h.tape, h.output, h.size, fun i hi hn => h.block i hi (fun q => hn (hs i hi q))⟩
theorem Turn.of_below {S : Nat → Prop} {w w' : World} (h : Below w.heap.size w w') : Turn S w w' := ⟨h.os, h.tape, h.output, h.size, fun k hk _ => h.block k hk⟩
theorem Turn.below {S : Nat → Prop} {w w' : World} {B : Nat} (h : Turn S w w') (hB : B ≤ w.heap.size) (hs : ∀ i, S i → B ≤ i) : Below B w w' :=
  ⟨h.os, h.tape, h.output, h.size, fun k hk => h.block k (by omega) (fun q => by have := hs k q; omega)⟩
theorem Turn.drew {S : Nat → Prop} {a w : World} (h : Turn S a w) : Turn S a w.drew := ⟨h.os, h.tape, h.output, h.size, h.block⟩
theorem Turn.alloc {S : Nat → Prop} {a w : World} (h : Turn S a w) (o : Obj) : Turn S a (w.alloc o) :=
  h.then (Turn.of_below ((Below.refl _ _).alloc (Nat.le_refl _) o))
theorem Turn.setCell {S : Nat → Prop} {a w : World} (h : Turn S a w) {p : Addr} (hp : p.block < a.heap.size → S p.block) (u : Value) : Turn S a (w.setCell p u) :=
  ⟨h.os, h.tape, h.output, by simp [World.setCell]; exact h.size, fun k hk hn => by
    rw [Below.heap_setCell _ _ _ _ (fun e => hn (by rw [e]; exact hp (by omega)))]; exact h.block k hk hn⟩
theorem Turn.setChan {S : Nat → Prop} {a w : World} (h : Turn S a w) {c : Nat} (hp : c < a.heap.size → S c) (cap : Nat) (buf : Array Value) (cl : Bool) (s r : Nat) (tm : Bool) : Turn S a (w.setChan c cap buf cl s r tm) :=
  ⟨h.os, h.tape, h.output, by rw [size_setChan]; exact h.size, fun k hk hn => by
    have hne : c ≠ k := fun e => hn (by rw [← e]; exact hp (by omega))
    have : (w.setChan c cap buf cl s r tm).heap[k]? = w.heap[k]? := by simp [World.setChan, Array.getElem?_setIfInBounds_ne hne]
    rw [this]; exact h.block k hk hn⟩
theorem Turn.grown {S : Nat → Prop} {a w w' : World} {row : Option Nat} (h : Turn S a w) (hg : w.grownBy w' row) (hr : ∀ k, row = some k → k < a.heap.size → S k) : Turn S a w' :=
  ⟨hg.os.trans h.os, hg.tape.trans h.tape, hg.output.trans h.output, Nat.le_trans h.size hg.size, fun k hk hn => (hg.block k (Nat.lt_of_lt_of_le hk h.size) (fun e => hn (hr k e.symm hk))).trans (h.block k hk hn)⟩

theorem block_of_cell {w : World} {a : Addr} {v : Value} (h : w.cell? a = some v) : a.block < w.heap.size := by
  rcases Nat.lt_or_ge a.block w.heap.size with g | g
  · exact g
  · simp [World.cell?, Array.getElem?_eq_none g] at h
theorem lt_of_block {w : World} {b : Nat} {o : Obj} (h : w.heap[b]? = some o) : b < w.heap.size := (Array.getElem?_eq_some_iff.1 h).1
theorem Turn.obj {S : Nat → Prop} {w w' : World} (h : Turn S w w') {b : Nat} {o : Obj} (ho : w.heap[b]? = some o) (hn : ¬ S b) : w'.heap[b]? = some o := (h.block b (lt_of_block ho) hn).trans ho
theorem Turn.cell {S : Nat → Prop} {w w' : World} (h : Turn S w w') {b o : Nat} {v : Value} (hc : w.cell? ⟨b, o, none⟩ = some v) (hn : ¬ S b) : w'.cell? ⟨b, o, none⟩ = some v := by
  have := h.block b (block_of_cell hc) hn
  simp only [World.cell?] at hc ⊢
  rw [this]; exact hc

/-- The walk goes on in a world of which only so much is known. -/
theorem gen_world {P : Program} {c : Code} {Q : Exit → Act → World → Prop} {a : Act} {w : World} (S : World → Prop) (h : S w) (k : ∀ w', S w' → c.wp P Q a w') : c.wp P Q a w := k w h

theorem blk_set {w : World} {b o : Nat} {cs : Array Value} {T : TypeId} {fr : Nat × Nat} (h : w.heap[b]? = some (.cells cs T fr)) (v : Value) : (w.setCell ⟨b, o, none⟩ v).heap[b]? = some (.cells (cs.setIfInBounds o v) T fr) := by
  simp [World.setCell, Array.getElem?_modify, h]
theorem blk_far {w : World} {b : Nat} {a : Addr} (hne : b ≠ a.block) (v : Value) : (w.setCell a v).heap[b]? = w.heap[b]? := Below.heap_setCell w a v b hne
theorem blk_cell {w : World} {b : Nat} {cs : Array Value} {T : TypeId} {fr : Nat × Nat} (h : w.heap[b]? = some (.cells cs T fr)) (o : Nat) : w.cell? ⟨b, o, none⟩ = cs[o]? := cell_of_row w b o cs T fr h
theorem blk_free {w : World} {b : Nat} {cs : Array Value} {T : TypeId} (h : w.heap[b]? = some (.cells cs T (0, 0))) (o : Nat) : w.frozen? ⟨b, o, none⟩ = false := by
  simp [World.frozen?, h]

/-! ### requests -/
/-- A request: its task and its work. -/
abbrev Req := Int × Int
def reqV (x : Req) : Value := .agg #[.int .i64 x.1, .int .i64 x.2]
def bufV (l : List Req) : Array Value := (l.map reqV).toArray
theorem bufV_size (l : List Req) : (bufV l).size = l.length := by simp [bufV]
theorem bufV_push (l : List Req) (x : Req) : (bufV l).push (reqV x) = bufV (l ++ [x]) := by simp [bufV]
theorem bufV_tail (x : Req) (l : List Req) : (bufV (x :: l)).extract 1 (bufV (x :: l)).size = bufV l := by
  simp [bufV]; exact List.take_of_length_le (by simp)
theorem bufV_head (x : Req) (l : List Req) : (bufV (x :: l)).getD 0 undef = .agg #[.int .i64 x.1, .int .i64 x.2] := by simp [bufV, reqV]

/-- The cells of a row of requests. -/
def flat : List Req → List Value
  | [] => []
  | x :: l => .int .i64 x.1 :: .int .i64 x.2 :: flat l
theorem flat_len : ∀ l : List Req, (flat l).length = l.length * 2
  | [] => rfl
  | x :: l => by simp [flat, flat_len l]; omega
theorem flat_append : ∀ l m : List Req, flat (l ++ m) = flat l ++ flat m
  | [], _ => rfl
  | x :: l, m => by simp [flat, flat_append l m]
theorem flat_at : ∀ (l : List Req) (k : Nat) (x : Req), l[k]? = some x → (flat l)[k * 2]? = some (.int .i64 x.1) ∧ (flat l)[k * 2 + 1]? = some (.int .i64 x.2)
  | [], k, x, h => by simp at h
  | y :: l, 0, x, h => by simp at h; subst h; simp [flat]
  | y :: l, k + 1, x, h => by
    have := flat_at l k x (by simpa using h)
    rw [show (k + 1) * 2 = k * 2 + 1 + 1 by omega]
    simpa [flat] using this
theorem flat_one : ∀ (l : List Req), ∀ u ∈ flat l, u.oneCell' = true
  | [], u, h => by simp [flat] at h
  | x :: l, u, h => by
    simp [flat] at h
    rcases h with rfl | rfl | h
    · rfl
    · rfl
    · exact flat_one l u h
theorem flat_drop : ∀ (k : Nat) (l : List Req), flat (l.drop k) = (flat l).drop (k * 2)
  | 0, l => by simp
  | k + 1, [] => by simp [flat]
  | k + 1, x :: l => by
    rw [show (k + 1) * 2 = k * 2 + 1 + 1 by omega]
    simpa [flat] using flat_drop k l
theorem flat_take : ∀ (k : Nat) (l : List Req), flat (l.take k) = (flat l).take (k * 2)
  | 0, l => by simp [flat]
  | k + 1, [] => by simp [flat]
  | k + 1, x :: l => by
    rw [show (k + 1) * 2 = k * 2 + 1 + 1 by omega]
    simpa [flat] using flat_take k l

theorem addr_at (g o t : Nat) : (⟨g, o, none⟩ : Addr).add t = ⟨g, o + t, none⟩ := by
  unfold Addr.add; split <;> simp_all

/-- A row of requests that can be read. -/
def View (w : World) (a : Option Addr) (l : List Req) : Prop :=
  l = [] ∨ ∃ g o, a = some ⟨g, o, none⟩ ∧ ∀ j u, (flat l)[j]? = some u → w.cell? ⟨g, o + j, none⟩ = some u
/-- A row of requests of one's own. -/
def Asks (w : World) (v : Value) (l : List Req) : Prop := w.ownsRow 0 31 2 v l.length (flat l)

theorem View.nil {w : World} {a : Option Addr} : View w a [] := .inl rfl
theorem View.at_ {w : World} {a : Option Addr} {l : List Req} (h : View w a l) {k : Nat} {x : Req} (hx : l[k]? = some x) : ∃ g o, a = some ⟨g, o, none⟩ ∧ w.cell? ⟨g, o + k * 2, none⟩ = some (.int .i64 x.1) ∧ w.cell? ⟨g, o + k * 2 + 1, none⟩ = some (.int .i64 x.2) := by
  rcases h with rfl | ⟨g, o, rfl, hc⟩
  · simp at hx
  · exact ⟨g, o, rfl, hc _ _ (flat_at l k x hx).1, hc _ _ (flat_at l k x hx).2⟩
theorem View.kept {S : Nat → Prop} {w w' : World} {a : Option Addr} {l : List Req} (h : View w a l) (ht : Turn S w w') (hn : ∀ g o, a = some ⟨g, o, none⟩ → l ≠ [] → ¬ S g) : View w' a l := by
  rcases h with rfl | ⟨g, o, rfl, hc⟩
  · exact .inl rfl
  · by_cases hl : l = []
    · exact .inl hl
    · exact .inr ⟨g, o, rfl, fun j u hj => ht.cell (hc j u hj) (hn g o rfl hl)⟩
theorem View.below {w w' : World} {a : Option Addr} {l : List Req} (h : View w a l) (hb : Below w.heap.size w w') : View w' a l :=
  h.kept (Turn.of_below (S := fun _ => False) hb) (fun _ _ _ _ h => h)
theorem View.lt {w : World} {g o : Nat} {l : List Req} (h : View w (some ⟨g, o, none⟩) l) (hl : l ≠ []) : g < w.heap.size := by
  rcases h with rfl | ⟨g', o', e, hc⟩
  · exact absurd rfl hl
  · cases e
    cases l with
    | nil => exact absurd rfl hl
    | cons x l => exact block_of_cell (hc 0 _ rfl)
theorem View.drop {w : World} {g o : Nat} {l : List Req} (h : View w (some ⟨g, o, none⟩) l) (k : Nat) : View w (some ⟨g, o + k * 2, none⟩) (l.drop k) := by
  rcases h with rfl | ⟨g', o', e, hc⟩
  · left; simp
  · cases e
    refine .inr ⟨_, _, rfl, fun j u hj => ?_⟩
    rw [flat_drop, List.getElem?_drop] at hj
    rw [Nat.add_assoc]
    exact hc _ u hj
theorem View.take {w : World} {a : Option Addr} {l : List Req} (h : View w a l) (k : Nat) : View w a (l.take k) := by
  rcases h with rfl | ⟨g, o, rfl, hc⟩
  · left; simp
  · refine .inr ⟨g, o, rfl, fun j u hj => ?_⟩
    rw [flat_take, List.getElem?_take] at hj
    split at hj
    · exact hc j u hj
    · cases hj

theorem Asks.nil (w : World) : Asks w (.slice none 0 0) [] := World.ownsRow_nil _ _ _ _
theorem Asks.slice {w : World} {v : Value} {l : List Req} (h : Asks w v l) : ∃ a cap, v = .slice a l.length cap ∧ View w a l ∧ ∀ g, v.ownBlock = some g ↔ ∃ o, a = some ⟨g, o, none⟩ := by
  rcases h.2 with ⟨rfl, h0⟩ | ⟨g, cap, cur, rfl, _, h3, h1, h2, h4, h5⟩
  · exact ⟨none, 0, by rw [h0], .inl (List.length_eq_zero_iff.1 h0), fun g => by simp [Value.ownBlock]⟩
  · refine ⟨_, cap, rfl, .inr ⟨g, 0, rfl, fun j u hj => ?_⟩, fun g' => by simp [Value.ownBlock]⟩
    rw [Nat.zero_add, blk_cell h3]
    have hj' := hj
    rw [← h5] at hj
    rw [List.getElem?_take] at hj
    split at hj
    · simpa using hj
    · cases hj
theorem Asks.kept {S : Nat → Prop} {w w' : World} {v : Value} {l : List Req} (h : Asks w v l) (ht : Turn S w w') (hn : ∀ k, v.ownBlock = some k → ¬ S k) : Asks w' v l := by
  rcases h with ⟨h0, h | ⟨g, cap, cur, rfl, hB, h3, h1, h2, h4, h5⟩⟩
  · exact ⟨h0, .inl h⟩
  · exact ⟨h0, .inr ⟨g, cap, cur, rfl, hB, ht.obj h3 (hn g rfl), h1, h2, h4, h5⟩⟩
theorem Asks.lt {w : World} {v : Value} {l : List Req} (h : Asks w v l) {k : Nat} (hk : v.ownBlock = some k) : k < w.heap.size := by
  rcases h.2 with ⟨rfl, h0⟩ | ⟨g, cap, cur, rfl, _, h3, h1, h2, h4, h5⟩
  · simp [Value.ownBlock] at hk
  · simp [Value.ownBlock] at hk; subst hk; exact lt_of_block h3
theorem Asks.cells {w : World} {v : Value} {l : List Req} (h : Asks w v l) {k : Nat} (hk : v.ownBlock = some k) : ∃ cur, w.heap[k]? = some (.cells cur 31 (0, 0)) := by
  rcases h.2 with ⟨rfl, h0⟩ | ⟨g, cap, cur, rfl, _, h3, h1, h2, h4, h5⟩
  · simp [Value.ownBlock] at hk
  · simp [Value.ownBlock] at hk; subst hk; exact ⟨_, h3⟩

theorem infoAsk : (Try.prog.info? 31).map (fun i => (i.zero, i.size, i.bytes)) = some (some (.agg #[.int .i64 0, .int .i64 0]), 2, 16) := by kernel_rfl
theorem zeroAsk (w : World) : (zeroValue 31).run Try.prog w = .ok (.agg #[.int .i64 0, .int .i64 0]) w := by kernel_rfl

/-! ### boxes -/
/-- A box's own struct: its two locks' words, its channel, whether it is shut. -/
def St (w : World) (b c : Nat) (d k : Int) (sh : Bool) : Prop := w.heap[b]? = some (.cells #[.int .i32 d, .int .u32 0, .int .i32 k, .int .u32 0, .chan (some c), .bool sh] 57 (0, 0))
/-- A channel with what waits. -/
def Ch (w : World) (c n : Nat) (l : List Req) : Prop := ∃ s r, w.heap[c]? = some (.chan n (bufV l) false s r false)
/-- A box, its door's word d. -/
structure BoxD (w : World) (d : Int) (b c n : Nat) (l : List Req) (sh : Bool) : Prop where
  str : St w b c d 0 sh
  chan : Ch w c n l
  room : l.length ≤ n
  few : n ≤ 1000
abbrev Box (w : World) (b c n : Nat) (l : List Req) (sh : Bool) : Prop := BoxD w 0 b c n l sh
def Two (b c k : Nat) : Prop := k = b ∨ k = c

theorem St.lt {w : World} {b c : Nat} {d k : Int} {sh : Bool} (h : St w b c d k sh) : b < w.heap.size := lt_of_block h
theorem Ch.lt {w : World} {c n : Nat} {l : List Req} (h : Ch w c n l) : c < w.heap.size := by obtain ⟨s, r, h⟩ := h; exact lt_of_block h
theorem St.ne {w : World} {b c c' n : Nat} {d k : Int} {sh : Bool} {l : List Req} (h : St w b c d k sh) (hc : Ch w c' n l) : c' ≠ b := by
  rintro rfl
  obtain ⟨s, r, hc⟩ := hc
  unfold St at h
  rw [h] at hc; cases hc
theorem BoxD.ne {w : World} {d : Int} {b c n : Nat} {l : List Req} {sh : Bool} (h : BoxD w d b c n l sh) : c ≠ b := h.str.ne h.chan
theorem St.kept {S : Nat → Prop} {w w' : World} {b c : Nat} {d k : Int} {sh : Bool} (h : St w b c d k sh) (ht : Turn S w w') (hn : ¬ S b) : St w' b c d k sh := ht.obj h hn
theorem Ch.kept {S : Nat → Prop} {w w' : World} {c n : Nat} {l : List Req} (h : Ch w c n l) (ht : Turn S w w') (hn : ¬ S c) : Ch w' c n l := by
  obtain ⟨s, r, h⟩ := h; exact ⟨s, r, ht.obj h hn⟩
theorem BoxD.kept {S : Nat → Prop} {w w' : World} {d : Int} {b c n : Nat} {l : List Req} {sh : Bool} (h : BoxD w d b c n l sh) (ht : Turn S w w') (hb : ¬ S b) (hc : ¬ S c) : BoxD w' d b c n l sh :=
  ⟨h.str.kept ht hb, h.chan.kept ht hc, h.room, h.few⟩
theorem BoxD.below {w w' : World} {d : Int} {b c n : Nat} {l : List Req} {sh : Bool} (h : BoxD w d b c n l sh) (hb : Below w.heap.size w w') : BoxD w' d b c n l sh :=
  h.kept (Turn.of_below (S := fun _ => False) hb) (fun q => q) (fun q => q)
theorem St.cells {w : World} {b c : Nat} {d k : Int} {sh : Bool} (h : St w b c d k sh) :
    w.cell? ⟨b, 0, none⟩ = some (.int .i32 d) ∧ w.cell? ⟨b, 2, none⟩ = some (.int .i32 k) ∧ w.cell? ⟨b, 4, none⟩ = some (.chan (some c)) ∧ w.cell? ⟨b, 5, none⟩ = some (.bool sh) :=
  ⟨by rw [blk_cell h]; rfl, by rw [blk_cell h]; rfl, by rw [blk_cell h]; rfl, by rw [blk_cell h]; rfl⟩
theorem St.free {w : World} {b c : Nat} {d k : Int} {sh : Bool} (h : St w b c d k sh) (o : Nat) : w.frozen? ⟨b, o, none⟩ = false := blk_free h o
theorem turn_set {w : World} {b o : Nat} (v : Value) : Turn (fun k => k = b) w (w.setCell ⟨b, o, none⟩ v) := Turn.setCell (S := fun k => k = b) (Turn.refl _ _) (p := ⟨b, o, none⟩) (fun _ => rfl) _
theorem ch_set {w : World} {c n s r : Nat} {l : List Req} (hc : c < w.heap.size) : Ch (w.setChan c n (bufV l) false s r false) c n l := ⟨s, r, heap_setChan w c n _ false s r false hc⟩
theorem turn_chan {w : World} {c n s r : Nat} {buf : Array Value} : Turn (fun k => k = c) w (w.setChan c n buf false s r false) := Turn.setChan (S := fun k => k = c) (Turn.refl _ _) (fun _ => rfl) _ _ _ _ _ _

open Go.MuLone in
theorem lock_low {w : World} {b c : Nat} {d : Int} {sh : Bool} (h : St w b c d 0 sh) : Calls Try.prog 26 #[.pointer (some ⟨b, 2, none⟩)] w fun e w' => e = .returned (.tuple #[]) ∧ St w' b c d 1 sh ∧ Turn (fun k => k = b) w w' := by
  refine (lock_free muLib ⟨b, 2, none⟩ w h.cells.2.1 (h.free 2)).mono ?_
  rintro e w' ⟨rfl, rfl⟩
  exact ⟨rfl, (blk_set h _).trans rfl, turn_set _⟩
open Go.MuLone in
theorem lock_door {w : World} {b c : Nat} {k : Int} {sh : Bool} (h : St w b c 0 k sh) : Calls Try.prog 26 #[.pointer (some ⟨b, 0, none⟩)] w fun e w' => e = .returned (.tuple #[]) ∧ St w' b c 1 k sh ∧ Turn (fun k => k = b) w w' := by
  refine (lock_free muLib ⟨b, 0, none⟩ w h.cells.1 (h.free 0)).mono ?_
  rintro e w' ⟨rfl, rfl⟩
  exact ⟨rfl, (blk_set h _).trans rfl, turn_set _⟩
open Go.MuLone in
theorem unlock_low {w : World} {b c : Nat} {d : Int} {sh : Bool} (u : FrameMode) (h : St w b c d 1 sh) : CallsD Try.prog 27 #[.pointer (some ⟨b, 2, none⟩)] u w fun e u' w' => u' = u ∧ e = .returned (.tuple #[]) ∧ St w' b c d 0 sh ∧ Turn (fun k => k = b) w w' := by
  refine (unlock_deferred muLib ⟨b, 2, none⟩ u w h.cells.2.1 (h.free 2)).mono ?_
  rintro e u' w' ⟨rfl, rfl, rfl⟩
  exact ⟨rfl, rfl, (blk_set h _).trans rfl, turn_set _⟩
open Go.MuLone in
theorem unlock_door {w : World} {b c : Nat} {k : Int} {sh : Bool} (u : FrameMode) (h : St w b c 1 k sh) : CallsD Try.prog 27 #[.pointer (some ⟨b, 0, none⟩)] u w fun e u' w' => u' = u ∧ e = .returned (.tuple #[]) ∧ St w' b c 0 k sh ∧ Turn (fun k => k = b) w w' := by
  refine (unlock_deferred muLib ⟨b, 0, none⟩ u w h.cells.1 (h.free 0)).mono ?_
  rintro e u' w' ⟨rfl, rfl, rfl⟩
  exact ⟨rfl, rfl, (blk_set h _).trans rfl, turn_set _⟩

theorem chan_eq_some (c : Nat) (w : World) : (binOp .eql 48 (.chan (some c)) (.chan none)).run Try.prog w = .ok (.bool false) w := by kernel_rfl
end Go.Proofs.Ytkcdblpaaldcaaa
