/- Texts of this claim, put together: VPL, VP5, VP6, VP7, VProg, VAwk, VFacts, VLaw1, VLaw2. -/
import Derived.Test.YtljigfedmjlfgaaM5
import Derived.Lib.AppendZerosOnto
import Derived.Lib.Walk
import Derived.Deep.DeepCutAuto
set_option linter.unusedVariables false
set_option linter.unusedSimpArgs false

/-
  A range over a function, and one within a round of it: the frame behind the round's first words is a function of what is told.
-/
namespace Go.Proofs.Ytljigfedmjlfgaa
open Go.RowKit Go.Maps Go.Shelf

theorem range_outer {α : Type} {n : Nat} {P : Program} {g : Operand} {ps : Array Tmp} {assign body : Code} {Q : Exit → Act → World → Prop} {a : Act} {w : World} (h1 : 1 ≤ n) {gf : Nat} {lb : Array Value}
    (hg : a.eval g = .func (.func gf) #[] lb) (eg : ∀ args w, (callFunc gf args).run P w = .ok (.enter gf args) w) {encs : α → Array Value} {Kp : World → World → Prop} {S Sp : List α → Prop} {N : Nat}
    (hseq : SeqStopsK Fence.wide (n - 1) P gf lb encs Kp S Sp N w) (hKt : ∀ {A B C : World}, Kp A B → Kp B C → Kp A C)
    (hKb : ∀ (W : World) (l : Nat) (o o' : Obj), w.heap.size ≤ l → W.heap[l]? = some o → o.isCells = false → o.isWalk = false → Kp W (W.putObj l o')) (hKr : ∀ W, Kp W W) (hps : ∀ x, (encs x).size = ps.size)
    (I : List α → World → Prop) (Ix : Code → List α → World → Prop) (hI : OwnFrom w.heap.size I) (hIx : ∀ c, OwnFrom w.heap.size (Ix c)) (h0 : I [] w) {a₁ : α → Act}
    (hassign : ∀ (l : Nat) (x : α) (W : World) (K : Act → World → Prop), K (a₁ x) W →
      assign.wpIn (Fence.wide.inRound l) (n - 1 - 1) P (Exit.then K (fun _ _ _ => False)) { tmps := (ps.zip (encs x)).foldl (fun t (p, v) => t.setIfInBounds p v) a.tmps, defers := [] } W)
    (hbody : ∀ (l : Nat) (pre : List α) (x : α) (W : World), w.heap.size ≤ l → (∃ r, W.heap[l]? = some (.loop r)) → I pre W → pre.length < N → body.wpIn (Fence.wide.inRound l) (n - 1 - 1) P (ownPostG w.heap.size Kp I Ix (pre ++ [x]) W) (a₁ x) W)
    (hdone : ∀ (D : Nat) (xs : List α) (W : World), w.heap.size ≤ D → S xs → I xs W → W.heap[D]? = some (.deferred (some [])) → Q .normal { a with defers := { target := .collected D, args := #[] } :: a.defers } W)
    (hstop : ∀ (D : Nat) (c : Code) (pre : List α) (W : World), w.heap.size ≤ D → Sp pre → Ix c pre W → W.heap[D]? = some (.deferred (some [])) → c.wpIn Fence.wide n P Q { a with defers := { target := .collected D, args := #[] } :: a.defers } W) :
    (Code.rangeFunc g ps assign body).wpIn Fence.wide n P Q a w :=
  wpIn_rangeFunc_ownH rfl h1 hg trivial eg hseq (fun h k => hKt h k) hKb (Below.refl _ _) hps I Ix hI hIx h0 (fun x a' _ => a' = a₁ x) (fun _ _ _ _ _ _ hs _ _ => hs)
    (fun l pre x W K hi hK => hassign l x W K (hK _ _ (KeepsFrom.refl _ _) (hKr W) hi rfl)) (fun l pre x a' W hl hr hi e hlt => by subst e; exact hbody l pre x W hl hr hi hlt) hdone hstop

theorem range_inner {α : Type} {n l₀ : Nat} {r₀ : Loop} {P : Program} {g : Operand} {ps : Array Tmp} {assign body : Code} {Q : Exit → Act → World → Prop} {a : Act} {w : World} (hl₀ : w.heap[l₀]? = some (.loop r₀)) (h1 : 1 ≤ n) {gf : Nat} {lb : Array Value}
    (hg : a.eval g = .func (.func gf) #[] lb) (eg : ∀ args w, (callFunc gf args).run P w = .ok (.enter gf args) w) {encs : α → Array Value} {Kp : World → World → Prop} {S Sp : List α → Prop} {N : Nat}
    (hseq : SeqStopsK Fence.wide (n - 1) P gf lb encs Kp S Sp N w) (hKt : ∀ {A B C : World}, Kp A B → Kp B C → Kp A C)
    (hKb : ∀ (W : World) (l : Nat) (o o' : Obj), w.heap.size ≤ l → W.heap[l]? = some o → o.isCells = false → o.isWalk = false → Kp W (W.putObj l o')) (hKr : ∀ W, Kp W W) (hps : ∀ x, (encs x).size = ps.size)
    (I : List α → World → Prop) (Ix : Code → List α → World → Prop) (hI : OwnFrom w.heap.size I) (hIx : ∀ c, OwnFrom w.heap.size (Ix c)) (h0 : I [] w) {a₁ : α → Act}
    (hassign : ∀ (l : Nat) (x : α) (W : World) (K : Act → World → Prop), K (a₁ x) W →
      assign.wpIn ((Fence.wide.inRound l₀).inRound l) (n - 1 - 1) P (Exit.then K (fun _ _ _ => False)) { tmps := (ps.zip (encs x)).foldl (fun t (p, v) => t.setIfInBounds p v) a.tmps, defers := [] } W)
    (hbody : ∀ (l : Nat) (pre : List α) (x : α) (W : World), I pre W → pre.length < N → body.wpIn ((Fence.wide.inRound l₀).inRound l) (n - 1 - 1) P (ownPostG w.heap.size Kp I Ix (pre ++ [x]) W) (a₁ x) W)
    (hdone : ∀ (xs : List α) (W : World), S xs → I xs W → Q .normal a W)
    (hstop : ∀ (c : Code) (pre : List α) (W : World), Sp pre → Ix c pre W → c.wpIn (Fence.wide.inRound l₀) n P Q a W) :
    (Code.rangeFunc g ps assign body).wpIn (Fence.wide.inRound l₀) n P Q a w :=
  wpIn_rangeFunc_ownN rfl hl₀ h1 hg trivial eg (hseq.inRound l₀) (fun h k => hKt h k) hKb (Below.refl _ _) hps I Ix hI hIx h0 (fun x a' _ => a' = a₁ x) (fun _ _ _ _ _ _ hs _ _ => hs)
    (fun l pre x W K hi hK => hassign l x W K (hK _ _ (KeepsFrom.refl _ _) (hKr W) hi rfl)) (fun l pre x a' W hl hr hi e hlt => by subst e; exact hbody l pre x W hi hlt) hdone hstop

/-- Between two rows of times: at none so far is it too much. -/
def OutI (w : World) (G : Nat) (a : Option Addr) (n c : Nat) (a2 : Option Addr) (n2 c2 : Nat) (l : List Dm) (L : List Bk) (E : Int) (pre : List (CutP L E)) (V : World) : Prop := (∀ z ∈ pre, Clean l L z.1) ∧ MsB w G a n c a2 n2 c2 0 false V
/-- In the last row there is a time at which it is. -/
def OutX (w : World) (G : Nat) (a : Option Addr) (n c : Nat) (a2 : Option Addr) (n2 c2 : Nat) (l : List Dm) (L : List Bk) (E : Int) (k : Code) (pre : List (CutP L E)) (V : World) : Prop :=
  k = .exit 0 ∧ ∃ (q : List (CutP L E)) (x : CutP L E) (y : Int), pre = q ++ [x] ∧ (∀ z ∈ q, Clean l L z.1) ∧ (Dl l y ∧ x.1.1 ≤ y ∧ y < x.1.2 ∧ leftA l L y < 0 ∧ ∀ z, Dl l z → x.1.1 ≤ z → z < y → 0 ≤ leftA l L z) ∧ MsB w G a n c a2 n2 c2 y true V
/-- Between two deadlines of a row. -/
def InI (l : List Dm) (L : List Bk) (fr tt : Int) (V : World) (pre : List (DlQ l fr tt)) (W : World) : Prop := (∀ z ∈ pre, 0 ≤ leftA l L z.1) ∧ Below V.heap.size V W
/-- The last one is too much. -/
def InX (w : World) (G : Nat) (a : Option Addr) (n c : Nat) (a2 : Option Addr) (n2 c2 : Nat) (l : List Dm) (L : List Bk) (fr tt : Int) (D : Nat) (V : World) (k : Code) (pre : List (DlQ l fr tt)) (W : World) : Prop :=
  k = .exit 0 ∧ ∃ (q : List (DlQ l fr tt)) (z : DlQ l fr tt), pre = q ++ [z] ∧ (∀ v ∈ q, 0 ≤ leftA l L v.1) ∧ leftA l L z.1 < 0 ∧ MsB w G a n c a2 n2 c2 z.1 true W ∧ KeepsFrom D V W
theorem outI_own {w : World} {G : Nat} {a : Option Addr} {n c : Nat} {a2 : Option Addr} {n2 c2 : Nat} {l : List Dm} {L : List Bk} {E : Int} {D : Nat} (hD : w.heap.size ≤ D) : OwnFrom D (OutI w G a n c a2 n2 c2 l L E) :=
  fun _ _ _ _ ⟨e1, e2⟩ hg hr => ⟨e1, e2.own hD hg hr⟩
theorem outX_own {w : World} {G : Nat} {a : Option Addr} {n c : Nat} {a2 : Option Addr} {n2 c2 : Nat} {l : List Dm} {L : List Bk} {E : Int} {D : Nat} (hD : w.heap.size ≤ D) (k : Code) : OwnFrom D (OutX w G a n c a2 n2 c2 l L E k) :=
  fun _ _ _ _ ⟨e0, q, x, y, e1, e2, e3, e4⟩ hg hr => ⟨e0, q, x, y, e1, e2, e3, e4.own hD hg hr⟩
theorem inI_own {l : List Dm} {L : List Bk} {fr tt : Int} {V : World} {D : Nat} (hD : V.heap.size ≤ D) : OwnFrom D (InI l L fr tt V) :=
  fun _ X Y row ⟨e1, e2⟩ hg hr => ⟨e1, ownFrom_below (β := Unit) (Nat.le_refl _) hD () X Y row e2 hg hr⟩
theorem inX_own {w : World} {G : Nat} {a : Option Addr} {n c : Nat} {a2 : Option Addr} {n2 c2 : Nat} {l : List Dm} {L : List Bk} {fr tt : Int} {D0 : Nat} {V : World} {D : Nat} (h0 : w.heap.size ≤ D) (hD : V.heap.size ≤ D) (k : Code) : OwnFrom D (InX w G a n c a2 n2 c2 l L fr tt D0 V k) :=
  fun _ X Y row ⟨e0, q, z, e1, e2, e3, e4, e5⟩ hg hr => ⟨e0, q, z, e1, e2, e3, e4.own h0 hg hr, ownFrom_keepsFrom (β := Unit) hD () X Y row e5 hg hr⟩
theorem outI_nil {w V : World} {G : Nat} {a : Option Addr} {n c : Nat} {a2 : Option Addr} {n2 c2 : Nat} {l : List Dm} {L : List Bk} {E : Int} (h : MsB w G a n c a2 n2 c2 0 false V) : OutI w G a n c a2 n2 c2 l L E [] V := ⟨fun x hx => absurd hx List.not_mem_nil, h⟩
theorem outI_snoc {w V V' : World} {G : Nat} {a : Option Addr} {n c : Nat} {a2 : Option Addr} {n2 c2 : Nat} {l : List Dm} {L : List Bk} {E : Int} {pre : List (CutP L E)} {x : CutP L E} (h : OutI w G a n c a2 n2 c2 l L E pre V) (hb : Below V.heap.size V V') (hx : Clean l L x.1) : OutI w G a n c a2 n2 c2 l L E (pre ++ [x]) V' :=
  ⟨fun z hz => (List.mem_append.1 hz).elim (h.1 z) (fun q => by rw [List.mem_singleton.1 q]; exact hx), h.2.below hb⟩
theorem inI_nil {l : List Dm} {L : List Bk} {fr tt : Int} {V W : World} (h : Below V.heap.size V W) : InI l L fr tt V [] W := ⟨fun x hx => absurd hx List.not_mem_nil, h⟩
theorem inI_snoc {l : List Dm} {L : List Bk} {fr tt : Int} {V W W' : World} {pre : List (DlQ l fr tt)} {x : DlQ l fr tt} (h : InI l L fr tt V pre W) (hb : Below W.heap.size W W') (hx : 0 ≤ leftA l L x.1) : InI l L fr tt V (pre ++ [x]) W' :=
  ⟨fun z hz => (List.mem_append.1 hz).elim (h.1 z) (fun q => by rw [List.mem_singleton.1 q]; exact hx), below_up h.2 hb⟩
theorem inX_put {w V W W' : World} {G : Nat} {a : Option Addr} {n c : Nat} {a2 : Option Addr} {n2 c2 : Nat} {l : List Dm} {L : List Bk} {fr tt : Int} {D : Nat} {pre : List (DlQ l fr tt)} {x : DlQ l fr tt} (h : InI l L fr tt V pre W) (hB : MsB w G a n c a2 n2 c2 0 false V) (hb : Below W.heap.size W W') (hx : leftA l L x.1 < 0) :
    InX w G a n c a2 n2 c2 l L fr tt D V (.exit 0) (pre ++ [x]) ((W'.setCell ⟨G + 1 + 1, 0, none⟩ (.int .i64 x.1)).setCell ⟨G + 1 + 1 + 1, 0, none⟩ (.bool true)) :=
  ⟨rfl, pre, x, rfl, h.1, hx, (hB.below (below_up h.2 hb)).put x.1, (kf_below (below_up h.2 hb)).trans (kf_two _ _ _ _ _)⟩
/-- A row of which all deadlines were told is clean. -/
theorem inI_clean {l : List Dm} (hok : ∀ x ∈ l, x.ok) {L : List Bk} {fr tt : Int} {V W : World} {xs : List (DlQ l fr tt)} {u : Int} (h : InI l L fr tt V xs W) (hc : DCh l fr tt (xs.map (·.1)) u) (he : ∀ t, nextA l u = some t → tt ≤ t) : Clean l L (fr, tt) := by
  intro y hy h1 h2
  dsimp only at h1 h2
  have hle : y ≤ u := by
    rcases Int.lt_or_le u y with q | q
    · cases e : nextA l u with
      | none => have := next_none hok e hy; omega
      | some t => have := (next_some hok e).2.2 y hy q; have := he t e; omega
    · exact q
  obtain ⟨z, hz, rfl⟩ := List.mem_map.1 (hc.find hok hy h1 hle)
  exact h.1 z hz
theorem inX_out {w V W : World} {G : Nat} {a : Option Addr} {n c : Nat} {a2 : Option Addr} {n2 c2 : Nat} {l : List Dm} (hok : ∀ x ∈ l, x.ok) {L : List Bk} {E fr tt : Int} {D : Nat} {k : Code} {pre2 : List (DlQ l fr tt)} {u : Int} (h : InX w G a n c a2 n2 c2 l L fr tt D V k pre2 W) (hc : DCh l fr tt (pre2.map (·.1)) u)
    {pre : List (CutP L E)} {hx : CutX L E (fr, tt)} (h0 : OutI w G a n c a2 n2 c2 l L E pre V) : k = .exit 0 ∧ KeepsFrom D V W ∧ OutX w G a n c a2 n2 c2 l L E (.exit 0) (pre ++ [⟨(fr, tt), hx⟩]) W := by
  obtain ⟨rfl, q, z, rfl, e2, e3, e4, e5⟩ := h
  refine ⟨rfl, e5, rfl, pre, ⟨(fr, tt), hx⟩, z.1, rfl, h0.1, ⟨z.2.1, z.2.2.1, z.2.2.2, e3, fun v hv h1 h2 => ?_⟩, e4⟩
  rw [List.map_append, List.map_singleton] at hc
  obtain ⟨u', c1, c2, c3⟩ := hc.last
  have hle : v ≤ u' := by
    rcases Int.lt_or_le u' v with q | q
    · have := (next_some hok c2).2.2 v hv q; omega
    · exact q
  obtain ⟨x, hx, rfl⟩ := List.mem_map.1 (c1.find hok hv h1 hle)
  exact e2 x hx
theorem out_none {w W : World} {G : Nat} {a : Option Addr} {n c : Nat} {a2 : Option Addr} {n2 c2 : Nat} {l : List Dm} (hok : ∀ x ∈ l, x.ok) {L : List Bk} {E : Int} (hE : endA l L = E) {xs : List (CutP L E)} {u : Int} (h : OutI w G a n c a2 n2 c2 l L E xs W) (hc : Cuts (xs.map (·.1)) u) (he : E < u) : msS l L = none ∧ MsB w G a n c a2 n2 c2 0 false W :=
  ⟨miss_none hok hc (by omega) (fun x hx => by obtain ⟨z, hz, rfl⟩ := List.mem_map.1 hx; exact h.1 z hz), h.2⟩
theorem out_some {w W : World} {G : Nat} {a : Option Addr} {n c : Nat} {a2 : Option Addr} {n2 c2 : Nat} {l : List Dm} (hok : ∀ x ∈ l, x.ok) {L : List Bk} {E : Int} (hE : endA l L = E) {k : Code} {xs : List (CutP L E)} {u : Int} (h : OutX w G a n c a2 n2 c2 l L E k xs W) (hc : Cuts (xs.map (·.1)) u) : k = .exit 0 ∧ ∃ y, msS l L = some y ∧ MsB w G a n c a2 n2 c2 y true W := by
  obtain ⟨rfl, q, x, y, rfl, e2, ⟨e3, e4, e5, e6, e7⟩, e8⟩ := h
  rw [List.map_append, List.map_singleton] at hc
  exact ⟨rfl, y, miss_some hok hc (fun v hv => by obtain ⟨z, hz, rfl⟩ := List.mem_map.1 hv; exact e2 z hz) e3 e4 e5 (by have := x.2.hi; omega) e6 e7, e8⟩
end Go.Proofs.Ytljigfedmjlfgaa

/-
  The walk over the least deadline by which what is due can't be done.
-/
namespace Go.Proofs.Ytljigfedmjlfgaa
open Go.RowKit Go.Maps Go.Shelf
attribute [local go_sem] Oper.semAt_some

set_option maxRecDepth 100000 in
set_option maxHeartbeats 16000000 in
theorem qmiss_any {w : World} {a : Option Addr} {n c : Nat} {l : List Dm} (h : Dems w a n c l) (hl : Nice l) {a2 : Option Addr} {n2 c2 : Nat} {L : List Bk} (h2 : Blks w a2 n2 c2 L) : Calls Try.prog 14 #[.slice a n c, .slice a2 n2 c2] w fun e w' => e = .returned (.tuple #[.int .i64 ((msS l L).getD 0), .bool (msS l L).isSome]) ∧ Below w.heap.size w w' := by
  have HD := Lib.hid h
  have HB := Lib.hid h2
  have HNL := Lib.hid hl
  have RC := Lib.hid (fun v (hb : Below w.heap.size w v) => pright_any (h2.below hb))
  have LC := Lib.hid (fun v (hb : Below w.heap.size w v) => pload_any (h.below hb))
  have PHC := Lib.hid (fun v => pholder_any a2 n2 c2 v)
  have EC := Lib.hid (fun v (hb : Below w.heap.size w v) => pend_any (h2.below hb) (perS l).1)
  have SC := Lib.hid (fun E v => pstretches_any a2 n2 c2 E v)
  have HE1 := Lib.hid (max_end l L)
  rw [HE1.out] at EC
  have HEU := Lib.hid (end_under hl h2.nice)
  rw [(load_nice hl).1] at LC
  obtain ⟨ld, hld⟩ : ∃ ld, loadN l (perS l).1 l.length = ld := ⟨_, rfl⟩
  obtain ⟨p, hp⟩ : ∃ p, (perS l).1 = p := ⟨_, rfl⟩
  rw [hld] at LC
  rw [hp] at LC EC
  obtain ⟨E, hE⟩ : ∃ E, endA l L = E := ⟨_, rfl⟩
  rw [hE] at EC HEU
  have HEE := Lib.hid hE
  obtain ⟨res, hres⟩ : ∃ res, msS l L = res := ⟨_, rfl⟩
  have HRES := Lib.hid hres
  rw [hres]
  clear hld hp hE hres h h2 hl
  refine (callsIn_wide (n := 8)).1 ?_
  refine callsIn_of_wp_marks Try.func14 rfl trivial ?_ rfl
  simp only [Try.ntmps14, List.size_toArray, List.length_cons, List.length_nil, Nat.reduceAdd, Nat.reduceSub, Array.replicate_succ, Array.replicate_zero, List.push_toArray, List.append_toArray, List.nil_append, List.cons_append]
  refine wpIn_wide.2 ?_
  go_wp2
  go_step3
  go_upto_region 1 with fail
  refine gen_world (fun v => Below w.heap.size w v ∧ Bx v w.heap.size 25 (.slice a n c)) ⟨(by repeat (first | exact Below.refl _ _ | (with_reducible assumption) | refine bw_alloc ?_ _ | refine bw_drew ?_)), heap_alloc_new w _⟩ ?_
  intro V ⟨hb, hr0⟩
  have HBV := Lib.hid hb
  have HR0 := Lib.hid hr0
  clear hb hr0
  go_upto_region 3 with (go_at_call 19; (with_reducible refine (RC.out _ HBV.out).mono ?_); rintro e w1 ⟨rfl, bx1⟩; have HBB := Lib.hid (below_up HBV.out bx1); have HQ0 : Hid (Bx w1 w.heap.size 25 (.slice a n c)) := kept_obj bx1 HR0.out; have k0 := HQ0.out.cell; clear bx1)
  clear RC HBV HR0
  go_upto_region 4 with (go_at_call 20; (with_reducible refine (LC.out _ HBB.out).mono ?_); rintro e w2 ⟨rfl, bx2⟩; have HB2 := Lib.hid (below_up HBB.out bx2); have HS0 : Hid (Bx w2 w.heap.size 25 (.slice a n c)) := kept_obj bx2 HQ0.out; clear bx2)
  clear LC HBB HQ0 k0
  have HLTG : Hid (w.heap.size < w2.heap.size) := lt_of_block HS0.out
  go_upto_region 8 with (go_at_call 21; (with_reducible refine (PHC.out _).mono ?_); rintro e w3 ⟨rfl, rfl⟩)
  clear PHC
  obtain ⟨q1, q2, q3, q4⟩ := box_four (V := w2) (a2 := a2) (n2 := n2) (c2 := c2) rfl
  refine gen_world (MsB w w2.heap.size a n c a2 n2 c2 0 false) ⟨below_up HB2.out (by repeat (first | exact Below.refl _ _ | (with_reducible assumption) | refine bw_alloc ?_ _ | refine bw_drew ?_)), kept_obj (by repeat (first | exact Below.refl _ _ | (with_reducible assumption) | refine bw_alloc ?_ _ | refine bw_drew ?_)) HS0.out, q1, q2, q3, q4, HLTG.out⟩ ?_
  intro V4 hv4
  have HV4 := Lib.hid hv4
  clear hv4 q1 q2 q3 q4 HB2 HS0 HLTG
  generalize w2.heap.size = G at *
  go_step3
  go_upto_block 0 with (first
    | (go_at_call 24; (with_reducible refine (EC.out _ HV4.out.low).mono ?_); rintro e w5 ⟨rfl, bx5⟩; have HV5 := Lib.hid (HV4.out.below bx5); clear bx5)
    | (go_at_call 23; (with_reducible refine (SC.out _ _).mono ?_); rintro e w8 ⟨rfl, rfl⟩))
  clear EC SC HV4
  have hI0 : MsB w G a n c a2 n2 c2 0 false ((w5.alloc (.cells #[.slice a2 n2 c2] 27)).alloc (.cells #[.int .i64 E] 2)) := HV5.out.below (by repeat (first | exact Below.refl _ _ | (with_reducible assumption) | refine bw_alloc ?_ _ | refine bw_drew ?_))
  have hx0 : Bx ((w5.alloc (.cells #[.slice a2 n2 c2] 27)).alloc (.cells #[.int .i64 E] 2)) w5.heap.size 27 (.slice a2 n2 c2) := kept_obj (by repeat (first | exact Below.refl _ _ | (with_reducible assumption) | refine bw_alloc ?_ _ | refine bw_drew ?_)) (heap_alloc_new w5 (.cells #[.slice a2 n2 c2] 27))
  have hx1 : Bx ((w5.alloc (.cells #[.slice a2 n2 c2] 27)).alloc (.cells #[.int .i64 E] 2)) (w5.heap.size + 1) 2 (.int .i64 E) := by
    have := heap_alloc_new (w5.alloc (.cells #[.slice a2 n2 c2] 27)) (.cells #[.int .i64 E] 2)
    rw [World.size_alloc] at this
    exact this
  have hGD : G + 1 + 1 + 1 < w5.heap.size := lt_of_block HV5.out.fd
  have hsz : ((w5.alloc (.cells #[.slice a2 n2 c2] 27)).alloc (.cells #[.int .i64 E] 2)).heap.size = w5.heap.size + 2 := by simp
  clear HV5
  generalize ((w5.alloc (.cells #[.slice a2 n2 c2] 27)).alloc (.cells #[.int .i64 E] 2)) = W8 at *
  generalize w5.heap.size = D at *
  have HTL : Hid (∀ n1, 1 ≤ n1 → SeqStopsK Fence.wide n1 Try.prog 42 #[.pointer (some ⟨D + 1, 0, none⟩), .pointer (some ⟨D, 0, none⟩)] (fun x : CutP L E => #[.int .i64 x.1.1, .int .i64 x.1.2]) (KpN (NM G))
      (fun ys => ∃ u, Cuts (ys.map (·.1)) u ∧ E < u) (fun ys => ∃ u, Cuts (ys.map (·.1)) u) 2000000 W8) := fun n1 h1 =>
    stretches_stops _ rfl n1 h1 L n2 c2 HB.out.len (by have h1 := HB.out.len; have h2 := HB.out.nice.len; omega) E HEU.out a2 (D + 1) D (NM G) W8 ⟨hx1, hx0, fun q => by unfold NM at q; omega, fun q => by unfold NM at q; omega, HB.out.view.below hI0.low, fun h0 b o i e q => by
      have := HB.out.view.off h0 b o i e
      have := hI0.lt
      unfold NM at q; omega⟩
  clear hx0 hx1
  have HI0 := Lib.hid hI0
  have HSZ := Lib.hid hsz
  have HGD := Lib.hid hGD
  clear hI0 hsz hGD
  refine (wpIn_wide (n := 8)).1 ?_
  gi_wp2
  have HDW : Hid (w.heap.size ≤ W8.heap.size) := HI0.out.low.size
  have h1n : 1 ≤ 8 - 1 - 1 := by decide
  apply range_outer (n := 8) (by omega) (gf := 42) (lb := #[.pointer (some ⟨D + 1, 0, none⟩), .pointer (some ⟨D, 0, none⟩)]) rfl (fun _ _ => MuLone.run_callFunc_enter Try.func42 (by kernel_rfl) rfl _ _)
    (HTL.out _ (by omega)) kpN_t kpN_b (fun _ => kpN_below (Below.refl _ _)) (fun _ => rfl)
    (OutI w G a n c a2 n2 c2 l L E) (OutX w G a n c a2 n2 c2 l L E) (outI_own HDW.out) (outX_own HDW.out) (outI_nil HI0.out)
  case hassign =>
    intro y x V K hK
    gi_wp2
    exact hK
  case hbody =>
    rintro y pre ⟨⟨fr, tt⟩, hx⟩ V hly ⟨r, hr⟩ hOI hlt
    have hB := hOI.2
    dsimp only
    have HX := Lib.hid hx
    have hx1 := hx.lo; have hx2 := hx.lt; have hx3 := hx.hi; have hE2 := HEU.out.2
    dsimp only at hx1 hx2 hx3
    have HSK := Lib.hid (slk_of HNL.out (x := (fr, tt)) hx1 (by show tt ≤ _; omega) hx2)
    have SLC := Lib.hid (slack_at hB.low HD.out fr tt ⟨hx1, by omega, hx2⟩)
    have HHC := Lib.hid (fun V1 (hb : Below V.heap.size V V1) => held_at (hB.below hb) HB.out fr)
    have HOI := Lib.hid hOI
    have HBm := Lib.hid hB
    have HR := Lib.hid hr
    have HLY := Lib.hid hly
    have k2 := hB.bl.cell
    obtain ⟨s, hs⟩ : ∃ s, slS l fr tt = s := ⟨_, rfl⟩
    dsimp only at HSK
    rw [hs] at SLC HSK
    obtain ⟨hv, hhv⟩ : ∃ hv, heldA L fr = hv := ⟨_, rfl⟩
    rw [hhv] at HHC
    have HHV := Lib.hid hhv
    clear hx1 hx2 hx3 hE2 hB hOI hr hly hs hhv HTL
    have PDL := Lib.hid (fun v => qdeadlines_any a n c fr tt v)
    have hcs : s = none ∨ (∃ v, s = some v ∧ hv ≤ v) ∨ ∃ v, s = some v ∧ v < hv := by
      cases s with
      | none => exact .inl rfl
      | some v =>
        rcases Int.lt_or_le v hv with q | q
        · exact .inr (.inr ⟨v, rfl, q⟩)
        · exact .inr (.inl ⟨v, rfl, q⟩)
    rcases hcs with rfl | ⟨s, rfl, hge⟩ | ⟨s, rfl, hls⟩
    rotate_left 1
    · clear PDL
      gi_wp2_with (first
        | ((refine And.intro (a := (Fence.wide.inRound y).fn 25) trivial ?_); gi_at_call 25; (refine (CallsIn.inRound y (callsIn_wide.2 SLC.out)).mono ?_); rintro e W1 ⟨rfl, b1⟩; have HB1 := Lib.hid b1; have k9 := (HBm.out.below b1).bh.cell; clear b1)
        | ((refine And.intro (a := (Fence.wide.inRound y).fn 40) trivial ?_); gi_at_call 40; (refine (CallsIn.inRound y (callsIn_wide.2 (HHC.out _ HB1.out))).mono ?_); rintro e WZ ⟨rfl, bz⟩; have HBZ := Lib.hid (below_up HB1.out bz); clear bz))
      exact ⟨kf_below HBZ.out, kpN_below HBZ.out, outI_snoc HOI.out HBZ.out (clean_slack hx HSK.out (by show heldA L fr ≤ s; rw [HHV.out]; exact hge))⟩
    case' inr.inr => gi_wp2_with (first
        | ((refine And.intro (a := (Fence.wide.inRound y).fn 25) trivial ?_); gi_at_call 25; (refine (CallsIn.inRound y (callsIn_wide.2 SLC.out)).mono ?_); rintro e W1 ⟨rfl, b1⟩; have HB1 := Lib.hid b1; have k9 := (HBm.out.below b1).bh.cell; clear b1)
        | ((refine And.intro (a := (Fence.wide.inRound y).fn 40) trivial ?_); gi_at_call 40; (refine (CallsIn.inRound y (callsIn_wide.2 (HHC.out _ HB1.out))).mono ?_); rintro e WZ ⟨rfl, bz⟩; have HBZ := Lib.hid (below_up HB1.out bz); have k2' := (HBm.out.below HBZ.out).bl.cell; clear bz)
        | ((refine And.intro (a := (Fence.wide.inRound y).fn 26) trivial ?_); gi_at_call 26; (refine (CallsIn.inRound y (callsIn_wide.2 (PDL.out _))).mono ?_); rintro e w8 ⟨rfl, rfl⟩))
    case' inl =>
     gi_wp2_with ((refine And.intro (a := (Fence.wide.inRound y).fn 25) trivial ?_); gi_at_call 25; (refine (CallsIn.inRound y (callsIn_wide.2 SLC.out)).mono ?_); rintro e WZ ⟨rfl, b1⟩; have HBZ := Lib.hid b1; have k9 := (HBm.out.below b1).bh.cell; have k2' := (HBm.out.below b1).bl.cell; clear b1)
     refine ⟨fun _ h => (by cases h), ?_⟩
     gi_wp2_with ((refine And.intro (a := (Fence.wide.inRound y).fn 26) trivial ?_); gi_at_call 26; (refine (CallsIn.inRound y (callsIn_wide.2 (PDL.out _))).mono ?_); rintro e w8 ⟨rfl, rfl⟩)
    all_goals
      have hDC := dc_at HBm.out HBZ.out HD.out fr tt
      have hb3 : Below V.heap.size V (((WZ.alloc (.cells #[.slice a n c] 25)).alloc (.cells #[.int .i64 fr] 2)).alloc (.cells #[.int .i64 tt] 2)) := below_up HBZ.out (by repeat (first | exact Below.refl _ _ | (with_reducible assumption) | refine bw_alloc ?_ _ | refine bw_drew ?_))
      have hr3 : (((WZ.alloc (.cells #[.slice a n c] 25)).alloc (.cells #[.int .i64 fr] 2)).alloc (.cells #[.int .i64 tt] 2)).heap[y]? = some (.loop r) := kept_obj hb3 HR.out
      clear PDL SLC HHC HBZ
      generalize (((WZ.alloc (.cells #[.slice a n c] 25)).alloc (.cells #[.int .i64 fr] 2)).alloc (.cells #[.int .i64 tt] 2)) = W3 at *
      generalize WZ.heap.size = D2 at *
      have HQS : Hid (∀ n1, 1 ≤ n1 → SeqStopsK Fence.wide n1 Try.prog 47 #[.pointer (some ⟨D2, 0, none⟩), .pointer (some ⟨D2 + 1, 0, none⟩), .pointer (some ⟨D2 + 2, 0, none⟩)] (fun x : DlQ l fr tt => #[.int .i64 x.1]) (KpN (NM G))
          (fun ys => ∃ u, DCh l fr tt (ys.map (·.1)) u ∧ ∀ t, nextA l u = some t → tt ≤ t) (fun ys => ∃ u, DCh l fr tt (ys.map (·.1)) u) 2000000 W3) := fun n1 h1 =>
        qdead_stops _ rfl n1 h1 l n c HNL.out.okL fr tt ⟨HX.out.lo, by have h1 := HX.out.hi; have h2 := HEU.out.2; dsimp only at h1; omega⟩ HX.out.lt a D2 (D2 + 1) (D2 + 2) (NM G) W3 hDC
      have HB3 := Lib.hid hb3
      have HR3 := Lib.hid hr3
      clear hDC hb3 hr3 k2 k2' k9
      apply range_inner (n := 6) HR3.out (by decide) (gf := 47) (lb := #[.pointer (some ⟨D2, 0, none⟩), .pointer (some ⟨D2 + 1, 0, none⟩), .pointer (some ⟨D2 + 2, 0, none⟩)]) rfl (fun _ _ => MuLone.run_callFunc_enter Try.func47 (by kernel_rfl) rfl _ _)
        (HQS.out _ (by decide)) kpN_t kpN_b (fun _ => kpN_below (Below.refl _ _)) (fun _ => rfl)
        (InI l L fr tt V) (InX w G a n c a2 n2 c2 l L fr tt W8.heap.size V) (inI_own HB3.out.size) (inX_own (Nat.le_trans HBm.out.low.size HB3.out.size) HB3.out.size) (inI_nil HB3.out)
      case hassign =>
        intro y2 x2 V2 K hK
        gi_wp2
        exact hK
      case hbody =>
        rintro y2 pre2 ⟨t, ht⟩ V2 hII hlt2
        dsimp only
        have hb2 := hII.2
        have ht0 : 0 ≤ t ∧ t ≤ 1048577 := by have h1 := ht.2.1; have h2 := ht.2.2; have h3 := HX.out.lo; have h4 := HX.out.hi; have h5 := HEU.out.2; dsimp only at h3 h4; omega
        have hdu := due_under HNL.out ht0.1 ht0.2
        have hh0 := held_nonneg L t
        have hh1 := held_top HB.out.nice t
        have DUC := Lib.hid (due_at (below_up HBm.out.low hb2) HD.out HNL.out t ht0.1 ht0.2)
        have HHC := Lib.hid (fun V1 (hb : Below V2.heap.size V2 V1) => held_at (HBm.out.below (below_up hb2 hb)) HB.out t)
        have HLF : Hid (leftA l L t = t - dueA l t - heldA L t) := rfl
        have k2 := (HBm.out.below hb2).bl.cell
        have HII := Lib.hid hII
        obtain ⟨d, hd⟩ : ∃ d, dueA l t = d := ⟨_, rfl⟩
        obtain ⟨h', hh'⟩ : ∃ h', heldA L t = h' := ⟨_, rfl⟩
        rw [hd] at hdu DUC HLF
        rw [hh'] at hh0 hh1 HHC HLF
        have e1 : IntKind.i64.wrap (d + h') = d + h' := IntWalk.i64_in _ (by omega)
        clear ht0 hdu hh0 hh1 hd hh' hII hb2
        by_cases hq : t < d + h'
        · have HBAD : Hid (leftA l L t < 0) := by show _ < _; rw [HLF.out]; omega
          clear HLF
          gi_wp2_with (first
            | ((refine And.intro (a := ((Fence.wide.inRound y).inRound y2).fn 27) trivial ?_); gi_at_call 27; (refine (CallsIn.inRound y2 (CallsIn.inRound y (callsIn_wide.2 DUC.out))).mono ?_); rintro e W4 ⟨rfl, b4⟩; have HB4 := Lib.hid b4; have k9 := (HBm.out.below (below_up HII.out.2 b4)).bh.cell; clear b4)
            | ((refine And.intro (a := ((Fence.wide.inRound y).inRound y2).fn 40) trivial ?_); gi_at_call 40; (refine (CallsIn.inRound y2 (CallsIn.inRound y (callsIn_wide.2 (HHC.out _ HB4.out)))).mono ?_); rintro e W5 ⟨rfl, b5⟩; have HB5 := Lib.hid (below_up HB4.out b5); have g2 := (HBm.out.below (below_up HII.out.2 HB5.out)).ms.free; have g3 := (HBm.out.below (below_up HII.out.2 HB5.out)).fd.free; have g4 := (HBm.out.below (below_up HII.out.2 HB5.out)).ms.cell; have g5 := (HBm.out.below (below_up HII.out.2 HB5.out)).fd.cell; clear b5))
          exact ⟨(kf_below HB5.out).trans (kf_two _ _ _ _ _), inX_put HII.out HBm.out HB5.out HBAD.out⟩
        · have HGOOD : Hid (0 ≤ leftA l L t) := by show _ ≤ _; rw [HLF.out]; omega
          clear HLF
          gi_wp2_with (first
            | ((refine And.intro (a := ((Fence.wide.inRound y).inRound y2).fn 27) trivial ?_); gi_at_call 27; (refine (CallsIn.inRound y2 (CallsIn.inRound y (callsIn_wide.2 DUC.out))).mono ?_); rintro e W4 ⟨rfl, b4⟩; have HB4 := Lib.hid b4; have k9 := (HBm.out.below (below_up HII.out.2 b4)).bh.cell; clear b4)
            | ((refine And.intro (a := ((Fence.wide.inRound y).inRound y2).fn 40) trivial ?_); gi_at_call 40; (refine (CallsIn.inRound y2 (CallsIn.inRound y (callsIn_wide.2 (HHC.out _ HB4.out)))).mono ?_); rintro e W5 ⟨rfl, b5⟩; have HB5 := Lib.hid (below_up HB4.out b5); clear b5))
          exact ⟨kf_below HB5.out, kpN_below HB5.out, inI_snoc HII.out HB5.out HGOOD.out⟩
      case hdone =>
        rintro xs2 V2 ⟨u, h1, h2⟩ hII
        have HCC := Lib.hid (inI_clean HNL.out.ok hII h1 h2)
        have HB2 := Lib.hid hII.2
        gi_wp2
        exact ⟨kf_below HB2.out, kpN_below HB2.out, outI_snoc HOI.out HB2.out HCC.out⟩
      case hstop =>
        rintro k pre2 V2 ⟨u, h1⟩ hIX
        obtain ⟨rfl, e1, e2⟩ := inX_out (hx := hx) HNL.out.ok hIX h1 HOI.out
        have E1 := Lib.hid e1
        have E2 := Lib.hid e2
        clear e1 e2 hIX h1
        gi_wp2
        exact ⟨E1.out, E2.out⟩
  case hdone =>
    rintro Dd xs V hDd ⟨u, h1, h2⟩ hOI hK
    obtain ⟨e1, hB⟩ := out_none HNL.out.ok HEE.out hOI h1 h2
    have HR : Hid (res = none) := by rw [HRES.out] at e1; exact e1
    have HBo := Lib.hid hB
    have HKD := Lib.hid hK
    have k1 := hB.ms.cell
    have k2 := hB.fd.cell
    clear HTL hB e1 h1 h2 hK hOI
    gi_wp2
    go_upto_region 18 with fail
    refine only_on ?_
    go_region_with fail
    all_goals
      go_wp2
    all_goals
      have hds := HSZ.out
      have hdw := HDW.out
      rw [Exit.noGoto_ret]
      refine ⟨by simp, .inl ⟨_, _, rfl, run_takeDeferred (show V.drew.heap[Dd]? = some (.deferred (some [])) from HKD.out), ?_⟩⟩
      exact ⟨_, results_tmp2 rfl _ _ _, by rw [HR.out]; rfl, (HBo.out.low.drew).trans (belowK_b (w := w) (Nat.le_refl _) V.drew Dd _ _ (by omega) HKD.out rfl rfl)⟩
  case hstop =>
    rintro Dd k pre V hDd ⟨u, h1⟩ hOX hK
    obtain ⟨rfl, y, e1, hB⟩ := out_some HNL.out.ok HEE.out hOX h1
    have HR : Hid (res = some y) := by rw [HRES.out] at e1; exact e1
    have HBo := Lib.hid hB
    have HKD := Lib.hid hK
    have k1 := hB.ms.cell
    have k2 := hB.fd.cell
    clear HTL hB e1 h1 hK hOX
    gi_wp2
    go_upto_region 18 with fail
    refine only_on ?_
    go_region_with fail
    all_goals
      go_wp2
    all_goals
      have hds := HSZ.out
      have hdw := HDW.out
      rw [Exit.noGoto_ret]
      refine ⟨by simp, .inl ⟨_, _, rfl, run_takeDeferred (show V.drew.heap[Dd]? = some (.deferred (some [])) from HKD.out), ?_⟩⟩
      exact ⟨_, results_tmp2 rfl _ _ _, by rw [HR.out]; rfl, (HBo.out.low.drew).trans (belowK_b (w := w) (Nat.le_refl _) V.drew Dd _ _ (by omega) HKD.out rfl rfl)⟩
end Go.Proofs.Ytljigfedmjlfgaa

/-
  The walks over the test, and over how much more could be held.
-/
namespace Go.Proofs.Ytljigfedmjlfgaa
open Go.RowKit Go.Maps Go.Shelf
attribute [local go_sem] Oper.semAt_some

set_option maxRecDepth 100000 in
set_option maxHeartbeats 4000000 in
theorem qtest_any {w : World} {a : Option Addr} {n c : Nat} {l : List Dm} (h : Dems w a n c l) (hl : Nice l) {a2 : Option Addr} {n2 c2 : Nat} {L : List Bk} (h2 : Blks w a2 n2 c2 L) : Calls Try.prog 11 #[.slice a n c, .slice a2 n2 c2] w fun e w' => e = .returned (.int .i64 (tsS l L)) ∧ Below w.heap.size w w' := by
  have RC := Lib.hid (fun v (hb : Below w.heap.size w v) => pright_any (h2.below hb))
  have LC := Lib.hid (fun v (hb : Below w.heap.size w v) => pload_any (h.below hb))
  have MC := Lib.hid (fun v (hb : Below w.heap.size w v) => qmiss_any (h.below hb) hl (h2.below hb))
  rw [(load_nice hl).1] at LC
  obtain ⟨ld, hld⟩ : ∃ ld, loadN l (perS l).1 l.length = ld := ⟨_, rfl⟩
  obtain ⟨p, hp⟩ : ∃ p, (perS l).1 = p := ⟨_, rfl⟩
  have HF := Lib.hid (fits_iff (L := L) hl.ok)
  rw [hld, hp] at HF LC
  obtain ⟨m, hm⟩ : ∃ m, msS l L = m := ⟨_, rfl⟩
  rw [hm] at HF MC
  clear hld hp hm h h2 hl
  by_cases hq : p < ld
  · have HR : Hid (tsS l L = 17) := ts_no (fun z => by have := (HF.out.1 z).1; omega)
    clear MC HF
    go_enter Try.func11, Try.ntmps11
    go_wp2_with (first
      | (go_at_call 19; (with_reducible refine (RC.out _ (by repeat (first | exact Below.refl _ _ | (with_reducible assumption) | refine bw_alloc ?_ _ | refine bw_drew ?_))).mono ?_); rintro e w1 ⟨rfl, b1⟩; have HB1 := Lib.hid b1; clear b1)
      | (go_at_call 20; (with_reducible refine (LC.out _ HB1.out).mono ?_); rintro e w2 ⟨rfl, b2⟩; have HB2 := Lib.hid (below_up HB1.out b2); clear b2))
    go_ret
    exact ⟨by rw [HR.out]; rfl, HB2.out⟩
  · cases m with
    | none =>
      have HR : Hid (tsS l L = 0) := ts_yes (HF.out.2 ⟨by omega, rfl⟩)
      clear HF
      go_enter Try.func11, Try.ntmps11
      go_wp2_with (first
        | (go_at_call 19; (with_reducible refine (RC.out _ (by repeat (first | exact Below.refl _ _ | (with_reducible assumption) | refine bw_alloc ?_ _ | refine bw_drew ?_))).mono ?_); rintro e w1 ⟨rfl, b1⟩; have HB1 := Lib.hid b1; clear b1)
        | (go_at_call 20; (with_reducible refine (LC.out _ HB1.out).mono ?_); rintro e w2 ⟨rfl, b2⟩; have HB2 := Lib.hid (below_up HB1.out b2); clear b2)
        | (go_at_call 14; (with_reducible refine (MC.out _ HB2.out).mono ?_); rintro e w3 ⟨rfl, b3⟩; have HB3 := Lib.hid (below_up HB2.out b3); clear b3))
      go_ret
      exact ⟨by rw [HR.out]; rfl, HB3.out⟩
    | some y =>
      have HR : Hid (tsS l L = 17) := ts_no (fun z => by have := (HF.out.1 z).2; cases this)
      clear HF
      go_enter Try.func11, Try.ntmps11
      go_wp2_with (first
        | (go_at_call 19; (with_reducible refine (RC.out _ (by repeat (first | exact Below.refl _ _ | (with_reducible assumption) | refine bw_alloc ?_ _ | refine bw_drew ?_))).mono ?_); rintro e w1 ⟨rfl, b1⟩; have HB1 := Lib.hid b1; clear b1)
        | (go_at_call 20; (with_reducible refine (LC.out _ HB1.out).mono ?_); rintro e w2 ⟨rfl, b2⟩; have HB2 := Lib.hid (below_up HB1.out b2); clear b2)
        | (go_at_call 14; (with_reducible refine (MC.out _ HB2.out).mono ?_); rintro e w3 ⟨rfl, b3⟩; have HB3 := Lib.hid (below_up HB2.out b3); clear b3))
      go_ret
      exact ⟨by rw [HR.out]; rfl, HB3.out⟩

/-- How much is left so far. -/
def RmI (w : World) (G : Nat) (a : Option Addr) (n c : Nat) (a2 : Option Addr) (n2 c2 : Nat) (l : List Dm) (L : List Bk) (E : Int) (pre : List (CutP L E)) (V : World) : Prop := ∃ b : Option Int, RoomP l L (pre.map (·.1)) b ∧ (∀ v, b = some v → -10000000 ≤ v ∧ v ≤ 10000000) ∧ MsB w G a n c a2 n2 c2 (b.getD 0) b.isSome V
theorem rmI_own {w : World} {G : Nat} {a : Option Addr} {n c : Nat} {a2 : Option Addr} {n2 c2 : Nat} {l : List Dm} {L : List Bk} {E : Int} {D : Nat} (hD : w.heap.size ≤ D) : OwnFrom D (RmI w G a n c a2 n2 c2 l L E) :=
  fun _ _ _ _ ⟨b, e1, e0, e2⟩ hg hr => ⟨b, e1, e0, e2.own hD hg hr⟩
theorem rmI_nil {w V : World} {G : Nat} {a : Option Addr} {n c : Nat} {a2 : Option Addr} {n2 c2 : Nat} {l : List Dm} {L : List Bk} {E : Int} (h : MsB w G a n c a2 n2 c2 0 false V) : RmI w G a n c a2 n2 c2 l L E [] V := ⟨none, room_nil, fun v e => by (cases e), h⟩

set_option maxRecDepth 100000 in
set_option maxHeartbeats 16000000 in
theorem qroom_any {w : World} {a : Option Addr} {n c : Nat} {l : List Dm} (h : Dems w a n c l) (hl : Nice l) {a2 : Option Addr} {n2 c2 : Nat} {L : List Bk} (h2 : Blks w a2 n2 c2 L) : Calls Try.prog 18 #[.slice a n c, .slice a2 n2 c2] w fun e w' => e = .returned (.tuple #[.int .i64 ((rmS l L).getD 0), .bool (rmS l L).isSome]) ∧ Below w.heap.size w w' := by
  have HD := Lib.hid h
  have HB := Lib.hid h2
  have HNL := Lib.hid hl
  have PC := Lib.hid (fun v (hb : Below w.heap.size w v) => pperiod_any (h.below hb))
  have TC := Lib.hid (fun v (hb : Below w.heap.size w v) => qtest_any (h.below hb) hl (h2.below hb))
  have PHC := Lib.hid (fun v => pholder_any a2 n2 c2 v)
  have EC := Lib.hid (fun v (hb : Below w.heap.size w v) => pend_any (h2.below hb) (perS l).1)
  have SC := Lib.hid (fun E v => pstretches_any a2 n2 c2 E v)
  have HE1 := Lib.hid (max_end l L)
  rw [HE1.out] at EC
  have HEU := Lib.hid (end_under hl h2.nice)
  have hp2 := hl.per.1
  rw [hp2] at PC
  obtain ⟨p, hp⟩ : ∃ p, (perS l).1 = p := ⟨_, rfl⟩
  rw [hp] at PC EC
  obtain ⟨E, hE⟩ : ∃ E, endA l L = E := ⟨_, rfl⟩
  rw [hE] at EC HEU
  have HEE := Lib.hid hE
  obtain ⟨res, hres⟩ : ∃ res, rmS l L = res := ⟨_, rfl⟩
  have HRES := Lib.hid hres
  rw [hres]
  clear hp hp2 hE hres h h2 hl
  rcases ts_or l L with ⟨ht, hf⟩ | ⟨ht, hf⟩
  rotate_left 1
  · have HR : Hid (res = none) := by have := rm_none (l := l) (L := L) (.inl hf); rw [HRES.out] at this; exact this
    rw [ht] at TC
    clear EC SC PHC hf ht
    go_enter Try.func18, Try.ntmps18
    go_upto_region 1 with fail
    refine gen_world (fun v => Below w.heap.size w v ∧ Bx v w.heap.size 25 (.slice a n c)) ⟨(by repeat (first | exact Below.refl _ _ | (with_reducible assumption) | refine bw_alloc ?_ _ | refine bw_drew ?_)), heap_alloc_new w _⟩ ?_
    intro V ⟨hb, hr0⟩
    have HBV := Lib.hid hb
    have HR0 := Lib.hid hr0
    have k0 := hr0.cell
    clear hb hr0
    go_wp2_with (first
      | (go_at_call 34; (with_reducible refine (PC.out _ HBV.out).mono ?_); rintro e w1 ⟨rfl, b1⟩; have HB1 := Lib.hid (below_up HBV.out b1); have k1 := Bx.cell (kept_obj b1 HR0.out); clear b1)
      | (go_at_call 11; (with_reducible refine (TC.out _ HB1.out).mono ?_); rintro e w2 ⟨rfl, b2⟩; have HB2 := Lib.hid (below_up HB1.out b2); clear b2))
    go_ret2
    exact ⟨by rw [HR.out]; rfl, HB2.out⟩
  rw [ht] at TC
  have HFIT := Lib.hid hf
  clear ht hf
  refine (callsIn_wide (n := 8)).1 ?_
  refine callsIn_of_wp_marks Try.func18 rfl trivial ?_ rfl
  simp only [Try.ntmps18, List.size_toArray, List.length_cons, List.length_nil, Nat.reduceAdd, Nat.reduceSub, Array.replicate_succ, Array.replicate_zero, List.push_toArray, List.append_toArray, List.nil_append, List.cons_append]
  refine wpIn_wide.2 ?_
  go_upto_region 1 with fail
  refine gen_world (fun v => Below w.heap.size w v ∧ Bx v w.heap.size 25 (.slice a n c)) ⟨(by repeat (first | exact Below.refl _ _ | (with_reducible assumption) | refine bw_alloc ?_ _ | refine bw_drew ?_)), heap_alloc_new w _⟩ ?_
  intro V ⟨hb, hr0⟩
  have HBV := Lib.hid hb
  have HR0 := Lib.hid hr0
  have k0 := hr0.cell
  clear hb hr0
  go_upto_region 4 with (first
    | (go_at_call 34; (with_reducible refine (PC.out _ HBV.out).mono ?_); rintro e w1 ⟨rfl, b1⟩; have HB1 := Lib.hid (below_up HBV.out b1); have HR1 : Hid (Bx w1 w.heap.size 25 (.slice a n c)) := kept_obj b1 HR0.out; have k1 := HR1.out.cell; clear b1)
    | (go_at_call 11; (with_reducible refine (TC.out _ HB1.out).mono ?_); rintro e w2 ⟨rfl, b2⟩; have HB2 := Lib.hid (below_up HB1.out b2); have HS0 : Hid (Bx w2 w.heap.size 25 (.slice a n c)) := kept_obj b2 HR1.out; clear b2))
  clear PC TC k0 k1 HR0 HR1
  have HLTG : Hid (w.heap.size < w2.heap.size) := lt_of_block HS0.out
  go_upto_region 6 with (go_at_call 21; (with_reducible refine (PHC.out _).mono ?_); rintro e w3 ⟨rfl, rfl⟩)
  clear PHC
  obtain ⟨q1, q2, q3, q4⟩ := box_four (V := w2) (a2 := a2) (n2 := n2) (c2 := c2) rfl
  refine gen_world (MsB w w2.heap.size a n c a2 n2 c2 0 false) ⟨below_up HB2.out (by repeat (first | exact Below.refl _ _ | (with_reducible assumption) | refine bw_alloc ?_ _ | refine bw_drew ?_)), kept_obj (by repeat (first | exact Below.refl _ _ | (with_reducible assumption) | refine bw_alloc ?_ _ | refine bw_drew ?_)) HS0.out, q1, q2, q3, q4, HLTG.out⟩ ?_
  intro V4 hv4
  have HV4 := Lib.hid hv4
  clear hv4 q1 q2 q3 q4 HB2 HS0 HLTG
  generalize w2.heap.size = G at *
  go_upto_block 0 with (first
    | (go_at_call 24; (with_reducible refine (EC.out _ HV4.out.low).mono ?_); rintro e w5 ⟨rfl, bx5⟩; have HV5 := Lib.hid (HV4.out.below bx5); clear bx5)
    | (go_at_call 23; (with_reducible refine (SC.out _ _).mono ?_); rintro e w8 ⟨rfl, rfl⟩))
  clear EC SC HV4
  have hI0 : MsB w G a n c a2 n2 c2 0 false ((w5.alloc (.cells #[.slice a2 n2 c2] 27)).alloc (.cells #[.int .i64 E] 2)) := HV5.out.below (by repeat (first | exact Below.refl _ _ | (with_reducible assumption) | refine bw_alloc ?_ _ | refine bw_drew ?_))
  have hx0 : Bx ((w5.alloc (.cells #[.slice a2 n2 c2] 27)).alloc (.cells #[.int .i64 E] 2)) w5.heap.size 27 (.slice a2 n2 c2) := kept_obj (by repeat (first | exact Below.refl _ _ | (with_reducible assumption) | refine bw_alloc ?_ _ | refine bw_drew ?_)) (heap_alloc_new w5 (.cells #[.slice a2 n2 c2] 27))
  have hx1 : Bx ((w5.alloc (.cells #[.slice a2 n2 c2] 27)).alloc (.cells #[.int .i64 E] 2)) (w5.heap.size + 1) 2 (.int .i64 E) := by
    have := heap_alloc_new (w5.alloc (.cells #[.slice a2 n2 c2] 27)) (.cells #[.int .i64 E] 2)
    rw [World.size_alloc] at this
    exact this
  have hGD : G + 1 + 1 + 1 < w5.heap.size := lt_of_block HV5.out.fd
  have hsz : ((w5.alloc (.cells #[.slice a2 n2 c2] 27)).alloc (.cells #[.int .i64 E] 2)).heap.size = w5.heap.size + 2 := by simp
  clear HV5
  generalize ((w5.alloc (.cells #[.slice a2 n2 c2] 27)).alloc (.cells #[.int .i64 E] 2)) = W8 at *
  generalize w5.heap.size = D at *
  have HTL : Hid (∀ n1, 1 ≤ n1 → SeqStopsK Fence.wide n1 Try.prog 42 #[.pointer (some ⟨D + 1, 0, none⟩), .pointer (some ⟨D, 0, none⟩)] (fun x : CutP L E => #[.int .i64 x.1.1, .int .i64 x.1.2]) (KpN (NM G))
      (fun ys => ∃ u, Cuts (ys.map (·.1)) u ∧ E < u) (fun ys => ∃ u, Cuts (ys.map (·.1)) u) 2000000 W8) := fun n1 h1 =>
    stretches_stops _ rfl n1 h1 L n2 c2 HB.out.len (by have h1 := HB.out.len; have h2 := HB.out.nice.len; omega) E HEU.out a2 (D + 1) D (NM G) W8 ⟨hx1, hx0, fun q => by unfold NM at q; omega, fun q => by unfold NM at q; omega, HB.out.view.below hI0.low, fun h0 b o i e q => by
      have := HB.out.view.off h0 b o i e
      have := hI0.lt
      unfold NM at q; omega⟩
  clear hx0 hx1
  have HI0 := Lib.hid hI0
  have HSZ := Lib.hid hsz
  have HGD := Lib.hid hGD
  clear hI0 hsz hGD
  refine (wpIn_wide (n := 8)).1 ?_
  gi_wp2
  have HDW : Hid (w.heap.size ≤ W8.heap.size) := HI0.out.low.size
  have h1n : 1 ≤ 8 - 1 - 1 := by decide
  apply range_outer (n := 8) (by omega) (gf := 42) (lb := #[.pointer (some ⟨D + 1, 0, none⟩), .pointer (some ⟨D, 0, none⟩)]) rfl (fun _ _ => MuLone.run_callFunc_enter Try.func42 (by kernel_rfl) rfl _ _)
    (HTL.out _ (by omega)) kpN_t kpN_b (fun _ => kpN_below (Below.refl _ _)) (fun _ => rfl)
    (RmI w G a n c a2 n2 c2 l L E) (fun _ _ _ => False) (rmI_own HDW.out) (fun _ _ _ _ _ hs _ _ => hs) (rmI_nil HI0.out)
  case hassign =>
    intro y x V K hK
    gi_wp2
    exact hK
  case hbody =>
    rintro y pre ⟨⟨fr, tt⟩, hx⟩ V hly ⟨r, hr⟩ ⟨b, hRm, hbd, hB⟩ hlt
    dsimp only
    have hx1 := hx.lo; have hx2 := hx.lt; have hx3 := hx.hi; have hE2 := HEU.out.2
    dsimp only at hx1 hx2 hx3
    have HSK := Lib.hid (slk_of HNL.out (x := (fr, tt)) hx1 (by show tt ≤ _; omega) hx2)
    have HSM := Lib.hid (fun s e => slack_small HNL.out (x := (fr, tt)) hx1 (by show tt ≤ _; omega) hx2 (s := s) e)
    have SLC := Lib.hid (slack_at hB.low HD.out fr tt ⟨hx1, by omega, hx2⟩)
    have HHC := Lib.hid (fun V1 (hb : Below V.heap.size V V1) => held_at (hB.below hb) HB.out fr)
    have hh0 := held_nonneg L fr
    have hh1 := held_top HB.out.nice fr
    have HBm := Lib.hid hB
    have HRm := Lib.hid hRm
    have HBD := Lib.hid hbd
    have k2 := hB.bl.cell
    obtain ⟨s, hs⟩ : ∃ s, slS l fr tt = s := ⟨_, rfl⟩
    dsimp only at HSK HSM
    rw [hs] at SLC HSK HSM
    obtain ⟨hv, hhv⟩ : ∃ hv, heldA L fr = hv := ⟨_, rfl⟩
    rw [hhv] at HHC hh0 hh1
    have HHV := Lib.hid hhv
    clear hx1 hx2 hx3 hE2 hB hRm hbd hr hly hs hhv HTL
    cases s with
    | none =>
      have ew : IntKind.i64.wrap (0 - hv) = 0 - hv := IntWalk.i64_in _ (by omega)
      have HN : Hid (RoomP l L ((pre ++ [(⟨(fr, tt), hx⟩ : CutP L E)]).map (·.1)) b) := by show RoomP _ _ _ _; rw [List.map_append, List.map_singleton]; exact room_same HRm.out HSK.out
      gi_wp2_with (first
        | ((refine And.intro (a := (Fence.wide.inRound y).fn 25) trivial ?_); gi_at_call 25; (refine (CallsIn.inRound y (callsIn_wide.2 SLC.out)).mono ?_); rintro e W1 ⟨rfl, b1⟩; have HB1 := Lib.hid b1; have k9 := (HBm.out.below b1).bh.cell; clear b1)
        | ((refine And.intro (a := (Fence.wide.inRound y).fn 40) trivial ?_); gi_at_call 40; (refine (CallsIn.inRound y (callsIn_wide.2 (HHC.out _ HB1.out))).mono ?_); rintro e WZ ⟨rfl, bz⟩; have HBZ := Lib.hid (below_up HB1.out bz); have g2 := (HBm.out.below HBZ.out).ms.cell; have g3 := (HBm.out.below HBZ.out).fd.cell; clear bz))
      exact ⟨kf_below HBZ.out, kpN_below HBZ.out, b, HN.out, HBD.out, HBm.out.below HBZ.out⟩
    | some s =>
      have hsm := HSM.out s rfl
      have ew : IntKind.i64.wrap (s - hv) = s - hv := IntWalk.i64_in _ (by omega)
      have hvb : -10000000 ≤ s - hv ∧ s - hv ≤ 10000000 := by omega
      have HVB := Lib.hid hvb
      obtain ⟨rm, hrm⟩ : ∃ rm, s - hv = rm := ⟨_, rfl⟩
      rw [hrm] at HVB
      replace ew : IntKind.i64.wrap (s - hv) = rm := by rw [ew, hrm]
      have HRMV := Lib.hid hrm
      have HK1 : Hid (∀ V1, KeepsFrom W8.heap.size V1 ((V1.setCell ⟨G + 1 + 1, 0, none⟩ (.int .i64 rm)).setCell ⟨G + 1 + 1 + 1, 0, none⟩ (.bool true)) ∧ KpN (NM G) V1 ((V1.setCell ⟨G + 1 + 1, 0, none⟩ (.int .i64 rm)).setCell ⟨G + 1 + 1 + 1, 0, none⟩ (.bool true))) := fun V1 => ⟨kf_two _ _ _ _ _, kp_two _ _ _⟩
      have HLESS : Hid ((∀ n, b = some n → rm ≤ n) → RoomP l L ((pre ++ [(⟨(fr, tt), hx⟩ : CutP L E)]).map (·.1)) (some rm)) := fun hle => by
        rw [List.map_append, List.map_singleton]
        have := room_less (b := b) hx HRm.out HSK.out (by dsimp only; rw [HHV.out, HRMV.out]; exact hle)
        dsimp only at this
        rw [HHV.out, HRMV.out] at this
        exact this
      have HKEEP : Hid (∀ n, b = some n → n ≤ rm → RoomP l L ((pre ++ [(⟨(fr, tt), hx⟩ : CutP L E)]).map (·.1)) (some n)) := fun n e hle => by
        rw [List.map_append, List.map_singleton]
        subst e
        exact room_keep hx HRm.out HSK.out (by dsimp only; rw [HHV.out, HRMV.out]; exact hle)
      clear hsm hvb hrm hh0 hh1 HSM
      have hcs : (b = none ∨ ∃ v, b = some v ∧ rm < v) ∨ ∃ v, b = some v ∧ ¬ rm < v := by
        cases b with
        | none => exact .inl (.inl rfl)
        | some v =>
          by_cases q : rm < v
          · exact .inl (.inr ⟨v, rfl, q⟩)
          · exact .inr ⟨v, rfl, q⟩
      rcases hcs with (rfl | ⟨v, rfl, hlv⟩) | ⟨v, rfl, hlv⟩
      rotate_left 2
      · have HN := Lib.hid (HKEEP.out v rfl (by omega))
        clear HKEEP HLESS
        gi_wp2_with (first
          | ((refine And.intro (a := (Fence.wide.inRound y).fn 25) trivial ?_); gi_at_call 25; (refine (CallsIn.inRound y (callsIn_wide.2 SLC.out)).mono ?_); rintro e W1 ⟨rfl, b1⟩; have HB1 := Lib.hid b1; have k9 := (HBm.out.below b1).bh.cell; clear b1)
          | ((refine And.intro (a := (Fence.wide.inRound y).fn 40) trivial ?_); gi_at_call 40; (refine (CallsIn.inRound y (callsIn_wide.2 (HHC.out _ HB1.out))).mono ?_); rintro e WZ ⟨rfl, bz⟩; have HBZ := Lib.hid (below_up HB1.out bz); have g2 := (HBm.out.below HBZ.out).ms.cell; have g3 := (HBm.out.below HBZ.out).fd.cell; clear bz))
        exact ⟨kf_below HBZ.out, kpN_below HBZ.out, some v, HN.out, HBD.out, HBm.out.below HBZ.out⟩
      · have HN := Lib.hid (HLESS.out (fun n e => by cases e))
        clear HKEEP HLESS
        gi_wp2_with (first
          | ((refine And.intro (a := (Fence.wide.inRound y).fn 25) trivial ?_); gi_at_call 25; (refine (CallsIn.inRound y (callsIn_wide.2 SLC.out)).mono ?_); rintro e W1 ⟨rfl, b1⟩; have HB1 := Lib.hid b1; have k9 := (HBm.out.below b1).bh.cell; clear b1)
          | ((refine And.intro (a := (Fence.wide.inRound y).fn 40) trivial ?_); gi_at_call 40; (refine (CallsIn.inRound y (callsIn_wide.2 (HHC.out _ HB1.out))).mono ?_); rintro e WZ ⟨rfl, bz⟩; have HBZ := Lib.hid (below_up HB1.out bz); have g2 := (HBm.out.below HBZ.out).ms.cell; have g3 := (HBm.out.below HBZ.out).fd.cell; have g4 := (HBm.out.below HBZ.out).ms.free; have g5 := (HBm.out.below HBZ.out).fd.free; clear bz))
        exact ⟨(kf_below HBZ.out).trans (HK1.out _).1, kpN_t (kpN_below HBZ.out) (HK1.out _).2, some rm, HN.out, fun v e => by cases e; exact HVB.out, (HBm.out.below HBZ.out).put rm⟩
      · have HN := Lib.hid (HLESS.out (fun n e => by cases e; omega))
        clear HKEEP HLESS
        gi_wp2_with (first
          | ((refine And.intro (a := (Fence.wide.inRound y).fn 25) trivial ?_); gi_at_call 25; (refine (CallsIn.inRound y (callsIn_wide.2 SLC.out)).mono ?_); rintro e W1 ⟨rfl, b1⟩; have HB1 := Lib.hid b1; have k9 := (HBm.out.below b1).bh.cell; clear b1)
          | ((refine And.intro (a := (Fence.wide.inRound y).fn 40) trivial ?_); gi_at_call 40; (refine (CallsIn.inRound y (callsIn_wide.2 (HHC.out _ HB1.out))).mono ?_); rintro e WZ ⟨rfl, bz⟩; have HBZ := Lib.hid (below_up HB1.out bz); have g2 := (HBm.out.below HBZ.out).ms.cell; have g3 := (HBm.out.below HBZ.out).fd.cell; have g4 := (HBm.out.below HBZ.out).ms.free; have g5 := (HBm.out.below HBZ.out).fd.free; clear bz))
        exact ⟨(kf_below HBZ.out).trans (HK1.out _).1, kpN_t (kpN_below HBZ.out) (HK1.out _).2, some rm, HN.out, fun v e => by cases e; exact HVB.out, (HBm.out.below HBZ.out).put rm⟩
  case hdone =>
    rintro Dd xs V hDd ⟨u, h1, h2⟩ ⟨b, hRm, hbd, hB⟩ hK
    have HR : Hid (res = b) := by
      have := room_ends HNL.out.ok h1 (by rw [HEE.out]; exact h2) (fun x hx => by obtain ⟨z, hz, rfl⟩ := List.mem_map.1 hx; rw [HEE.out]; exact z.2.hi) HFIT.out hRm
      rw [HRES.out] at this; exact this
    have HBo := Lib.hid hB
    have HKD := Lib.hid hK
    have k1 := hB.ms.cell
    have k2 := hB.fd.cell
    clear HTL hB hRm hbd h1 h2 hK
    gi_wp2
    go_upto_region 13 with fail
    refine only_on ?_
    go_region_with fail
    all_goals
      go_wp2
    all_goals
      have hds := HSZ.out
      have hdw := HDW.out
      refine ⟨by simp, .inl ⟨_, _, rfl, run_takeDeferred (show V.drew.heap[Dd]? = some (.deferred (some [])) from HKD.out), ?_⟩⟩
      exact ⟨_, results_tmp2 rfl _ _ _, by rw [HR.out]; try rfl, (HBo.out.low.drew).trans (belowK_b (w := w) (Nat.le_refl _) V.drew Dd _ _ (by omega) HKD.out rfl rfl)⟩
  case hstop =>
    rintro Dd k pre V hDd hS hOX hK
    exact hOX.elim
end Go.Proofs.Ytljigfedmjlfgaa

/-
  The walks over rows put together, and over whether all is done in time with more too.
-/
namespace Go.Proofs.Ytljigfedmjlfgaa
open Go.RowKit Go.Maps Go.Shelf

/-- A new row with room. -/
structure GrewTo (w : World) (k : Nat) (e : Ending) (w' : World) : Prop where
  low : Below w.heap.size w w'
  got : ∃ c, e = .returned (.slice (some ⟨w.heap.size, 0, none⟩) 0 c) ∧ k ≤ c ∧ OwnG w' w.heap.size (.slice (some ⟨w.heap.size, 0, none⟩) 0 c) []
set_option maxRecDepth 100000 in
set_option maxHeartbeats 4000000 in
theorem pgrow_any (k : Nat) (h0 : 1 ≤ k) (h1 : k ≤ 1000) (w : World) : Calls Try.prog 41 #[.slice none 0 0, .int .i64 (k : Int)] w (GrewTo w k) := by
  obtain ⟨i0, hi, hz0, hz1, hz2⟩ := ginfoParts
  have hrz : ∀ ty, (Builtin.append_ #[25, 3] ty #[.slice none 0 0, .int .i64 (k : Int)]).run Try.prog w =
      .ok (.slice (some ⟨w.heap.size, 0, none⟩) k (grownCap w k 0 DT3)) (w.drew.alloc (.cells (#[] ++ Builtin.zeroCells (Value.agg #[.int .i64 0, .int .i64 0, .int .i64 0]).cells k ++ Builtin.zeroCells (Value.agg #[.int .i64 0, .int .i64 0, .int .i64 0]).cells (grownCap w k 0 DT3 - k)) DT3)) := fun ty => by
    have h := Lib.run_append_grow_zeros w 25 3 ty DT3 i0 _ .i64 .i64 Try.underlying25 Try.underlying3 hi hz0 none 0 0 [] (run_firstCells_none w.drew i0.size 0 0 0) k (by omega) (by rw [hz1]; omega) (by omega) (by omega) (by rw [hz2]; omega) (growslice_fits (by omega) (by rw [hz2]; omega))
    simpa using h
  have hge := grownCap_ge w k 0 DT3
  have hle := grownCap_le_maxLen w k 0 DT3 (by unfold maxLen; omega)
  obtain ⟨c, hc⟩ : ∃ c, grownCap w k 0 DT3 = c := ⟨_, rfl⟩
  rw [hc] at hrz hge hle
  obtain ⟨cs, hcs⟩ : ∃ cs, (#[] ++ Builtin.zeroCells (Value.agg #[.int .i64 0, .int .i64 0, .int .i64 0]).cells k ++ Builtin.zeroCells (Value.agg #[.int .i64 0, .int .i64 0, .int .i64 0]).cells (c - k) : Array Value) = cs := ⟨_, rfl⟩
  have hsz : cs.size = c * 3 := by
    rw [← hcs, Array.size_append, Array.size_append, size_zeroCells, size_zeroCells]
    have : (Value.agg #[.int .i64 0, .int .i64 0, .int .i64 0]).cells.size = 3 := rfl
    rw [this]
    simp
    omega
  rw [hcs] at hrz
  have HO : Hid (OwnG (w.drew.alloc (.cells cs DT3)) w.heap.size (.slice (some ⟨w.heap.size, 0, none⟩) 0 c) []) := World.ownsRow_made (e := DT3) (size := 3) (base := w.heap.size) (w := w.drew) cs c (Nat.le_refl _) hle hsz
  have HG := Lib.hid hge
  have q0 : ¬ ((k : Int) < 0) := by omega
  have q1 : (0 : Int) < (k : Int) := by omega
  have q2 : (0 : Int) ≤ (k : Int) := by omega
  have e1 : IntKind.i64.wrap (k : Int) = k := IntWalk.i64_in _ (by omega)
  have e2 : IntKind.i64.wrap ((k : Int) - 0) = k := IntWalk.i64_in _ (by omega)
  have hc9 : (c : Int) ≤ 9223372036854775807 := by unfold maxLen at hle; omega
  clear hi hz0 hz1 hz2 hc hcs hsz hle hge
  go_enter Try.func41, Try.ntmps41
  go_wp2_with (at_builtin; refine Lib.wpList_append_run _ rfl _ _ _ _ rfl _ _ rfl rfl _ _ (hrz _) ?_)
  all_goals
    go_ret
    exact ⟨(by repeat (first | exact Below.refl _ _ | (with_reducible assumption) | refine bw_alloc ?_ _ | refine bw_drew ?_)), c, rfl, HG.out, HO.out⟩

/-- Both, in a row of its own. -/
structure Both1 (w : World) (n : Nat) (M : List Dm) (e : Ending) (w' : World) : Prop where
  low : Below w.heap.size w w'
  got : ∃ a c, e = .returned (.slice a n c) ∧ OwnG w' w.heap.size (.slice a n c) M
set_option maxRecDepth 100000 in
set_option maxHeartbeats 8000000 in
theorem pconcat_any {w : World} (a : Option Addr) (n c : Nat) (l : List Dm) (hl : l.length = n) (hn : n ≤ 100) (hv : GView w a l) (b1 : Nat) (x : Dm) (hx : GView w (some ⟨b1, 0, none⟩) [x]) (g : Nat)
    (h0 : w.cell? ⟨g, 0, none⟩ = some (.slice a n c)) (h1 : w.cell? ⟨g, 1, none⟩ = some (.slice (some ⟨b1, 0, none⟩) 1 1)) :
    Calls Try.prog 22 #[.slice (some ⟨g, 0, none⟩) 2 2] w (Both1 w (n + 1) (l ++ [x])) := by
  have hnone : a = none → n = 0 := by
    intro e
    rcases hv with rfl | ⟨b, o, e', _⟩
    · exact hl.symm
    · rw [e] at e'; cases e'
  have HV := Lib.hid hv
  have HX := Lib.hid hx
  have HL := Lib.hid hl
  have HNO := Lib.hid hnone
  have H0 := Lib.hid h0
  have H1 := Lib.hid h1
  have p0 : ¬ ((n : Int) < 0) := by omega
  have p1 : ¬ ((n : Int) + 1 < 0) := by omega
  have e0 : IntKind.i64.wrap (n : Int) = n := IntWalk.i64_in _ (by omega)
  have e1 : IntKind.i64.wrap ((n : Int) + 1) = n + 1 := IntWalk.i64_in _ (by omega)
  have ec : ((n + 1 : Nat) : Int) = (n : Int) + 1 := by push_cast; rfl
  have GC : Hid (∀ v, Calls Try.prog 41 #[.slice none 0 0, .int .i64 ((n : Int) + 1)] v (GrewTo v (n + 1))) := fun v => by
    have := pgrow_any (n + 1) (by omega) (by omega) v
    rwa [ec] at this
  clear hv hx hl hnone
  go_enter Try.func22, Try.ntmps22
  go_upto_block 0 with fail
  go_cut [3] (fun s wx => s = .int .i64 ((n : Int) + 1) ∧ wx = w)
  case first =>
    go_wp2
    go_loopw [3, 11] (fun s u wr => wr = w ∧ ((u = .int .i64 0 ∧ s = .int .i64 0) ∨ (u = .int .i64 1 ∧ s = .int .i64 (n : Int)) ∨ (u = .int .i64 2 ∧ s = .int .i64 ((n : Int) + 1)))) (fun _ u _ => (2 - intOf u).toNat)
    case atStart => exact ⟨rfl, .inl ⟨rfl, rfl⟩⟩
    case round =>
      obtain ⟨rfl, hs⟩ := hrel
      rcases hs with ⟨rfl, rfl⟩ | ⟨rfl, rfl⟩ | ⟨rfl, rfl⟩
      · clear h1
        go_wp2
        go_roundw
        case rel => exact ⟨trivial, .inr (.inl ⟨by go_num, by go_num⟩)⟩
        case measure => simp [intOf]
      · clear h0
        go_wp2
        go_roundw
        case rel => exact ⟨trivial, .inr (.inr ⟨by go_num, by go_num⟩)⟩
        case measure => simp [intOf]
      · go_wp2
        go_meet
        exact ⟨rfl, rfl⟩
  case rest =>
    obtain ⟨rfl, rfl⟩ := hcut
    clear h0 h1 p0 p1 ec
    go_upto_region 10 with (go_at_call 41; (with_reducible refine (GC.out _).mono ?_); rintro e w1 ⟨hlow, k0, rfl, hk, ho⟩; have HB1 := Lib.hid hlow; have HO1 := Lib.hid ho; clear hlow ho)
    have hS1 : w1.cell? ⟨g, 0, none⟩ = some (.slice a n c) := kept_cell HB1.out H0.out
    have hS2 : w1.cell? ⟨g, 1, none⟩ = some (.slice (some ⟨b1, 0, none⟩) 1 1) := kept_cell HB1.out H1.out
    have HC1 := Lib.hid (fun v (hb : Below wc.heap.size wc v) => And.intro (kept_cell hb H0.out) (kept_cell hb H1.out))
    clear GC hS1 hS2
    go_upto_block 2 with fail
    go_cut [6] (fun s wx => ∃ a' c', s = .slice a' (n + 1) c' ∧ Hid (OwnG wx wc.heap.size (.slice a' (n + 1) c') (l ++ [x])) ∧ Hid (Below wc.heap.size wc wx))
    case first =>
      go_wp2
      go_loopw [6, 27] (fun s u wr => Hid (Below wc.heap.size wc wr) ∧ ∃ a' c', (u = .int .i64 0 ∧ s = .slice a' 0 c' ∧ Hid (OwnG wr wc.heap.size (.slice a' 0 c') [])) ∨ (u = .int .i64 1 ∧ s = .slice a' n c' ∧ Hid (OwnG wr wc.heap.size (.slice a' n c') l)) ∨ (u = .int .i64 2 ∧ s = .slice a' (n + 1) c' ∧ Hid (OwnG wr wc.heap.size (.slice a' (n + 1) c') (l ++ [x])))) (fun _ u _ => (2 - intOf u).toNat)
      case atStart => exact ⟨HB1, _, _, .inl ⟨rfl, rfl, HO1⟩⟩
      case round =>
        obtain ⟨HP, a', c', hs⟩ := hrel
        clear HO1 HB1
        have c0 := (HC1.out _ HP.out).1
        have c1 := (HC1.out _ HP.out).2
        have HSZ : Hid (wc.heap.size ≤ wr.heap.size) := HP.out.size
        rcases hs with ⟨rfl, rfl, HO⟩ | ⟨rfl, rfl, HO⟩ | ⟨rfl, rfl, HO⟩
        · clear c1
          go_wp2_with (at_builtin; refine wp_gappend (m := n) (l := l) (q := []) rfl _ _ rfl rfl rfl HO.out HSZ.out (HV.out.below HP.out) HL.out (by simp; omega) HNO.out n (by simp) ?_; intro a6 c6 w6 o6 n6 l6; rw [List.nil_append] at o6; have HO6 := Lib.hid o6; have HB6 := Lib.hid (HP.out.grown n6 HSZ.out (fun q hq => (HO.out.new hq).1)); clear o6 n6 l6)
          go_roundw
          case rel => exact ⟨HB6, a6, c6, .inr (.inl ⟨by go_num, rfl, HO6⟩)⟩
          case measure => simp [intOf]
        · clear c0
          go_wp2_with (at_builtin; refine wp_gappend (m := 1) (l := [x]) (q := l) rfl _ _ rfl rfl rfl HO.out HSZ.out (HX.out.below HP.out) rfl (by rw [HL.out]; omega) (fun z => by cases z) (n + 1) (by rw [HL.out]) ?_; intro a6 c6 w6 o6 n6 l6; have HO6 := Lib.hid o6; have HB6 := Lib.hid (HP.out.grown n6 HSZ.out (fun q hq => (HO.out.new hq).1)); clear o6 n6 l6)
          go_roundw
          case rel => exact ⟨HB6, a6, c6, .inr (.inr ⟨by go_num, rfl, HO6⟩)⟩
          case measure => simp [intOf]
        · go_wp2
          go_meet
          exact ⟨a', c', rfl, HO, HP⟩
    case rest =>
      obtain ⟨a', c', rfl, HO, HP⟩ := hcut
      go_wp2_with fail
      go_ret
      exact ⟨HP.out, a', c', rfl, HO.out⟩

theorem dems_own {w : World} {B : Nat} {a : Option Addr} {n c : Nat} {M : List Dm} (h : OwnG w B (.slice a n c) M) (hok : ∀ x ∈ M, x.ok) : Dems w a n c M := by
  obtain ⟨a', c', e, hv, hle, hc⟩ := h.slice
  obtain ⟨rfl, hn, rfl⟩ := Value.slice.inj e
  refine ⟨hn.symm, hv, by omega, hc, fun x hx => ?_⟩
  have h := hok x hx
  have := h.c0; have := h.c1; have := h.d1; have := h.d2; have := h.t2
  unfold I64; omega
set_option maxRecDepth 100000 in
set_option maxHeartbeats 8000000 in
theorem qfits_any {w : World} {a : Option Addr} {n c : Nat} {l : List Dm} (h : Dems w a n c l) (x : Dm) (hl : Nice (l ++ [x])) {a2 : Option Addr} {n2 c2 : Nat} {L : List Bk} (h2 : Blks w a2 n2 c2 L) : Calls Try.prog 13 #[.slice a n c, .slice a2 n2 c2, .agg #[.int .i64 x.c, .int .i64 x.d, .int .i64 x.t]] w fun e w' => e = .returned (.bool (decide (tsS (l ++ [x]) L = 0))) ∧ Below w.heap.size w w' := by
  have HB := Lib.hid h2
  have HNL := Lib.hid hl
  have hn : n ≤ 100 := by have h1 := hl.len; rw [List.length_append] at h1; have := h.len; omega
  have q0 := heap_alloc_new w (.cells #[.int .i64 x.c, .int .i64 x.d, .int .i64 x.t] 32)
  have CC : Hid (Calls Try.prog 22 #[.slice (some ⟨w.heap.size + 1 + 1, 0, none⟩) 2 2] (((w.alloc (.cells #[.int .i64 x.c, .int .i64 x.d, .int .i64 x.t] 32)).alloc (.cells #[.int .i64 x.c, .int .i64 x.d, .int .i64 x.t] 32)).alloc (.cells #[.slice a n c, .slice (some ⟨w.heap.size + 1, 0, none⟩) 1 1] 25))
      (fun e w' => Both1 (((w.alloc (.cells #[.int .i64 x.c, .int .i64 x.d, .int .i64 x.t] 32)).alloc (.cells #[.int .i64 x.c, .int .i64 x.d, .int .i64 x.t] 32)).alloc (.cells #[.slice a n c, .slice (some ⟨w.heap.size + 1, 0, none⟩) 1 1] 25)) (n + 1) (l ++ [x]) e w')) := by
    have g1 := dm_new (w.alloc (.cells #[.int .i64 x.c, .int .i64 x.d, .int .i64 x.t] 32)) x 32
    have g2 := heap_alloc_new ((w.alloc (.cells #[.int .i64 x.c, .int .i64 x.d, .int .i64 x.t] 32)).alloc (.cells #[.int .i64 x.c, .int .i64 x.d, .int .i64 x.t] 32)) (.cells #[.slice a n c, .slice (some ⟨w.heap.size + 1, 0, none⟩) 1 1] 25)
    simp only [World.size_alloc] at g1 g2
    exact pconcat_any a n c l h.len hn (h.view.below (by repeat (first | exact Below.refl _ _ | (with_reducible assumption) | refine bw_alloc ?_ _ | refine bw_drew ?_))) (w.heap.size + 1) x (g1.below (by repeat (first | exact Below.refl _ _ | (with_reducible assumption) | refine bw_alloc ?_ _ | refine bw_drew ?_))) (w.heap.size + 1 + 1) (by rw [blk_cell g2]; rfl) (by rw [blk_cell g2]; rfl)
  have HBW : Hid (Below w.heap.size w (((w.alloc (.cells #[.int .i64 x.c, .int .i64 x.d, .int .i64 x.t] 32)).alloc (.cells #[.int .i64 x.c, .int .i64 x.d, .int .i64 x.t] 32)).alloc (.cells #[.slice a n c, .slice (some ⟨w.heap.size + 1, 0, none⟩) 1 1] 25))) := (by repeat (first | exact Below.refl _ _ | (with_reducible assumption) | refine bw_alloc ?_ _ | refine bw_drew ?_))
  have TC : Hid (∀ V a5 c5, Below w.heap.size w V → Dems V a5 (n + 1) c5 (l ++ [x]) → Calls Try.prog 11 #[.slice a5 (n + 1) c5, .slice a2 n2 c2] V fun e w' => e = .returned (.int .i64 (tsS (l ++ [x]) L)) ∧ Below V.heap.size V w') := fun V a5 c5 hb hd => qtest_any hd hl (h2.below hb)
  have HOK := Lib.hid hl.ok
  obtain ⟨ts, hts⟩ : ∃ ts, tsS (l ++ [x]) L = ts := ⟨_, rfl⟩
  rw [hts] at TC ⊢
  clear h h2 hl hn q0 hts
  by_cases hq : ts = 0
  · subst hq
    go_enter Try.func13, Try.ntmps13
    go_wp2_with (first
      | (go_at_call 22; (with_reducible refine (CC.out).mono ?_); rintro e w5 ⟨hlow, a5, c5, rfl, ho⟩; have HB5 := Lib.hid (below_up HBW.out hlow); have HD5 := Lib.hid (dems_own ho HOK.out); clear hlow ho)
      | (go_at_call 11; (with_reducible refine (TC.out _ _ _ HB5.out HD5.out).mono ?_); rintro e w6 ⟨rfl, b6⟩; have HB6 := Lib.hid (below_up HB5.out b6); clear b6))
    go_ret
    exact ⟨by first | rfl | simp [go_sem], HB6.out⟩
  · have hq1 : (ts == 0) = false := by simp [hq]
    have hq2 : decide (ts = 0) = false := decide_eq_false hq
    rw [hq2]
    clear hq2
    go_enter Try.func13, Try.ntmps13
    go_wp2_with (first
      | (go_at_call 22; (with_reducible refine (CC.out).mono ?_); rintro e w5 ⟨hlow, a5, c5, rfl, ho⟩; have HB5 := Lib.hid (below_up HBW.out hlow); have HD5 := Lib.hid (dems_own ho HOK.out); clear hlow ho)
      | (go_at_call 11; (with_reducible refine (TC.out _ _ _ HB5.out HD5.out).mono ?_); rintro e w6 ⟨rfl, b6⟩; have HB6 := Lib.hid (below_up HB5.out b6); clear b6))
    go_ret
    exact ⟨by first | rfl | simp [go_sem, hq1, hq], HB6.out⟩
end Go.Proofs.Ytljigfedmjlfgaa

/-
  What the program's calls answer.
-/
namespace Go.Proofs.Ytljigfedmjlfgaa
end Go.Proofs.Ytljigfedmjlfgaa

/-
  The walk over the chapter's example; what numbers mean, as contracts.
-/
namespace Go.Proofs.Ytljigfedmjlfgaa
open Go.RowKit Go.Maps

theorem awk_bad : tsS [⟨2, 4, 5⟩] [⟨10, 3⟩] = 17 := by
  refine ts_no fun hf => hf.2 4 ⟨⟨⟨2, 4, 5⟩, List.mem_cons_self, 0, Int.le_refl _, by decide⟩, ?_, by decide⟩
  have := end_top (l := [⟨2, 4, 5⟩]) (L := [⟨10, 3⟩]) (x := ⟨10, 3⟩) List.mem_cons_self
  have e : (⟨10, 3⟩ : Bk).d = 10 := rfl
  omega
theorem awk_nice : Nice [⟨2, 4, 5⟩] := ⟨fun x hx => by rw [List.mem_singleton.1 hx]; exact ⟨by decide, by decide, by decide, by decide, by decide⟩, fun x hx => by rw [List.mem_singleton.1 hx]; decide, fun x hx => by rw [List.mem_singleton.1 hx]; decide, by decide⟩
set_option maxRecDepth 100000 in
set_option maxHeartbeats 4000000 in
theorem awake_any (w : World) : Calls Try.prog 8 #[] w fun e w' => e = .returned (.bool true) ∧ Below w.heap.size w w' := by
  have TC := Lib.hid (fun v a a2 (h : Dems v a 1 1 [⟨2, 4, 5⟩]) (h2 : Blks v a2 1 1 [⟨10, 3⟩]) => qtest_any h awk_nice h2)
  rw [awk_bad] at TC
  have QC := Lib.hid (fun v a2 (h2 : Blks v a2 1 1 [⟨10, 3⟩]) => qat_any h2 4 (by unfold I64; omega))
  have e : heldA [⟨10, 3⟩] 4 = 3 := by decide
  rw [e] at QC
  have HD : Hid (∀ (v : World) T g, v.heap.size = g → Dems (v.alloc (.cells #[.int .i64 2, .int .i64 4, .int .i64 5] T)) (some ⟨g, 0, none⟩) 1 1 [⟨2, 4, 5⟩]) := fun v T g hg => by
    subst hg
    exact ⟨rfl, dm_new v ⟨2, 4, 5⟩ T, Nat.le_refl _, by omega, fun x hx => by rw [List.mem_singleton.1 hx]; exact ⟨⟨by decide, by decide⟩, ⟨by decide, by decide⟩, ⟨by decide, by decide⟩⟩⟩
  have HB : Hid (∀ (v : World) T g, v.heap.size = g → Blks (v.alloc (.cells #[.int .i64 10, .int .i64 3] T)) (some ⟨g, 0, none⟩) 1 1 [⟨10, 3⟩]) := fun v T g hg => by
    subst hg
    exact ⟨rfl, bk_new v ⟨10, 3⟩ T, Nat.le_refl _, by omega, ⟨fun x hx => by rw [List.mem_singleton.1 hx]; decide, by decide⟩⟩
  clear e
  go_enter Try.func8, Try.ntmps8
  go_upto_region 2 with fail
  refine gen_world (fun v => Below w.heap.size w v ∧ Dems v (some ⟨w.heap.size, 0, none⟩) 1 1 [⟨2, 4, 5⟩]) ⟨(by repeat (first | exact Below.refl _ _ | (with_reducible assumption) | refine bw_alloc ?_ _ | refine bw_drew ?_)), HD.out w _ _ rfl⟩ ?_
  intro V ⟨hb, hd⟩
  have HV := Lib.hid hb
  have HDV := Lib.hid hd
  clear hb hd
  go_wp2_with (first
    | (go_at_call 11; (with_reducible refine (TC.out _ _ _ (HDV.out.below (by repeat (first | exact Below.refl _ _ | (with_reducible assumption) | refine bw_alloc ?_ _ | refine bw_drew ?_))) (HB.out _ _ _ rfl)).mono ?_); rintro e w1 ⟨rfl, b1⟩; have HB1 : Hid (Below V.heap.size V w1) := below_up (by repeat (first | exact Below.refl _ _ | (with_reducible assumption) | refine bw_alloc ?_ _ | refine bw_drew ?_)) b1; clear b1)
    | (go_at_call 12; (with_reducible refine (QC.out _ _ (HB.out _ _ _ rfl)).mono ?_); rintro e w2 ⟨rfl, b2⟩; have HB2 : Hid (Below V.heap.size V w2) := below_up (below_up HB1.out (by repeat (first | exact Below.refl _ _ | (with_reducible assumption) | refine bw_alloc ?_ _ | refine bw_drew ?_))) b2; clear b2))
  go_ret
  exact ⟨rfl, HV.out.trans (HB2.out.mono HV.out.size)⟩
/-- The demands that numbers mean, as a contract. -/
theorem made_dems {w : World} {a : Option Addr} {n : Nat} {l : Nat → Int × Int × Int} (hn : Trips w a n l) (cap : Nat) :
    Calls Try.prog 9 #[.slice a n cap] w fun e w' => (∃ (a' : Option Addr) (N c' : Nat) (M : List Dm), e = .returned (.slice a' N c') ∧ Dems w' a' N c' M ∧ N = min n 6 ∧ AllGood M) ∧ Below w.heap.size w w' :=
  (made11_any hn cap).mono fun _ _ ⟨⟨a', N, c', M, he, hv, hl, hN, hc, hc9, hg⟩, hb⟩ => ⟨⟨a', N, c', M, he, Dems.good hv hl hc hc9 hg, hN, hg⟩, hb⟩
/-- .. and blocks. -/
theorem held_blks {w : World} {a : Option Addr} {n : Nat} {l : Nat → Int × Int} (hn : Pairs w a n l) (cap : Nat) :
    Calls Try.prog 10 #[.slice a n cap] w fun e w' => (∃ (a' : Option Addr) (N c' : Nat) (M : List Bk), e = .returned (.slice a' N c') ∧ Blks w' a' N c' M ∧ N = min n 6 ∧ AllHeld M) ∧ Below w.heap.size w w' :=
  (held12_any hn cap).mono fun _ _ ⟨⟨a', N, c', M, he, hv, hl, hN, hc, hc9, hg⟩, hb⟩ => ⟨⟨a', N, c', M, he, ⟨hl, hv, hc, hc9, hg.nice (by omega)⟩, hN, hg⟩, hb⟩
end Go.Proofs.Ytljigfedmjlfgaa

/-
  What is told of demands by numbers, plainly.
-/
namespace Go.Proofs.Ytljigfedmjlfgaa
open Go.RowKit Go.Maps

theorem okL_good {M : List Dm} (h : AllGood M) (hl : M.length ≤ 6) : okL M = true := okL_iff.2 ⟨h.ok, by omega⟩
theorem jobs_less {x : Dm} (h : x.ok) {t : Int} (ht : 0 ≤ t) : jobsD x t ≤ t + 1 := by
  have := h.d1; have := h.d2
  unfold jobsD
  split
  · omega
  · have : (t - x.d) / x.t ≤ t - x.d := Int.ediv_le_self _ (by omega)
    omega
theorem due_less {M : List Dm} (h : AllGood M) {t : Int} (ht : 0 ≤ t) : ∀ k, dueN M t k ≤ (k : Int) * (24 * (t + 1))
  | 0 => by show (0 : Int) ≤ _; omega
  | k + 1 => by
    have ih := due_less h ht k
    have hz : (((k + 1 : Nat) : Int)) * (24 * (t + 1)) = (k : Int) * (24 * (t + 1)) + 24 * (t + 1) := by rw [Int.natCast_add, Int.add_mul]; omega
    rw [hz]
    cases hx : M[k]? with
    | none => rw [due_end hx]; omega
    | some x =>
      have hg := h x (List.mem_of_getElem? hx)
      have h1 := hg.per; have h2 := hg.d2; have h3 := hg.c1
      have hj := jobs_less hg.ok ht
      have hj0 := jobs_nonneg hg.ok t
      have := Int.mul_le_mul (show x.c ≤ 24 by omega) hj hj0 (by omega)
      rw [due_next hx]; omega
theorem due_small {M : List Dm} (h : AllGood M) (hl : M.length ≤ 6) {t : Int} (ht : 0 ≤ t) (ht1 : t ≤ 3000) : 0 ≤ dueA M t ∧ dueA M t ≤ 432144 := by
  refine ⟨due_nonneg h.ok t, ?_⟩
  have h1 := due_less h ht M.length
  have h2 : (M.length : Int) * (24 * (t + 1)) ≤ 6 * (24 * (t + 1)) := Int.mul_le_mul_of_nonneg_right (by omega) (by omega)
  unfold dueA; omega
theorem timeB_small {t : Int} (h : 0 ≤ t) (h1 : t ≤ 3000) : timeB t = true := timeB_iff.2 ⟨h, by omega⟩
theorem ofA_good {M : List Dm} (h : AllGood M) (hl : M.length ≤ 6) {t : Int} (ht : 0 ≤ t) (ht1 : t ≤ 3000) : ofA M t = some (dueA M t) :=
  ofA_is (okL_good h hl) (timeB_small ht ht1) (by have := (due_small h hl ht ht1).2; omega)
theorem nextS_good {M : List Dm} (h : AllGood M) (hl : M.length ≤ 6) {t : Int} (ht : 0 ≤ t) (ht1 : t ≤ 3000) : nextS M t = nextA M t := nextS_is (okL_good h hl) (timeB_small ht ht1)
theorem lastS_good {M : List Dm} (h : AllGood M) (hl : M.length ≤ 6) {t : Int} (ht : 0 ≤ t) (ht1 : t ≤ 3000) : lastS M t = lastA M t := lastS_is (okL_good h hl) (timeB_small ht ht1)
theorem per_good {M : List Dm} (h : AllGood M) (hl : M.length ≤ 6) : (perS M).2 = 0 ∧ 1 ≤ (perS M).1 ∧ (perS M).1 ≤ 120 ∧ ∀ x ∈ M, x.t ∣ (perS M).1 := by
  have hok := okL_good h hl
  have hpos : ∀ z ∈ M.map Dm.t, 0 ≤ z := fun z hz => by have := per_row hok z hz; omega
  obtain ⟨l1, l2⟩ := lcm_row (M.map Dm.t) 1 (by omega) hpos
  have hd : ∀ z ∈ M.map Dm.t, z.toNat ∣ 120 := fun z hz => by
    obtain ⟨x, hx, rfl⟩ := List.mem_map.1 hz
    rcases (h x hx).per with e | e | e | e | e | e | e | e <;> rw [e] <;> decide
  have h1 : (perR M).2 = true := by
    cases e : (perR M).2 with
    | true => rfl
    | false =>
      rcases (l2 e).2 with ⟨z, hz, hz0⟩ | q
      · have := per_row hok z hz; omega
      · have := q 120 (by omega) (by decide) hd; omega
  obtain ⟨p1, _, _, _, p5⟩ := l1 h1
  have hdv : (perR M).1.toNat ∣ 120 := p5 120 (by decide) hd
  have hle : (perR M).1.toNat ≤ 120 := Nat.le_of_dvd (by omega) hdv
  have hpp : 0 < (perR M).1 := p1
  have e := perS_is hok h1 (by omega)
  obtain ⟨_, _, _, _, _, hx⟩ := perS_ok (l := M) (by rw [e])
  refine ⟨by rw [e], by rw [e]; show 1 ≤ (perR M).1; omega, by rw [e]; show (perR M).1 ≤ 120; omega, hx⟩
theorem load_less {M : List Dm} (h : AllGood M) {p : Int} (hp : 0 ≤ p) (hp1 : p ≤ 120) : ∀ k, loadN M p k ≤ (k : Int) * 2880
  | 0 => by show (0 : Int) ≤ _; omega
  | k + 1 => by
    have ih := load_less h hp hp1 k
    cases hx : M[k]? with
    | none => rw [load_end hx]; omega
    | some x =>
      have hg := h x (List.mem_of_getElem? hx)
      have h1 := hg.per; have h2 := hg.d2; have h3 := hg.c1; have h4 := hg.d1
      have q1 : p / x.t ≤ p := Int.ediv_le_self _ hp
      have q0 := Int.ediv_nonneg hp (show 0 ≤ x.t by omega)
      have := Int.mul_le_mul (show x.c ≤ 24 by omega) (show p / x.t ≤ 120 by omega) q0 (by omega)
      rw [load_next hx]; omega
theorem load_good {M : List Dm} (h : AllGood M) (hl : M.length ≤ 6) : ldS M = (loadN M (perS M).1 M.length, (perS M).1, 0) ∧ 0 ≤ loadN M (perS M).1 M.length ∧ loadN M (perS M).1 M.length ≤ 17280 := by
  obtain ⟨p1, p2, p3, _⟩ := per_good h hl
  have := load_less h (show 0 ≤ (perS M).1 by omega) p3 M.length
  have h0 : loadN M (perS M).1 0 ≤ loadN M (perS M).1 M.length := load_mono h.ok (by omega) (Nat.zero_le _)
  have h0' : (0 : Int) ≤ loadN M (perS M).1 M.length := h0
  exact ⟨ldS_is p1 (by omega), h0', by omega⟩
theorem periods_good {M : List Dm} (h : AllGood M) (hl : M.length ≤ 6) {t : Int} (ht : 0 ≤ t) : dueA M (t + (perS M).1) = dueA M t + loadN M (perS M).1 M.length := by
  obtain ⟨_, p2, _, p4⟩ := per_good h hl
  exact due_period h.ok ht (by omega) p4 _
/-- The job's deadline that a count reaches. -/
theorem jobs_reach {x : Dm} (h : x.ok) (t : Int) {i : Nat} : ((i : Int) < jobsD x t ↔ (i : Int) * x.t + x.d ≤ t) := by
  have h1 := h.d1; have h2 := h.d2
  obtain ⟨f1, f2⟩ := jobs_fit h t
  have hj := jobs_nonneg h t
  unfold nxtD at f1 f2
  generalize jobsD x t = j at *
  constructor
  · intro hi
    have q := f2 (by omega)
    have := Int.mul_le_mul_of_nonneg_right (show (i : Int) ≤ j - 1 by omega) (show 0 ≤ x.t by omega)
    rw [Int.sub_mul, Int.one_mul] at this
    omega
  · intro hi
    rcases Int.lt_or_le (i : Int) j with q | q
    · exact q
    · have := Int.mul_le_mul_of_nonneg_right q (show 0 ≤ x.t by omega)
      omega
end Go.Proofs.Ytljigfedmjlfgaa

/-
  The walk over the statement that what fits is done in time, by the clock.
-/
namespace Go.Proofs.Ytljigfedmjlfgaa
open Go.RowKit Go.Maps

/-- Whether a deadline of the first k has been. -/
def dueB (M : List Dm) (t : Int) (k : Nat) : Bool := (M.take k).any fun x => decide (x.d ≤ t)
theorem dueB_yes {M : List Dm} {t : Int} {k : Nat} {x : Dm} (hx : M[k]? = some x) (h : x.d ≤ t) : dueB M t (k + 1) = true := by
  unfold dueB; rw [List.take_add_one, hx, List.any_append]; simp [h]
theorem dueB_no {M : List Dm} {t : Int} {k : Nat} {x : Dm} (hx : M[k]? = some x) (h : ¬ x.d ≤ t) : dueB M t (k + 1) = dueB M t k := by
  unfold dueB; rw [List.take_add_one, hx, List.any_append]; simp [h]
theorem dueB_any {M : List Dm} {t : Int} {k : Nat} (h : dueB M t k = true) : ∃ x ∈ M, x.d ≤ t := by
  unfold dueB at h
  obtain ⟨x, hx, hd⟩ := List.any_eq_true.1 h
  exact ⟨x, List.mem_of_mem_take hx, by simpa using hd⟩

set_option maxRecDepth 100000 in
set_option maxHeartbeats 8000000 in
theorem law_sound (W : World) (a : Option Addr) (n cap : Nat) (l : Nat → Int × Int × Int) (hn : Trips W a n l) (ab : Option Addr) (nb capb : Nat) (lb : Nat → Int × Int) (hnb : Pairs W ab nb lb) :
    Calls Try.prog 3 #[.slice a n cap, .slice ab nb capb] W fun e w' => e = .returned (.bool true) ∧ Below W.heap.size W w' := by
  have MC := Lib.hid (fun v (hb : Below W.heap.size W v) => made_dems (hn.below hb) cap)
  have HC := Lib.hid (fun v (hb : Below W.heap.size W v) => held_blks (hnb.below hb) capb)
  have AC := Lib.hid (fun v => awake_any v)
  clear hn hnb
  go_enter Try.func3, Try.ntmps3
  go_upto_region 2 with (go_at_call 8; (with_reducible refine (AC.out _).mono ?_); rintro e w1 ⟨rfl, b1⟩)
  go_upto_region 3 with (go_at_call 9; (with_reducible refine (MC.out _ b1).mono ?_); rintro e w2 ⟨⟨a1, N1, c1, M, rfl, hd, hN, hg⟩, b2⟩; have HD0 := Lib.hid hd; have HG := Lib.hid hg; have HN := Lib.hid hN; have HB2 := Lib.hid (below_up b1 b2); clear hd hg hN b2)
  go_upto_region 4 with (go_at_call 10; (with_reducible refine (HC.out _ HB2.out).mono ?_); rintro e w3 ⟨⟨a2, N2, c2, K, rfl, hk, hnk, hh⟩, b3⟩; have HK := Lib.hid hk; have HNK := Lib.hid hnk; clear hnk; have HH := Lib.hid hh; have HD := Lib.hid (HD0.out.below b3); have HB3 := Lib.hid (below_up HB2.out b3); clear hk hh b3)
  clear MC HC AC b1 HB2 HD0
  have hlen := HD.out.len
  have hN6 : M.length ≤ 6 := by have := HN.out; omega
  have hN1 : N1 ≤ 6 := by have := HN.out; omega
  have HNI := Lib.hid (HG.out.nice (show M.length ≤ 7 by omega))
  have TC := Lib.hid (fun v (hb : Below w3.heap.size w3 v) => qtest_any (HD.out.below hb) HNI.out (HK.out.below hb))
  have HL := Lib.hid hlen
  have HN6 := Lib.hid hN6
  clear hlen hN6
  rcases ts_or M K with ⟨ht, hf⟩ | ⟨ht, hf⟩
  · rw [ht] at TC
    have HF := Lib.hid hf
    clear ht hf
    go_upto_block 0 with (go_at_call 11; (with_reducible refine (TC.out _ (by repeat (first | exact Below.refl _ _ | (with_reducible assumption) | refine bw_alloc ?_ _ | refine bw_drew ?_))).mono ?_); rintro e w4 ⟨rfl, b4⟩; have HB4 := Lib.hid b4; clear b4)
    clear TC
    have QC := Lib.hid (fun v t (ht : I64 t) (hb : Below w3.heap.size w3 v) => qat_any (HK.out.below hb) t ht)
    go_wp2
    go_loopw [8] (fun u wr => ∃ k : Nat, 1 ≤ k ∧ k ≤ 401 ∧ u = .int .i64 k ∧ Hid (Below w3.heap.size w3 wr)) (fun u _ => (401 - intOf u).toNat)
    case atStart => exact ⟨1, Nat.le_refl _, by omega, rfl, HB4⟩
    case round =>
      obtain ⟨k, hk1, hk2, rfl, HP⟩ := hrel
      clear HB4
      by_cases hlt : k ≤ 400
      · have hlt1 : (k : Int) ≤ 400 := by omega
        have HSM : Hid (∀ i, i ≤ N1 → 0 ≤ dueN M k i ∧ dueN M k i ≤ 432144) := fun i hi => by
          have h1 := due_mono HG.out.ok (k : Int) (show i ≤ M.length by have := HL.out; omega)
          have h0 := due_mono HG.out.ok (k : Int) (Nat.zero_le i)
          have h2 := (due_small HG.out HN6.out (show (0 : Int) ≤ k by omega) (by omega)).2
          have h0' : (0 : Int) ≤ dueN M k i := h0
          unfold dueA at h2
          omega
        go_upto_block 2 with fail
        go_cut [9, 10] (fun s d wx => s = .int .i64 (dueN M k N1) ∧ d = .bool (dueB M k N1) ∧ Hid (Below w3.heap.size w3 wx))
        case first =>
          go_wp2
          go_loopw [9, 10, 11] (fun s d u wr2 => ∃ i : Nat, i ≤ N1 ∧ u = .int .i64 i ∧ s = .int .i64 (dueN M k i) ∧ d = .bool (dueB M k i) ∧ Hid (Below w3.heap.size w3 wr2)) (fun _ _ u _ => (N1 - intOf u).toNat)
          case atStart => exact ⟨0, Nat.zero_le _, rfl, rfl, rfl, HP⟩
          case round =>
            obtain ⟨i, hi, rfl, rfl, rfl, HPi⟩ := hrel
            by_cases hlt2 : i < N1
            · obtain ⟨x, hx⟩ := nth_of HL.out hlt2
              have hxg := HG.out x (List.mem_of_getElem? hx)
              obtain ⟨g, o, rfl, ⟨c0, c1, c2⟩⟩ := (HD.out.view.below HPi.out).at_ hx
              have hi1 : (i : Int) < (N1 : Int) := by omega
              have hi0 : (0 : Int) ≤ (i : Int) := by omega
              have hs1 := HSM.out (i + 1) (by omega)
              have hs0 := HSM.out i (by omega)
              have hp1 := hxg.per
              have hp2 := hxg.d1
              have hp3 := hxg.d2
              have hp4 := hxg.c0
              have hp5 := hxg.c1
              by_cases hd : x.d ≤ (k : Int)
              · have HX := Lib.hid (dueB_yes hx hd)
                have HN2 := Lib.hid (due_next (t := (k : Int)) hx)
                rw [due_next hx] at hs1
                rw [jobs_late (by omega)] at HN2 hs1
                have q0 := Int.ediv_nonneg (show 0 ≤ (k : Int) - x.d by omega) (show 0 ≤ x.t by omega)
                have q1 : ((k : Int) - x.d) / x.t ≤ (k : Int) - x.d := Int.ediv_le_self _ (by omega)
                have e0 : ((k : Int) - x.d).tdiv x.t = ((k : Int) - x.d) / x.t := Int.tdiv_eq_ediv_of_nonneg (by omega)
                have e1 : IntKind.i64.wrap ((k : Int) - x.d) = (k : Int) - x.d := IntWalk.i64_in _ (by omega)
                have e2 : IntKind.i64.wrap (((k : Int) - x.d).tdiv x.t) = ((k : Int) - x.d) / x.t := by rw [e0]; exact IntWalk.i64_in _ (by omega)
                have e2' : IntKind.i64.wrap (((k : Int) - x.d) / x.t) = ((k : Int) - x.d) / x.t := IntWalk.i64_in _ (by omega)
                have e3 : IntKind.i64.wrap (((k : Int) - x.d) / x.t + 1) = ((k : Int) - x.d) / x.t + 1 := IntWalk.i64_in _ (by omega)
                have z1 : (x.t == 0) = false := by rw [beq_eq_false_iff_ne]; omega
                have z2 : ¬ x.t = 0 := by omega
                obtain ⟨J, hJ⟩ : ∃ J, ((k : Int) - x.d) / x.t + 1 = J := ⟨_, rfl⟩
                rw [hJ] at e3 HN2 hs1
                have e3' : IntKind.i64.wrap (((k : Int) - x.d) / x.t + 1) = J := by rw [hJ]; exact e3
                obtain ⟨s, hs⟩ : ∃ s, dueN M k i = s := ⟨_, rfl⟩
                rw [hs] at hs1 hs0 HN2 ⊢
                obtain ⟨P, hP⟩ : ∃ P, x.c * J = P := ⟨_, rfl⟩
                rw [hP] at hs1 HN2
                have hP0 : 0 ≤ P := by rw [← hP]; exact Int.mul_nonneg hp4 (by omega)
                have e4 : IntKind.i64.wrap (x.c * J) = P := by rw [hP]; exact IntWalk.i64_in _ (by omega)
                have e5 : IntKind.i64.wrap (s + P) = s + P := IntWalk.i64_in _ (by omega)
                clear hx hxg hs hs1 hs0 hp1 hp2 hp3 hp4 hp5 hP hP0 q0 q1 e3 hJ e0
                generalize dueB M k i = db at *
                go_wp2
                go_quiet (fail)
                go_wp2
                go_roundw
                case rel => exact ⟨i + 1, by omega, by go_num, by rw [HN2.out], by rw [HX.out], Lib.hid (below_drewN HPi.out _)⟩
                case measure => simp [intOf]; omega
              · have HX := Lib.hid (dueB_no hx hd)
                have HN2 := Lib.hid (due_next (t := (k : Int)) hx)
                rw [jobs_early (by omega)] at HN2
                clear hx hxg hs1 hs0 hp1 hp2 hp3 hp4 hp5
                obtain ⟨s, hs⟩ : ∃ s, dueN M k i = s := ⟨_, rfl⟩
                rw [hs] at HN2 ⊢
                have HN3 : Hid (dueN M k (i + 1) = s) := by rw [HN2.out]; show s + x.c * 0 = s; omega
                clear hs HN2
                generalize dueB M k i = db at *
                go_wp2
                go_roundw
                case rel => exact ⟨i + 1, by omega, by go_num, by rw [HN3.out], by rw [HX.out], HPi⟩
                case measure => simp [intOf]; omega
            · obtain rfl : i = N1 := by omega
              generalize dueN M k i = s at *
              generalize dueB M k i = db at *
              go_wp2_with fail
              go_meet
              exact ⟨rfl, rfl, HPi⟩
        case rest =>
          obtain ⟨rfl, rfl, HPi⟩ := hcut
          have hs0 := HSM.out N1 (Nat.le_refl _)
          have HE : Hid (dueN M k N1 = dueA M k) := by show _ = dueN M k M.length; rw [HL.out]
          have QK := Lib.hid (fun v => QC.out v (k : Int) (by unfold I64; omega))
          have hh0 := held_nonneg K (k : Int)
          have hh1 := held_top HK.out.nice (k : Int)
          cases hdb : dueB M k N1 with
          | false =>
            clear hdb HSM
            generalize dueN M k N1 = s at *
            go_wp2
            go_roundw
            case rel => exact ⟨k + 1, by omega, by omega, by go_num, HPi⟩
            case measure => simp [intOf]; omega
          | true =>
            have hsd := fits_sound HNI.out HF.out (dueB_any hdb)
            rw [HE.out] at hs0 ⊢
            clear hdb HSM HE
            generalize dueA M k = s at *
            obtain ⟨h, hh⟩ : ∃ h, heldA K (k : Int) = h := ⟨_, rfl⟩
            rw [hh] at hsd hh0 hh1 QK
            have e1 : IntKind.i64.wrap (s + h) = s + h := IntWalk.i64_in _ (by omega)
            have e2 : ¬ (k : Int) < s + h := by omega
            clear hsd hh0 hh1 hs0 hh
            go_wp2_with (go_at_call 12; (with_reducible refine (QK.out _ HPi.out).mono ?_); rintro e w6 ⟨rfl, b6⟩; have HP6 := Lib.hid (below_up HPi.out b6); clear b6)
            go_roundw
            case rel => exact ⟨k + 1, by omega, by omega, by go_num, HP6⟩
            case measure => simp [intOf]; omega
      · obtain rfl : k = 401 := by omega
        go_wp2
        go_ret
        exact ⟨rfl, below_up HB3.out HP.out⟩
  · rw [ht] at TC
    clear ht hf
    go_wp2_with (go_at_call 11; (with_reducible refine (TC.out _ (by repeat (first | exact Below.refl _ _ | (with_reducible assumption) | refine bw_alloc ?_ _ | refine bw_drew ?_))).mono ?_); rintro e w4 ⟨rfl, b4⟩; have HB4 := Lib.hid b4; clear b4)
    go_ret
    exact ⟨rfl, below_up HB3.out HB4.out⟩
end Go.Proofs.Ytljigfedmjlfgaa

/-
  The walk over the statement of more that is held, or more work.
-/
namespace Go.Proofs.Ytljigfedmjlfgaa
open Go.RowKit Go.Maps

theorem GView.none_nil {w : World} {l : List Dm} (h : GView w none l) : l = [] := by
  rcases h with rfl | ⟨g, o, e, _⟩
  · rfl
  · cases e
theorem Dems.none_zero {w : World} {n c : Nat} {l : List Dm} (h : Dems w none n c l) : n = 0 := by rw [← h.len, GView.none_nil h.view]; rfl
theorem VView.none_nil {w : World} {l : List Bk} (h : VView w none l) : l = [] := by
  rcases h with rfl | ⟨g, o, e, _⟩
  · rfl
  · cases e
theorem Blks.none_zero {w : World} {n c : Nat} {l : List Bk} (h : Blks w none n c l) : n = 0 := by rw [← h.len, VView.none_nil h.view]; rfl
theorem AllGood.two {M K : List Dm} (h : AllGood M) (k : AllGood K) : AllGood (M ++ K) := fun x hx => (List.mem_append.1 hx).elim (h x) (k x)
theorem AllHeld.two {M K : List Bk} (h : AllHeld M) (k : AllHeld K) : AllHeld (M ++ K) := fun x hx => (List.mem_append.1 hx).elim (h x) (k x)
theorem OwnG.dems {w : World} {B n c : Nat} {a : Option Addr} {l : List Dm} (h : OwnG w B (.slice a n c) l) (hg : AllGood l) : Dems w a n c l := by
  obtain ⟨a9, c9, e9, hv, h1, h2⟩ := h.slice
  obtain ⟨rfl, hln, rfl⟩ := Value.slice.inj e9
  exact Dems.good hv hln.symm (by rw [hln]; exact h1) h2 hg
theorem OwnV.blks {w : World} {B n c : Nat} {a : Option Addr} {l : List Bk} (h : OwnV w B (.slice a n c) l) (hg : NiceB l) : Blks w a n c l := by
  obtain ⟨a9, c9, e9, hv, h1, h2⟩ := h.slice
  obtain ⟨rfl, hln, rfl⟩ := Value.slice.inj e9
  exact ⟨hln.symm, hv, by rw [hln]; exact h1, h2, hg⟩
theorem trips_one (w : World) (d0 d1 d2 : Int) (g : Nat) (c0 : w.cell? ⟨g, 0, none⟩ = some (.int .i64 d0)) (c1 : w.cell? ⟨g, 1, none⟩ = some (.int .i64 d1)) (c2 : w.cell? ⟨g, 2, none⟩ = some (.int .i64 d2)) : Trips w (some ⟨g, 0, none⟩) 1 (fun _ => (d0, d1, d2)) :=
  ⟨by omega, fun k hk => by obtain rfl : k = 0 := by omega
                            exact ⟨g, 0, rfl, c0, c1, c2⟩⟩
theorem pairs_one (w : World) (d0 d1 : Int) (g : Nat) (c0 : w.cell? ⟨g, 0, none⟩ = some (.int .i64 d0)) (c1 : w.cell? ⟨g, 1, none⟩ = some (.int .i64 d1)) : Pairs w (some ⟨g, 0, none⟩) 1 (fun _ => (d0, d1)) :=
  ⟨by omega, fun k hk => by obtain rfl : k = 0 := by omega
                            exact ⟨g, 0, rfl, c0, c1⟩⟩

set_option maxRecDepth 100000 in
set_option maxHeartbeats 8000000 in
theorem law_more (W : World) (a : Option Addr) (n cap : Nat) (l : Nat → Int × Int × Int) (hn : Trips W a n l) (ab : Option Addr) (nb capb : Nat) (lb : Nat → Int × Int) (hnb : Pairs W ab nb lb) (d0 d1 d2 e0 e1 : Int) :
    Calls Try.prog 4 #[.slice a n cap, .slice ab nb capb, .agg #[.int .i64 d0, .int .i64 d1, .int .i64 d2, .int .i64 e0, .int .i64 e1]] W fun e w' => e = .returned (.bool true) ∧ Below W.heap.size W w' := by
  have MC := Lib.hid (fun v (hb : Below W.heap.size W v) => made_dems (hn.below hb) cap)
  have HC := Lib.hid (fun v (hb : Below W.heap.size W v) => held_blks (hnb.below hb) capb)
  have MX := Lib.hid (fun v g (h : Trips v (some ⟨g, 0, none⟩) 1 (fun _ => (d0, d1, d2))) => made_dems h 1)
  have HX := Lib.hid (fun v g (h : Pairs v (some ⟨g, 0, none⟩) 1 (fun _ => (e0, e1))) => held_blks h 1)
  have T3 : Hid (∀ (v : World) T, Trips (v.alloc (.cells #[.int .i64 d0, .int .i64 d1, .int .i64 d2] T)) (some ⟨v.heap.size, 0, none⟩) 1 (fun _ => (d0, d1, d2))) := fun v T => trips_one _ d0 d1 d2 _ (by rw [World.cell?_alloc_new]; rfl) (by rw [World.cell?_alloc_new]; rfl) (by rw [World.cell?_alloc_new]; rfl)
  have T2 : Hid (∀ (v : World) T, Pairs (v.alloc (.cells #[.int .i64 e0, .int .i64 e1] T)) (some ⟨v.heap.size, 0, none⟩) 1 (fun _ => (e0, e1))) := fun v T => pairs_one _ e0 e1 _ (by rw [World.cell?_alloc_new]; rfl) (by rw [World.cell?_alloc_new]; rfl)
  have AC := Lib.hid (fun v => awake_any v)
  clear hn hnb
  go_enter Try.func4, Try.ntmps4
  go_upto_region 1 with fail
  refine gen_world (fun v => Below W.heap.size W v ∧ v.heap[W.heap.size]? = some (.cells #[.int .i64 d0, .int .i64 d1, .int .i64 d2, .int .i64 e0, .int .i64 e1] 38 (0, 0))) ⟨(by repeat (first | exact Below.refl _ _ | (with_reducible assumption) | refine bw_alloc ?_ _ | refine bw_drew ?_)), heap_alloc_new W _⟩ ?_
  intro V0 ⟨hb0, hq0⟩
  have HB0 := Lib.hid hb0
  have HQ0 := Lib.hid hq0
  clear hb0 hq0
  go_upto_region 2 with (go_at_call 8; (with_reducible refine (AC.out _).mono ?_); rintro e w1 ⟨rfl, b1⟩; have HB1 := Lib.hid (below_up HB0.out b1); have HQ1 := Lib.hid (kept_obj b1 HQ0.out); clear b1)
  go_upto_region 3 with (go_at_call 9; (with_reducible refine (MC.out _ HB1.out).mono ?_); rintro e w2 ⟨⟨a1, N1, c1, M, rfl, hd, hN, hg⟩, b2⟩; have HD2 := Lib.hid hd; have HG := Lib.hid hg; have HN := Lib.hid hN; have HB2 := Lib.hid (below_up HB1.out b2); have HQ2 := Lib.hid (kept_obj b2 HQ1.out); clear hd hg hN b2)
  go_upto_region 4 with (go_at_call 10; (with_reducible refine (HC.out _ HB2.out).mono ?_); rintro e w3 ⟨⟨a2, N2, c2, K, rfl, hk, hnk, hh⟩, b3⟩; have HK3 := Lib.hid hk; have HNK := Lib.hid hnk; have HH := Lib.hid hh; have HD3 := Lib.hid (HD2.out.below b3); have HB3 := Lib.hid (below_up HB2.out b3); have HQ3 := Lib.hid (kept_obj b3 HQ2.out); clear hk hnk hh b3)
  clear MC HC AC HB0 HQ0 HB1 HQ1 HB2 HQ2 HD2
  have x0 : w3.cell? ⟨W.heap.size, 0, none⟩ = some (.int .i64 d0) := by rw [blk_cell HQ3.out]; rfl
  have x1 : w3.cell? ⟨W.heap.size, 1, none⟩ = some (.int .i64 d1) := by rw [blk_cell HQ3.out]; rfl
  have x2 : w3.cell? ⟨W.heap.size, 2, none⟩ = some (.int .i64 d2) := by rw [blk_cell HQ3.out]; rfl
  go_upto_region 5 with (go_at_call 9; (with_reducible refine (MX.out _ _ (T3.out _ _)).mono ?_); rintro e w4 ⟨⟨a3, N3, c3, X, rfl, hd, hN, hg⟩, b4⟩; have HX4 := Lib.hid hd; have HGX := Lib.hid hg; have HNX := Lib.hid hN; have hb4 : Below w3.heap.size w3 w4 := below_up (by repeat (first | exact Below.refl _ _ | (with_reducible assumption) | refine bw_alloc ?_ _ | refine bw_drew ?_)) b4; have HD4 := Lib.hid (HD3.out.below hb4); have HK4 := Lib.hid (HK3.out.below hb4); have HB4 := Lib.hid (below_up HB3.out hb4); have HQ4 := Lib.hid (kept_obj hb4 HQ3.out); clear hd hg hN b4 hb4)
  clear MX x0 x1 x2 HD3 HK3 HB3 HQ3
  have x3 : w4.cell? ⟨W.heap.size, 3, none⟩ = some (.int .i64 e0) := by rw [blk_cell HQ4.out]; rfl
  have x4 : w4.cell? ⟨W.heap.size, 4, none⟩ = some (.int .i64 e1) := by rw [blk_cell HQ4.out]; rfl
  go_upto_region 6 with (go_at_call 10; (with_reducible refine (HX.out _ _ (T2.out _ _)).mono ?_); rintro e w5 ⟨⟨a4, N4, c4, Y, rfl, hk, hN, hh⟩, b5⟩; have HY5 := Lib.hid hk; have HHY := Lib.hid hh; have HNY := Lib.hid hN; have hb5 : Below w4.heap.size w4 w5 := below_up (by repeat (first | exact Below.refl _ _ | (with_reducible assumption) | refine bw_alloc ?_ _ | refine bw_drew ?_)) b5; have HD5 := Lib.hid (HD4.out.below hb5); have HK5 := Lib.hid (HK4.out.below hb5); have HX5 := Lib.hid (HX4.out.below hb5); have HB5 := Lib.hid (below_up HB4.out hb5); clear hk hh hN b5 hb5)
  clear HX x3 x4 HD4 HK4 HX4 HB4 HQ4
  obtain ⟨x, rfl⟩ : ∃ x, X = [x] := List.length_eq_one_iff.1 (by have h1 := HX5.out.len; have h2 := HNX.out; omega)
  obtain rfl : N3 = 1 := by have h2 := HNX.out; omega
  have hM6 : M.length ≤ 6 := by have h1 := HD5.out.len; have h2 := HN.out; omega
  have hK6 : K.length ≤ 6 := by have h1 := HK5.out.len; have h2 := HNK.out; omega
  have hY1 : Y.length = 1 := by have h1 := HY5.out.len; have h2 := HNY.out; omega
  obtain rfl : N4 = 1 := by have h2 := HNY.out; omega
  have hgx := HG.out.two HGX.out
  have hni : Nice (M ++ [x]) := hgx.nice (by rw [List.length_append]; show M.length + 1 ≤ 7; omega)
  have hnm : Nice M := HG.out.nice (by omega)
  have hky : NiceB (K ++ Y) := (HH.out.two HHY.out).nice (by rw [List.length_append]; omega)
  have HGX2 := Lib.hid hgx
  have HKY := Lib.hid hky
  have T1 := Lib.hid (fun v a n c (h : Dems v a n c (M ++ [x])) (hb : Below w5.heap.size w5 v) => qtest_any h hni (HK5.out.below hb))
  have T2 := Lib.hid (fun v a n c (h : Blks v a n c (K ++ Y)) (hb : Below w5.heap.size w5 v) => qtest_any (HD5.out.below hb) hnm h)
  have T0 := Lib.hid (fun v (hb : Below w5.heap.size w5 v) => qtest_any (HD5.out.below hb) hnm (HK5.out.below hb))
  have FC := Lib.hid (fun v (hb : Below w5.heap.size w5 v) => qfits_any (HD5.out.below hb) x hni (HK5.out.below hb))
  have HM1 := Lib.hid (fun h => more_one (L := K) hni h)
  have HM2 := Lib.hid (fun h => more_two (l := M) (L := K) (M := Y) h)
  have HC := Lib.hid (fun v (hb : Below w5.heap.size w5 v) => (by
    obtain ⟨g, o, e, hat⟩ := (HX5.out.view.below hb).at_ (k := 0) (x := x) rfl
    rw [Nat.zero_mul, Nat.add_zero] at hat
    exact ⟨g, o, e, hat⟩ : ∃ g o, a3 = some ⟨g, o, none⟩ ∧ GAt v g o x))
  have hln := HD5.out.len
  have hlk := HK5.out.len
  have HLN := Lib.hid hln
  have HLK := Lib.hid hlk
  have HS1 : Hid (([] : List Dm).length + N1 ≤ 1000000) := by show 0 + N1 ≤ _; omega
  have HE1 : Hid (([] : List Dm).length + N1 = N1) := by show 0 + N1 = _; omega
  have HS2 : Hid (([] ++ M).length + 1 ≤ 1000000) := by show _ ≤ _; rw [List.nil_append]; omega
  have HE2 : Hid (([] ++ M).length + 1 = N1 + 1) := by show _ = _; rw [List.nil_append]; omega
  have HS3 : Hid (([] : List Bk).length + N2 ≤ 1000000) := by show 0 + N2 ≤ _; omega
  have HE3 : Hid (([] : List Bk).length + N2 = N2) := by show 0 + N2 = _; omega
  have HS4 : Hid (([] ++ K).length + 1 ≤ 1000000) := by show _ ≤ _; rw [List.nil_append]; omega
  have HE4 : Hid (([] ++ K).length + 1 = N2 + 1) := by show _ = _; rw [List.nil_append]; omega
  have HY1 := Lib.hid hY1
  clear hM6 hK6 hY1 hgx hni hnm hky hln hlk
  go_upto_region 7 with (first
    | (go_at_call 11; (with_reducible refine (T1.out _ _ _ _ HDZ.out HB7.out).mono ?_); rintro e w8 ⟨rfl, b8⟩; have HB8 := Lib.hid (below_up HB7.out b8); clear b8)
    | (at_builtin; first
      | (refine wp_gappend (B := w5.heap.size) (m := N1) (q := []) (l := M) rfl _ _ rfl rfl rfl (OwnG.made w5) (Nat.le_of_lt (by rw [World.size_alloc]; omega)) (HD5.out.below (by repeat (first | exact Below.refl _ _ | (with_reducible assumption) | refine bw_alloc ?_ _ | refine bw_drew ?_))).view HLN.out HS1.out (fun z => by subst z; exact HD5.out.none_zero) N1 HE1.out ?_; intro a6 k6 w6 o6 n6 l6; have HO6 := Lib.hid o6; have HB6 : Hid (Below w5.heap.size w5 w6) := (bw_alloc (Below.refl _ _) _).grown n6 (Nat.le_of_lt (by rw [World.size_alloc]; omega)) (fun q hq => ((OwnG.made w5).new hq).1); clear o6 n6 l6)
      | (refine wp_gappend (B := w5.heap.size) (m := 1) (q := [] ++ M) (l := [x]) rfl _ _ rfl rfl rfl HO6.out HB6.out.size (HX5.out.below HB6.out).view rfl HS2.out (fun z => by subst z; exact HX5.out.none_zero) (N1 + 1) HE2.out ?_; intro a7 k7 w7 o7 n7 l7; have HB7 : Hid (Below w5.heap.size w5 w7) := HB6.out.grown n7 HB6.out.size (fun q hq => (HO6.out.new hq).1); rw [List.nil_append] at o7; have HDZ := Lib.hid (o7.dems HGX2.out); clear o7 n7 l7)))
  clear T1 HO6 HB6 HB7 HDZ
  have HDB := Lib.hid (HK5.out.below HB8.out)
  have HYB := Lib.hid (HY5.out.below HB8.out)
  go_upto_region 8 with (first
    | (go_at_call 11; (with_reducible refine (T2.out _ _ _ _ HDZ.out (below_up HB8.out HB10.out)).mono ?_); rintro e w11 ⟨rfl, b11⟩; have HB11 := Lib.hid (below_up (below_up HB8.out HB10.out) b11); clear b11)
    | (at_builtin; first
      | (refine wp_vappend (B := w8.heap.size) (m := N2) (q := []) (l := K) rfl _ _ rfl rfl rfl (OwnV.made w8) (Nat.le_of_lt (by rw [World.size_alloc]; omega)) (HDB.out.below (by repeat (first | exact Below.refl _ _ | (with_reducible assumption) | refine bw_alloc ?_ _ | refine bw_drew ?_))).view HLK.out HS3.out (fun z => by subst z; exact HDB.out.none_zero) N2 HE3.out ?_; intro a9 k9 w9 o9 n9 l9; have HO9 := Lib.hid o9; have HB9 : Hid (Below w8.heap.size w8 w9) := (bw_alloc (Below.refl _ _) _).grown n9 (Nat.le_of_lt (by rw [World.size_alloc]; omega)) (fun q hq => ((OwnV.made w8).new hq).1); clear o9 n9 l9)
      | (refine wp_vappend (B := w8.heap.size) (m := 1) (q := [] ++ K) (l := Y) rfl _ _ rfl rfl rfl HO9.out HB9.out.size (HYB.out.below HB9.out).view HY1.out HS4.out (fun z => by subst z; exact HYB.out.none_zero) (N2 + 1) HE4.out ?_; intro a10 k10 w10 o10 n10 l10; have HB10 : Hid (Below w8.heap.size w8 w10) := HB9.out.grown n10 HB9.out.size (fun q hq => (HO9.out.new hq).1); rw [List.nil_append] at o10; have HDZ := Lib.hid (o10.blks HKY.out); clear o10 n10 l10)))
  clear T2 HO9 HB9 HB10 HDZ HDB HYB HB8
  go_upto_region 9 with (go_at_call 11; (with_reducible refine (T0.out _ HB11.out).mono ?_); rintro e w12 ⟨rfl, b12⟩; have HB12 := Lib.hid (below_up HB11.out b12); clear b12)
  clear T0 HB11
  obtain ⟨g, o, rfl, ⟨c0, c1, c2⟩⟩ := HC.out w12 HB12.out
  clear HC
  rcases ts_or M K with ⟨h0, f0⟩ | ⟨h0, f0⟩
  · rw [h0]
    rcases ts_or (M ++ [x]) K with ⟨h1, _⟩ | ⟨h1, _⟩
    all_goals
      rw [h1] at FC ⊢
      generalize tsS M (K ++ Y) = t2 at *
      clear h0 h1 f0 HM1 HM2
      go_wp2_with (go_at_call 13; (with_reducible refine (FC.out _ HB12.out).mono ?_); rintro e w13 ⟨rfl, b13⟩)
      go_ret
      exact ⟨rfl, below_up HB5.out (below_up HB12.out b13)⟩
  · have h1 : tsS (M ++ [x]) K = 17 := ts_no fun q => f0 (HM1.out q)
    have h2 : tsS M (K ++ Y) = 17 := ts_no fun q => f0 (HM2.out q)
    rw [h0, h1, h2]
    rw [h1] at FC
    clear h0 h1 h2 f0 HM1 HM2
    go_wp2_with (go_at_call 13; (with_reducible refine (FC.out _ HB12.out).mono ?_); rintro e w13 ⟨rfl, b13⟩)
    go_ret
    exact ⟨rfl, below_up HB5.out (below_up HB12.out b13)⟩
end Go.Proofs.Ytljigfedmjlfgaa
