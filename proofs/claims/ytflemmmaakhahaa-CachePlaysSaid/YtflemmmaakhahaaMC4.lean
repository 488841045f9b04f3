/- Texts of this claim, put together: CW4, CR1, KOpen, COpen, COpen3, CPk, CR2, KOpen2. -/
import Derived.Test.YtflemmmaakhahaaRows
import Derived.Test.YtflemmmaakhahaaMC3
import Derived.ProofKit
import Derived.OpenShut
import Derived.Deep.Slices
import Derived.Lib.SmallJoins
set_option linter.unusedVariables false
set_option linter.unusedSimpArgs false

/-
  The walk over all sets that belong to one.
-/
namespace Go.Proofs.Ytflemmmaakhahaa
open Go.RowKit Go.Maps Go.Shelf
attribute [local go_sem] Oper.semAt_some

/-- The set of a row of numbers. -/
def setP (l : List Int) (i : Nat) : Bool := decide ((i : Int) ∈ l)
theorem setP_nil (k : Nat) : wd (setP []) k = 0 := by
  have : wd (setP []) k = wd noneP k := natOf_congr fun j _ => by simp [setP, noneP]
  rw [this, wd_none]
theorem setP_put (l : List Int) (x : Int) (k : Nat) : wd (orP (setP l) (oneP x)) k = wd (setP (l ++ [x])) k := natOf_congr fun j _ => by
  simp only [setP, orP, oneP, List.mem_append, List.mem_singleton, Bool.decide_or]
theorem setP_all {n : Nat} {L : Nat → Int} {o : Int} (ho : okOwn o) (hn : n ≤ 256) (k : Nat) : wd (setP (ofsN L o n)) k = wd (ofP n L o) k := natOf_congr fun j _ => by
  unfold setP ofP
  rw [decide_eq_true ho, Bool.true_and, ← Bool.decide_and, decide_eq_decide]
  unfold ofsN
  simp only [List.mem_map, List.mem_filter, List.mem_range, decide_eq_true_eq]
  constructor
  · rintro ⟨i, ⟨h1, h2⟩, h3⟩
    obtain rfl : i = 64 * k + j := by omega
    exact ⟨h1, h2⟩
  · rintro ⟨h1, h2⟩
    exact ⟨_, ⟨h1, h2⟩, rfl⟩
theorem of_none {n : Nat} {L : Nat → Int} {o : Int} (ho : ¬ okOwn o) (k : Nat) : wd (ofP n L o) k = 0 := by
  have : wd (ofP n L o) k = wd noneP k := natOf_congr fun j _ => by simp [ofP, noneP, ho]
  rw [this, wd_none]
theorem ofs_bound (L : Nat → Int) (o : Int) (n : Nat) (x : Int) (h : x ∈ ofsN L o n) : x < n := by
  simp only [ofsN, List.mem_map, List.mem_filter, List.mem_range] at h
  obtain ⟨i, ⟨h1, _⟩, rfl⟩ := h
  omega
theorem Blk4.four {w : World} {b x0 x1 x2 x3 : Nat} (h : Blk4 w b x0 x1 x2 x3) : Four w b x0 x1 x2 x3 := by
  obtain ⟨h0, h1, h2, h3⟩ := h.cells
  exact ⟨h0, h1, h2, h3, blk_free h 0, blk_free h 1, blk_free h 2, blk_free h 3⟩
theorem Blk4.below {w w' : World} {b x0 x1 x2 x3 : Nat} (h : Blk4 w b x0 x1 x2 x3) (hb : Below w.heap.size w w') : Blk4 w' b x0 x1 x2 x3 := kept_obj hb h
theorem Blk4.set {w : World} {b x0 x1 x2 x3 : Nat} (h : Blk4 w b x0 x1 x2 x3) (y0 y1 y2 y3 : Nat) : Blk4 ((((w.setCell ⟨b, 0, none⟩ (.int .u64 y0)).setCell ⟨b, 1, none⟩ (.int .u64 y1)).setCell ⟨b, 2, none⟩ (.int .u64 y2)).setCell ⟨b, 3, none⟩ (.int .u64 y3)) b y0 y1 y2 y3 := by
  have h1 : (w.setCell ⟨b, 0, none⟩ (.int .u64 y0)).heap[b]? = some (.cells #[.int .u64 y0, .int .u64 x1, .int .u64 x2, .int .u64 x3] 37 (0, 0)) := (blk_set h _).trans rfl
  have h2 : ((w.setCell ⟨b, 0, none⟩ (.int .u64 y0)).setCell ⟨b, 1, none⟩ (.int .u64 y1)).heap[b]? = some (.cells #[.int .u64 y0, .int .u64 y1, .int .u64 x2, .int .u64 x3] 37 (0, 0)) := (blk_set h1 _).trans rfl
  have h3 : (((w.setCell ⟨b, 0, none⟩ (.int .u64 y0)).setCell ⟨b, 1, none⟩ (.int .u64 y1)).setCell ⟨b, 2, none⟩ (.int .u64 y2)).heap[b]? = some (.cells #[.int .u64 y0, .int .u64 y1, .int .u64 y2, .int .u64 x3] 37 (0, 0)) := (blk_set h2 _).trans rfl
  exact (blk_set h3 _).trans rfl
theorem set4_far {w : World} {b k : Nat} (hne : k ≠ b) (y0 y1 y2 y3 : Value) : ((((w.setCell ⟨b, 0, none⟩ y0).setCell ⟨b, 1, none⟩ y1).setCell ⟨b, 2, none⟩ y2).setCell ⟨b, 3, none⟩ y3).heap[k]? = w.heap[k]? := by
  rw [blk_far (a := ⟨b, 3, none⟩) hne, blk_far (a := ⟨b, 2, none⟩) hne, blk_far (a := ⟨b, 1, none⟩) hne, blk_far (a := ⟨b, 0, none⟩) hne]
/-- The two boxes of a set that grows: the one that comes back, the set itself. -/
structure TwoSets (w : World) (p : List Int → Nat → Nat) (pre : List Int) (W : World) : Prop where
  res : Blk4 W w.heap.size 0 0 0 0
  all : Blk4 W (w.heap.size + 1) (p pre 0) (p pre 1) (p pre 2) (p pre 3)
  low : Below w.heap.size w W
theorem TwoSets.own {w : World} {p : List Int → Nat → Nat} {B : Nat} (hB : w.heap.size ≤ B) : OwnFrom B (TwoSets w p) := fun s X Y row hs hg hrow => by
  have e : ∀ b x0 x1 x2 x3, Blk4 X b x0 x1 x2 x3 → Blk4 Y b x0 x1 x2 x3 := fun b x0 x1 x2 x3 hb => by
    refine (hg.block b hb.lt (fun e => ?_)).trans hb
    obtain ⟨_, o, ho, hc⟩ := hrow b e.symm
    rw [show X.heap[b]? = _ from hb] at ho
    cases ho
    cases hc
  exact ⟨e _ _ _ _ _ hs.res, e _ _ _ _ _ hs.all, hs.low.grown hg hs.low.size (fun k hk => Nat.le_trans hB (hrow k hk).1)⟩
theorem TwoSets.alloc {w W : World} {p : List Int → Nat → Nat} {pre : List Int} (h : TwoSets w p pre W) (o : Obj) : TwoSets w p pre (W.alloc o) :=
  ⟨h.res.below ((Below.refl _ _).alloc (Nat.le_refl _) o), h.all.below ((Below.refl _ _).alloc (Nat.le_refl _) o), h.low.alloc h.low.size o⟩
theorem two_boxes (W : World) {N : Nat} (hN : W.heap.size = N) (c1 c2 : Obj) : ((W.alloc c1).alloc c2).heap[N]? = some c1 ∧ ((W.alloc c1).alloc c2).heap[N + 1]? = some c2 := by
  subst hN
  refine ⟨kept_obj ((Below.refl _ _).alloc (Nat.le_refl _) _) (heap_alloc_new W _), ?_⟩
  have := heap_alloc_new (W.alloc c1) c2
  rwa [World.size_alloc] at this
/-- A round of it. -/
theorem TwoSets.put {w W w3 : World} {p : List Int → Nat → Nat} {pre : List Int} {x : Int} (h : TwoSets w p pre W) (hb : Below W.heap.size W w3) {S : Nat → Prop} (hS : ∀ k, S k → k ≠ w.heap.size + 1) {y : Nat → Nat} (hy : ∀ k, y k = p (pre ++ [x]) k) {B : Nat} :
    KeepsFrom B W ((((w3.setCell ⟨w.heap.size + 1, 0, none⟩ (.int .u64 (y 0))).setCell ⟨w.heap.size + 1, 1, none⟩ (.int .u64 (y 1))).setCell ⟨w.heap.size + 1, 2, none⟩ (.int .u64 (y 2))).setCell ⟨w.heap.size + 1, 3, none⟩ (.int .u64 (y 3))) ∧
    KpS S W ((((w3.setCell ⟨w.heap.size + 1, 0, none⟩ (.int .u64 (y 0))).setCell ⟨w.heap.size + 1, 1, none⟩ (.int .u64 (y 1))).setCell ⟨w.heap.size + 1, 2, none⟩ (.int .u64 (y 2))).setCell ⟨w.heap.size + 1, 3, none⟩ (.int .u64 (y 3))) ∧
    TwoSets w p (pre ++ [x]) ((((w3.setCell ⟨w.heap.size + 1, 0, none⟩ (.int .u64 (y 0))).setCell ⟨w.heap.size + 1, 1, none⟩ (.int .u64 (y 1))).setCell ⟨w.heap.size + 1, 2, none⟩ (.int .u64 (y 2))).setCell ⟨w.heap.size + 1, 3, none⟩ (.int .u64 (y 3))) := by
  have hsz : ∀ y0 y1 y2 y3 : Value, ((((w3.setCell ⟨w.heap.size + 1, 0, none⟩ y0).setCell ⟨w.heap.size + 1, 1, none⟩ y1).setCell ⟨w.heap.size + 1, 2, none⟩ y2).setCell ⟨w.heap.size + 1, 3, none⟩ y3).heap.size = w3.heap.size := fun _ _ _ _ => by simp
  have hk : ∀ (k : Nat) (o : Obj), W.heap[k]? = some o → k ≠ w.heap.size + 1 → ((((w3.setCell ⟨w.heap.size + 1, 0, none⟩ (.int .u64 (y 0))).setCell ⟨w.heap.size + 1, 1, none⟩ (.int .u64 (y 1))).setCell ⟨w.heap.size + 1, 2, none⟩ (.int .u64 (y 2))).setCell ⟨w.heap.size + 1, 3, none⟩ (.int .u64 (y 3))).heap[k]? = some o := fun k o ho hne => by
    rw [set4_far hne]; exact kept_obj hb ho
  have hne : ∀ (k : Nat) (o : Obj), W.heap[k]? = some o → o.isCells = false → k ≠ w.heap.size + 1 := by
    rintro k o ho hc rfl
    rw [show W.heap[w.heap.size + 1]? = _ from h.all] at ho
    cases ho
    cases hc
  refine ⟨⟨by rw [hsz]; exact hb.size, fun k o _ ho hc => hk k o ho (hne k o ho hc)⟩, ⟨⟨by rw [hsz]; exact hb.size, fun k o ho hw => hk k o ho (hne k o ho (Obj.not_cells_of_walk hw))⟩, fun k cs T fr hs hc => hk k _ hc (hS k hs)⟩, ⟨?_, ?_, ?_⟩⟩
  · exact hk _ _ h.res (by omega)
  · have := (h.all.below hb).set (y 0) (y 1) (y 2) (y 3)
    rw [← hy 0, ← hy 1, ← hy 2, ← hy 3]
    exact this
  · have hs := h.low.size
    exact ((((below_up h.low hb).setCell (p := ⟨w.heap.size + 1, 0, none⟩) (Nat.le_succ _) _).setCell (p := ⟨w.heap.size + 1, 1, none⟩) (Nat.le_succ _) _).setCell (p := ⟨w.heap.size + 1, 2, none⟩) (Nat.le_succ _) _).setCell (p := ⟨w.heap.size + 1, 3, none⟩) (Nat.le_succ _) _

/-- What is told of one. -/
def OfBack (p : Nat → Bool) (w : World) (e : Ending) (w' : World) : Prop := e = .returned (.agg #[.int .u64 (wd p 0), .int .u64 (wd p 1), .int .u64 (wd p 2), .int .u64 (wd p 3)]) ∧ Below w.heap.size w w'

set_option maxRecDepth 100000 in
set_option maxHeartbeats 4000000 in
theorem of_no (v : Value) (n : Nat) (L : Nat → Int) (o : Int) (ho : ¬ okOwn o) (w : World) : Calls Try.prog 21 #[v, .int .i64 o] w (OfBack (ofP n L o) w) := by
  unfold OfBack
  rw [of_none ho, of_none ho, of_none ho, of_none ho]
  have M := Lib.hid (may_any o)
  rw [decide_eq_false ho] at M
  have FA := Lib.hid ((Four.new w 0 0 0 0 37).alloc (.cells #[.int .u64 0, .int .u64 0, .int .u64 0, .int .u64 0] 37))
  have HB := Lib.hid (((Below.refl w.heap.size w).alloc (Nat.le_refl _) (.cells #[.int .u64 0, .int .u64 0, .int .u64 0, .int .u64 0] 37)).alloc (by simp) (.cells #[.int .u64 0, .int .u64 0, .int .u64 0, .int .u64 0] 37))
  obtain ⟨a0, a1, a2, a3, c0, c1, c2, c3⟩ := FA.out
  go_enter Try.func21, Try.ntmps21
  go_wp2_with (go_at_call 37; refine (M.out _).mono ?_; rintro e w1 ⟨rfl, rfl⟩)
  refine bodyPost_ret (v := .agg #[.int .u64 0, .int .u64 0, .int .u64 0, .int .u64 0]) ?_ rfl ⟨rfl, ?_⟩
  · have e0 := World.cell?_alloc_new w #[.int .u64 0, .int .u64 0, .int .u64 0, .int .u64 0] 37
    have hl : w.heap.size < (w.alloc (.cells #[.int .u64 0, .int .u64 0, .int .u64 0, .int .u64 0] 37)).heap.size := by simp
    have s0 := World.cell?_alloc_lt (w.alloc (.cells #[.int .u64 0, .int .u64 0, .int .u64 0, .int .u64 0] 37)) (.cells #[.int .u64 0, .int .u64 0, .int .u64 0, .int .u64 0] 37) ⟨w.heap.size, 0, none⟩ hl
    have s1 := World.cell?_alloc_lt (w.alloc (.cells #[.int .u64 0, .int .u64 0, .int .u64 0, .int .u64 0] 37)) (.cells #[.int .u64 0, .int .u64 0, .int .u64 0, .int .u64 0] 37) ⟨w.heap.size, 1, none⟩ hl
    have s2 := World.cell?_alloc_lt (w.alloc (.cells #[.int .u64 0, .int .u64 0, .int .u64 0, .int .u64 0] 37)) (.cells #[.int .u64 0, .int .u64 0, .int .u64 0, .int .u64 0] 37) ⟨w.heap.size, 2, none⟩ hl
    have s3 := World.cell?_alloc_lt (w.alloc (.cells #[.int .u64 0, .int .u64 0, .int .u64 0, .int .u64 0] 37)) (.cells #[.int .u64 0, .int .u64 0, .int .u64 0, .int .u64 0] 37) ⟨w.heap.size, 3, none⟩ hl
    rw [e0] at s0 s1 s2 s3
    clear hl e0 a0 a1 a2 a3 c0 c1 c2 c3
    simp [results, Try.results21, go_sem, s0, s1, s2, s3]
  · exact HB.out

set_option maxRecDepth 100000 in
set_option maxHeartbeats 8000000 in
theorem of_core (ad : Option Addr) (n : Nat) (hn : n ≤ 256) (L : Nat → Int) (o : Int) (ho : okOwn o) (w : World) (T : Nat → Prop) (hT : ∀ k, T k → k < w.heap.size)
    (NU : Hid (∀ (n : Nat) (w : World), CallsIn Fence.wide n Try.prog 43 #[.pointer ad, .int .i64 o] w fun e w' => e = .returned (.func (.func 62) #[] #[.pointer (some ⟨w.heap.size, 0, none⟩), .pointer (some ⟨w.heap.size + 1, 0, none⟩)]) ∧ w' = (w.alloc (.cells #[.pointer ad] 31)).alloc (.cells #[.int .i64 o] 3)))
    (IT : Hid (∀ m, 1 ≤ m → ∀ (Bc Bo : Nat) W, Below w.heap.size w W → W.heap[Bc]? = some (.cells #[.pointer ad] 31 (0, 0)) → W.heap[Bo]? = some (.cells #[.int .i64 o] 3 (0, 0)) → SeqStopsK Fence.wide m Try.prog 62 #[.pointer (some ⟨Bc, 0, none⟩), .pointer (some ⟨Bo, 0, none⟩)] (fun x : SetNo => #[.int .i64 x.1]) (KpS (fun k => k = Bc ∨ k = Bo ∨ T k)) (fun ys => ys.map Subtype.val = ofsN L o n) (fun _ => True) 257 W)) :
    Calls Try.prog 21 #[.pointer ad, .int .i64 o] w (OfBack (ofP n L o) w) := by
  have M := Lib.hid (may_any o)
  rw [decide_eq_true ho] at M
  have HP := Lib.hid (fun k => @setP_all n L o ho hn k)
  have H0 := Lib.hid setP_nil
  have HN := Lib.hid setP_put
  have W1 := Lib.hid (fun (l : List Int) (x : Int) (hx : x ≤ 9223372036854775807) w => with_any (setP l) x hx w)
  obtain ⟨p, hp⟩ : ∃ p : List Int → Nat → Nat, ∀ l k, wd (setP l) k = p l k := ⟨_, fun _ _ => rfl⟩
  have hp2 : ∀ l x k, wd (orP (setP l) (oneP x)) k = p (l ++ [x]) k := fun l x k => by rw [setP_put, hp]
  simp only [hp, hp2] at HP H0 W1
  clear HN hp hp2
  have R0 : Blk4 ((w.alloc (.cells #[.int .u64 0, .int .u64 0, .int .u64 0, .int .u64 0] 37)).alloc (.cells #[.int .u64 0, .int .u64 0, .int .u64 0, .int .u64 0] 37)) w.heap.size 0 0 0 0 :=
    kept_obj ((Below.refl _ _).alloc (Nat.le_refl _) _) (heap_alloc_new w _)
  have R1 : Blk4 ((w.alloc (.cells #[.int .u64 0, .int .u64 0, .int .u64 0, .int .u64 0] 37)).alloc (.cells #[.int .u64 0, .int .u64 0, .int .u64 0, .int .u64 0] 37)) (w.heap.size + 1) 0 0 0 0 := by
    have := heap_alloc_new (w.alloc (.cells #[.int .u64 0, .int .u64 0, .int .u64 0, .int .u64 0] 37)) (.cells #[.int .u64 0, .int .u64 0, .int .u64 0, .int .u64 0] 37)
    rwa [World.size_alloc] at this
  have HT : Hid (TwoSets w p [] ((w.alloc (.cells #[.int .u64 0, .int .u64 0, .int .u64 0, .int .u64 0] 37)).alloc (.cells #[.int .u64 0, .int .u64 0, .int .u64 0, .int .u64 0] 37))) :=
    ⟨R0, by rw [H0.out, H0.out, H0.out, H0.out]; exact R1, (by repeat (first | exact Below.refl _ _ | (with_reducible assumption) | refine bw_alloc ?_ _ | refine bw_drew ?_))⟩
  have BX := Lib.hid (two_boxes ((w.alloc (.cells #[.int .u64 0, .int .u64 0, .int .u64 0, .int .u64 0] 37)).alloc (.cells #[.int .u64 0, .int .u64 0, .int .u64 0, .int .u64 0] 37)) (by rw [World.size_alloc, World.size_alloc] : _ = w.heap.size + 1 + 1) (.cells #[.pointer ad] 31) (.cells #[.int .i64 o] 3))
  clear R0 R1
  refine (callsIn_wide (n := 3)).1 ?_
  refine callsIn_of_wp_marks Try.func21 rfl trivial ?_ rfl
  simp only [Try.ntmps21, List.size_toArray, List.length_cons, List.length_nil, Nat.reduceAdd, Nat.reduceSub, Array.replicate_succ, Array.replicate_zero, List.push_toArray, List.append_toArray, List.nil_append, List.cons_append]
  gi_wp2_with (first
    | (refine ⟨trivial, ?_⟩; gi_at_call 37; (refine (callsIn_wide.2 (M.out _)).mono ?_); rintro e w1 ⟨rfl, rfl⟩)
    | (refine ⟨trivial, ?_⟩; gi_at_call 43; (refine (NU.out _ _).mono ?_); rintro e w' ⟨rfl, rfl⟩))
  refine wpIn_rangeFunc_ownG rfl (by omega) (gf := 62) (lb := #[.pointer (some ⟨w.heap.size + 1 + 1, 0, none⟩), .pointer (some ⟨w.heap.size + 1 + 1 + 1, 0, none⟩)]) rfl trivial (enters_of Try.func62 (by kernel_rfl) rfl)
    (IT.out _ (by omega) (w.heap.size + 1 + 1) (w.heap.size + 1 + 1 + 1) _ ((HT.out.alloc _).alloc _).low BX.out.1 BX.out.2) kpS_t kpS_b (Below.refl _ _) (fun _ => rfl)
    (fun (pre : List SetNo) W => TwoSets w p (pre.map Subtype.val) W) (fun _ _ _ => False) (fun s X Y row hs hg hr => TwoSets.own (by simp; omega) (s.map Subtype.val) X Y row hs hg hr) (fun _ _ _ _ _ hs _ _ => hs) ((HT.out.alloc _).alloc _)
    (fun x => { tmps := #[.pointer ad, .int .i64 o, undef, undef, .pointer (some ⟨w.heap.size, 0, none⟩), .pointer (some ⟨w.heap.size + 1, 0, none⟩), .int .i64 x.1, .int .i64 o, .bool true, .bool false, undef, .pointer ad, .int .i64 o, .func (.func 62) #[] #[.pointer (some ⟨w.heap.size + 1 + 1, 0, none⟩), .pointer (some ⟨w.heap.size + 1 + 1 + 1, 0, none⟩)], .int .i64 x.1, undef, undef, undef, undef], defers := [] }) ?assign ?body ?done ?stop
  case assign =>
    intro l x W K hK
    gi_wp2
    exact hK
  case body =>
    rintro l pre x W hI hlt
    obtain ⟨x, hx⟩ := x
    have C := Lib.hid (W1.out (pre.map Subtype.val) x (by omega))
    have HM : Hid ((pre ++ [(⟨x, hx⟩ : SetNo)]).map Subtype.val = pre.map Subtype.val ++ [x]) := by show _ = _; simp
    dsimp only at hI ⊢
    have HI := Lib.hid hI
    obtain ⟨a0, a1, a2, a3, _, _, _, _⟩ := hI.all.four
    clear hI HT NU IT M
    gi_wp2_with (refine ⟨trivial, ?_⟩; gi_at_call 44; (refine (CallsIn.inRound l (callsIn_wide.2 (C.out _))).mono ?_); rintro e w3 ⟨rfl, b3⟩; have HB3 := Lib.hid b3; obtain ⟨d0, d1, d2, d3, g0, g1, g2, g3⟩ := (HI.out.all.below b3).four; clear b3)
    obtain ⟨q1, q2, q3⟩ := HI.out.put HB3.out (S := fun k => k = w.heap.size + 1 + 1 ∨ k = w.heap.size + 1 + 1 + 1 ∨ T k) (fun k hk => by
      rcases hk with rfl | rfl | hk
      · omega
      · omega
      · have := hT k hk; omega) (B := ((((w.alloc (.cells #[.int .u64 0, .int .u64 0, .int .u64 0, .int .u64 0] 37)).alloc (.cells #[.int .u64 0, .int .u64 0, .int .u64 0, .int .u64 0] 37)).alloc (.cells #[.pointer ad] 31)).alloc (.cells #[.int .i64 o] 3)).heap.size) (fun _ => rfl)
    exact ⟨q1, q2, by show TwoSets w p ((pre ++ [(⟨x, hx⟩ : SetNo)]).map Subtype.val) _; rw [HM.out]; exact q3⟩
  case done =>
    rintro D ys W hD hys hI hK
    rw [hys] at hI
    have HI := Lib.hid hI
    obtain ⟨z0, z1, z2, z3, v0, v1, v2, v3⟩ := hI.res.four
    obtain ⟨a0, a1, a2, a3, _, _, _, _⟩ := hI.all.four
    clear hI hys NU IT M
    gi_wp2
    have hS := HI.out.res.set (p (ofsN L o n) 0) (p (ofsN L o n) 1) (p (ofsN L o n) 2) (p (ofsN L o n) 3)
    have hne : D ≠ w.heap.size := by simp at hD; omega
    have hK4 := hK
    rw [← set4_far hne (.int .u64 (p (ofsN L o n) 0)) (.int .u64 (p (ofsN L o n) 1)) (.int .u64 (p (ofsN L o n) 2)) (.int .u64 (p (ofsN L o n) 3))] at hK4
    have hBl := below_set4 (d := w.heap.size) HI.out.low (Nat.le_refl _) (p (ofsN L o n) 0) (p (ofsN L o n) 1) (p (ofsN L o n) 2) (p (ofsN L o n) 3)
    refine ⟨by simp, .inl ⟨_, _, rfl, run_takeDeferred hK4, ?_⟩⟩
    have hS2 := fun ob => (show Blk4 (World.putObj _ D ob) w.heap.size _ _ _ _ from (World.putObj_heap_other (Ne.symm hne)).trans hS)
    have s0 := fun ob => (hS2 ob).cells.1
    have s1 := fun ob => (hS2 ob).cells.2.1
    have s2 := fun ob => (hS2 ob).cells.2.2.1
    have s3 := fun ob => (hS2 ob).cells.2.2.2
    refine ⟨.agg #[.int .u64 (p (ofsN L o n) 0), .int .u64 (p (ofsN L o n) 1), .int .u64 (p (ofsN L o n) 2), .int .u64 (p (ofsN L o n) 3)], ?_, ?_⟩
    · simp [results, Try.results21, go_sem, s0, s1, s2, s3]
    · unfold OfBack
      rw [← HP.out, ← HP.out, ← HP.out, ← HP.out]
      exact ⟨rfl, hBl.trans (belowK_b (w := w) (Nat.le_refl _) _ D _ _ (by simp at hD; omega) hK4 rfl rfl)⟩
  case stop =>
    rintro D c pre W _ _ h _
    exact h.elim
theorem cof_any {w : World} {b r n : Nat} {L : Nat → Int} (h : Ch CT w b r n L) (o : Int) : Calls Try.prog 21 #[.pointer (some ⟨b, 0, none⟩), .int .i64 o] w (OfBack (ofP n L o) w) := by
  by_cases ho : okOwn o
  · refine of_core (some ⟨b, 0, none⟩) n h.few L o ho w (fun k => k = b ∨ k = r) (fun k q => by have := h.lt; omega) (Lib.hid fun m W => owned_val _ o m W) (Lib.hid fun m hm Bc Bo W hW h1 h2 => ?_)
    exact owned1_stops m hm Bc Bo b r n L o W ⟨h1, h2, h.below hW⟩
  · exact of_no _ n L o ho w
theorem cof_nil (o : Int) (w : World) : Calls Try.prog 21 #[.pointer none, .int .i64 o] w (OfBack noneP w) := by
  have key : Calls Try.prog 21 #[.pointer none, .int .i64 o] w (OfBack (ofP 0 (fun _ => 0) o) w) := by
    by_cases ho : okOwn o
    · exact of_core none 0 (by omega) (fun _ => 0) o ho w (fun _ => False) (fun k q => q.elim) (Lib.hid fun m W => owned_val _ o m W) (Lib.hid fun m hm Bc Bo W hW h1 h2 => owned1_nil m hm Bc Bo o W h1)
    · exact of_no _ 0 _ o ho w
  have e : ofP 0 (fun _ => 0) o = noneP := by funext i; simp [ofP, noneP]
  rwa [e] at key
end Go.Proofs.Ytflemmmaakhahaa

/-
  The walks over the document's own cache: a new one, a use, an owner, a flush, the sets of one.
-/
namespace Go.Proofs.Ytflemmmaakhahaa
open Go.RowKit Go.Maps

set_option maxHeartbeats 1000000 in
theorem rnew_any (n : Nat) (hn : n ≤ 256) (w : World) : Calls Try.prog 12 #[.int .i64 n] w (CacheBack RT n w) := by
  have hmk := make_row n hn
  go_enter Try.func12, Try.ntmps12
  go_wp2
  go_ret
  exact back_of hn w

set_option maxHeartbeats 2000000 in
theorem ruse_any {w : World} {b r n : Nat} {L : Nat → Int} (h : Ch RT w b r n L) (s o : Int) : Calls Try.prog 14 #[.pointer (some ⟨b, 0, none⟩), .int .i64 s, .int .i64 o] w (UseBack RT b r n L s o w) := by
  have H := Lib.hid h
  have c0 := h.slice
  by_cases h0 : 0 ≤ s
  · by_cases h1 : s < n
    · by_cases h2 : 1 ≤ o
      · by_cases h3 : o ≤ 99
        · obtain ⟨i, rfl⟩ : ∃ i : Nat, s = (i : Int) := ⟨s.toNat, by omega⟩
          have hi : i < n := by omega
          have HO : Hid (okOwn o) := ⟨h2, h3⟩
          have c1 := h.row.cell hi
          have f1 := h.row.free i
          obtain ⟨q, hqe⟩ : ∃ q, (L i == o) = q := ⟨_, rfl⟩
          have HQ := Lib.hid hqe
          have d0 : ¬ o < 1 := by omega
          have d1 : decide (99 < o) = false := decide_eq_false (by omega)
          clear h
          generalize L i = x at c1 hqe
          go_enter Try.func14, Try.ntmps14
          go_wp2
          go_ret
          exact use_puts H.out hi HO.out HQ.out (Below.refl _ _)
        · have d0 : ¬ o < 1 := by omega
          have d1 : decide (99 < o) = true := decide_eq_true (by omega)
          clear h
          go_enter Try.func14, Try.ntmps14
          go_wp2
          go_ret
          exact use_stays H.out (fun z => by have := z.2.2; omega)
      · have d0 : o < 1 := by omega
        clear h
        go_enter Try.func14, Try.ntmps14
        go_wp2
        go_ret
        exact use_stays H.out (fun z => by have := z.2.1; omega)
    · have d0 : ¬ s < 0 := by omega
      have d1 : (n : Int) ≤ s := by omega
      clear h
      go_enter Try.func14, Try.ntmps14
      go_wp2
      go_ret
      exact use_stays H.out (fun z => by have := z.1.2; omega)
  · have d0 : s < 0 := by omega
    clear h
    go_enter Try.func14, Try.ntmps14
    go_wp2
    go_ret
    exact use_stays H.out (fun z => by have := z.1.1; omega)

set_option maxHeartbeats 1000000 in
theorem rowner_any {w : World} {b r n : Nat} {L : Nat → Int} (h : Ch RT w b r n L) (s : Int) : Calls Try.prog 20 #[.pointer (some ⟨b, 0, none⟩), .int .i64 s] w fun e w' => e = .returned (.int .i64 (ownL n L s)) ∧ w' = w := by
  have c0 := h.slice
  unfold ownL
  by_cases h0 : 0 ≤ s
  · by_cases h1 : s < n
    · obtain ⟨i, rfl⟩ : ∃ i : Nat, s = (i : Int) := ⟨s.toNat, by omega⟩
      have hi : i < n := by omega
      rw [if_pos (show okSet n (i : Int) from ⟨h0, h1⟩), Int.toNat_natCast]
      have c1 := h.row.cell hi
      clear h
      generalize L i = x at c1 ⊢
      go_enter Try.func20, Try.ntmps20
      go_wp2
      go_ret
      exact ⟨rfl, rfl⟩
    · rw [if_neg (fun z : okSet n s => h1 z.2)]
      have d0 : ¬ s < 0 := by omega
      have d1 : (n : Int) ≤ s := by omega
      clear h
      go_enter Try.func20, Try.ntmps20
      go_wp2
      go_ret
      exact ⟨rfl, rfl⟩
  · rw [if_neg (fun z : okSet n s => h0 z.1)]
    have d0 : s < 0 := by omega
    clear h
    go_enter Try.func20, Try.ntmps20
    go_wp2
    go_ret
    exact ⟨rfl, rfl⟩

theorem flush_of {w : World} {b r n : Nat} {L : Nat → Int} (h : Ch RT w b r n L) : Ch RT ((w.setCell ⟨b, 0, none⟩ (.slice (some ⟨w.heap.size, 0, none⟩) n n)).alloc (.cells (madeCells #[.int .i64 0] n) 3)) b w.heap.size n (fun _ => 0) ∧ Turn (fun k => k = b) w ((w.setCell ⟨b, 0, none⟩ (.slice (some ⟨w.heap.size, 0, none⟩) n n)).alloc (.cells (madeCells #[.int .i64 0] n) 3)) := by
  have hl := h.lt.1
  have hs : (w.setCell ⟨b, 0, none⟩ (.slice (some ⟨w.heap.size, 0, none⟩) n n)).heap.size = w.heap.size := by simp
  refine ⟨⟨?_, ?_, by omega, h.few, fun _ => by unfold I64; omega⟩, ?_⟩
  · exact kept_obj ((Below.refl _ _).alloc (Nat.le_refl _) _) ((blk_set h.str _).trans rfl)
  · have := row_new (w.setCell ⟨b, 0, none⟩ (.slice (some ⟨w.heap.size, 0, none⟩) n n)) n
    rwa [hs] at this
  · exact (Turn.setCell (S := fun k => k = b) (p := ⟨b, 0, none⟩) (Turn.refl _ w) (fun _ => rfl) _).alloc _
set_option maxHeartbeats 1000000 in
theorem rflush_any {w : World} {b r n : Nat} {L : Nat → Int} (h : Ch RT w b r n L) : Calls Try.prog 16 #[.pointer (some ⟨b, 0, none⟩)] w fun e w' => e = .returned (.tuple #[]) ∧ Ch RT w' b w.heap.size n (fun _ => 0) ∧ Turn (fun k => k = b) w w' := by
  have hmk := make_row n h.few
  have c0 := h.slice
  have f0 := h.free
  have hl := h.lt.1
  have H := Lib.hid h
  clear h
  go_enter Try.func16, Try.ntmps16
  go_wp2
  go_end0
  exact ⟨rfl, flush_of H.out⟩

set_option maxRecDepth 100000 in
set_option maxHeartbeats 4000000 in
theorem rof_any {w : World} {b r n : Nat} {L : Nat → Int} (h : Ch RT w b r n L) (o : Int) : Calls Try.prog 22 #[.pointer (some ⟨b, 0, none⟩), .int .i64 o] w (OfBack (ofP n L o) w) := by
  have HN0 : Hid (¬ okOwn o → ∀ k, wd (ofP n L o) k = 0) := fun q k => of_none q k
  have HP := Lib.hid (fun (ho : okOwn o) k => @setP_all n L o ho h.few k)
  have H0 := Lib.hid setP_nil
  have W1 := Lib.hid (fun (l : List Int) (x : Int) w => rwith_any (setP l) x w)
  obtain ⟨p, hp⟩ : ∃ p : List Int → Nat → Nat, ∀ l k, wd (setP l) k = p l k := ⟨_, fun _ _ => rfl⟩
  have hp2 : ∀ l x k, wd (orP (setP l) (oneP x)) k = p (l ++ [x]) k := fun l x k => by rw [setP_put, hp]
  simp only [hp, hp2] at HP H0 W1
  clear hp hp2
  have R0 : Blk4 ((w.alloc (.cells #[.int .u64 0, .int .u64 0, .int .u64 0, .int .u64 0] 37)).alloc (.cells #[.int .u64 0, .int .u64 0, .int .u64 0, .int .u64 0] 37)) w.heap.size 0 0 0 0 :=
    kept_obj ((Below.refl _ _).alloc (Nat.le_refl _) _) (heap_alloc_new w _)
  have R1 : Blk4 ((w.alloc (.cells #[.int .u64 0, .int .u64 0, .int .u64 0, .int .u64 0] 37)).alloc (.cells #[.int .u64 0, .int .u64 0, .int .u64 0, .int .u64 0] 37)) (w.heap.size + 1) 0 0 0 0 := by
    have := heap_alloc_new (w.alloc (.cells #[.int .u64 0, .int .u64 0, .int .u64 0, .int .u64 0] 37)) (.cells #[.int .u64 0, .int .u64 0, .int .u64 0, .int .u64 0] 37)
    rwa [World.size_alloc] at this
  have HT : Hid (TwoSets w p (ofsN L o 0) ((w.alloc (.cells #[.int .u64 0, .int .u64 0, .int .u64 0, .int .u64 0] 37)).alloc (.cells #[.int .u64 0, .int .u64 0, .int .u64 0, .int .u64 0] 37))) :=
    ⟨R0, by show Blk4 _ _ (p [] 0) (p [] 1) (p [] 2) (p [] 3); rw [H0.out, H0.out, H0.out, H0.out]; exact R1, (by repeat (first | exact Below.refl _ _ | (with_reducible assumption) | refine bw_alloc ?_ _ | refine bw_drew ?_))⟩
  clear R0 R1
  have CH := Lib.hid h
  have c0 := h.slice
  have hn := h.few
  clear h
  have HE : Hid (∀ pre W, TwoSets w p pre W → ((okOwn o ∧ pre = ofsN L o n) ∨ (¬ okOwn o ∧ pre = [])) → OfBack (ofP n L o) w (.returned (.agg #[.int .u64 (p pre 0), .int .u64 (p pre 1), .int .u64 (p pre 2), .int .u64 (p pre 3)])) ((((W.setCell ⟨w.heap.size, 0, none⟩ (.int .u64 (p pre 0))).setCell ⟨w.heap.size, 1, none⟩ (.int .u64 (p pre 1))).setCell ⟨w.heap.size, 2, none⟩ (.int .u64 (p pre 2))).setCell ⟨w.heap.size, 3, none⟩ (.int .u64 (p pre 3)))) := by
    rintro pre W hW hq
    unfold OfBack
    refine ⟨?_, below_set4 (d := w.heap.size) hW.low (Nat.le_refl _) _ _ _ _⟩
    rcases hq with ⟨ho, rfl⟩ | ⟨ho, rfl⟩
    · rw [HP.out ho, HP.out ho, HP.out ho, HP.out ho]
    · rw [H0.out, H0.out, H0.out, H0.out, HN0.out ho, HN0.out ho, HN0.out ho, HN0.out ho]
  go_enter Try.func22, Try.ntmps22
  go_upto_region 2 with fail
  refine gen_world (TwoSets w p (ofsN L o 0)) HT.out ?_
  intro W1' hw1
  have H1 := Lib.hid hw1
  clear hw1 HT
  go_wp2
  go_loopw [6] (fun u wr => ∃ k : Nat, k ≤ n ∧ u = .int .i64 k ∧ (k = 0 ∨ Hid (okOwn o)) ∧ Hid (TwoSets w p (ofsN L o k) wr)) (fun u _ => (n - intOf u).toNat)
  case atStart => exact ⟨0, by omega, rfl, .inl rfl, H1⟩
  case round =>
    obtain ⟨k, hk, rfl, hor, HI⟩ := hrel
    clear c0 H1
    have HOR := Lib.hid hor
    clear hor
    have c0 := (CH.out.below HI.out.low).slice
    by_cases hlt : k < n
    · have hlt1 : (k : Int) < n := by omega
      have c1 := (CH.out.below HI.out.low).row.cell hlt
      by_cases h2 : 1 ≤ o
      · by_cases h3 : o ≤ 99
        · have HO : Hid (okOwn o) := ⟨h2, h3⟩
          have d3 : decide (o ≤ 99) = true := decide_eq_true h3
          by_cases ho : L k = o
          · have hd : (L k == o) = true := by simp [ho]
            have C := Lib.hid (W1.out (ofsN L o k) (k : Int))
            have HEq : Hid (ofsN L o (k + 1) = ofsN L o k ++ [(k : Int)]) := ofs_yes ho
            obtain ⟨a0, a1, a2, a3, _, _, _, _⟩ := HI.out.all.four
            clear ho HOR
            generalize L k = y at *
            go_wp2_with (go_at_call 42; (refine (C.out _).mono ?_); rintro e w3 ⟨rfl, b3⟩; have HB3 := Lib.hid b3; obtain ⟨d0, d1, d2, d3, g0, g1, g2, g3⟩ := (HI.out.all.below b3).four; clear b3)
            go_roundw
            case rel => exact ⟨k + 1, by omega, by go_num, .inr HO, by rw [HEq.out]; exact (HI.out.put HB3.out (S := fun _ => False) (fun _ z => z.elim) (B := 0) (fun _ => rfl)).2.2⟩
            case measure => simp [intOf]; omega
          · have hd : (L k == o) = false := by simp [ho]
            have HEq : Hid (ofsN L o (k + 1) = ofsN L o k) := ofs_no ho
            clear ho HOR
            generalize L k = y at *
            go_wp2
            go_roundw
            case rel => exact ⟨k + 1, by omega, by go_num, .inr HO, by rw [HEq.out]; exact HI.out⟩
            case measure => simp [intOf]; omega
        · have d3 : decide (o ≤ 99) = false := decide_eq_false h3
          have HNO : Hid (¬ okOwn o) := fun z => h3 z.2
          have HQ : Hid ((okOwn o ∧ ofsN L o k = ofsN L o n) ∨ (¬ okOwn o ∧ ofsN L o k = [])) := by
            refine .inr ⟨HNO.out, ?_⟩
            rcases HOR.out with rfl | z
            · rfl
            · exact absurd z.out HNO.out
          clear HOR
          obtain ⟨z0, z1, z2, z3, v0, v1, v2, v3⟩ := HI.out.res.four
          obtain ⟨a0, a1, a2, a3, _, _, _, _⟩ := HI.out.all.four
          obtain ⟨s0, s1, s2, s3⟩ := set4_results HI.out.res.four (p (ofsN L o k) 0) (p (ofsN L o k) 1) (p (ofsN L o k) 2) (p (ofsN L o k) 3)
          have SS := Lib.hid (And.intro s0 (And.intro s1 (And.intro s2 s3)))
          clear s0 s1 s2 s3
          go_wp2
          obtain ⟨s0, s1, s2, s3⟩ := SS.out
          exact bodyPost_ret (v := .agg #[.int .u64 (p (ofsN L o k) 0), .int .u64 (p (ofsN L o k) 1), .int .u64 (p (ofsN L o k) 2), .int .u64 (p (ofsN L o k) 3)]) (by simp [results, Try.results22, go_sem, s0, s1, s2, s3]) rfl (HE.out _ _ HI.out HQ.out)
      · have HNO : Hid (¬ okOwn o) := fun z => h2 z.1
        have HQ : Hid ((okOwn o ∧ ofsN L o k = ofsN L o n) ∨ (¬ okOwn o ∧ ofsN L o k = [])) := by
          refine .inr ⟨HNO.out, ?_⟩
          rcases HOR.out with rfl | z
          · rfl
          · exact absurd z.out HNO.out
        clear HOR
        obtain ⟨z0, z1, z2, z3, v0, v1, v2, v3⟩ := HI.out.res.four
        obtain ⟨a0, a1, a2, a3, _, _, _, _⟩ := HI.out.all.four
        obtain ⟨s0, s1, s2, s3⟩ := set4_results HI.out.res.four (p (ofsN L o k) 0) (p (ofsN L o k) 1) (p (ofsN L o k) 2) (p (ofsN L o k) 3)
        have SS := Lib.hid (And.intro s0 (And.intro s1 (And.intro s2 s3)))
        clear s0 s1 s2 s3
        go_wp2
        obtain ⟨s0, s1, s2, s3⟩ := SS.out
        exact bodyPost_ret (v := .agg #[.int .u64 (p (ofsN L o k) 0), .int .u64 (p (ofsN L o k) 1), .int .u64 (p (ofsN L o k) 2), .int .u64 (p (ofsN L o k) 3)]) (by simp [results, Try.results22, go_sem, s0, s1, s2, s3]) rfl (HE.out _ _ HI.out HQ.out)
    · have hkn : k = n := by omega
      have HQ : Hid ((okOwn o ∧ ofsN L o k = ofsN L o n) ∨ (¬ okOwn o ∧ ofsN L o k = [])) := by
        by_cases z : okOwn o
        · exact .inl ⟨z, by rw [hkn]⟩
        · refine .inr ⟨z, ?_⟩
          rcases HOR.out with rfl | z2
          · rfl
          · exact absurd z2.out z
      have hlt1 : ¬ (k : Int) < n := by omega
      clear HOR hkn
      obtain ⟨z0, z1, z2, z3, v0, v1, v2, v3⟩ := HI.out.res.four
      obtain ⟨a0, a1, a2, a3, _, _, _, _⟩ := HI.out.all.four
      obtain ⟨s0, s1, s2, s3⟩ := set4_results HI.out.res.four (p (ofsN L o k) 0) (p (ofsN L o k) 1) (p (ofsN L o k) 2) (p (ofsN L o k) 3)
      have SS := Lib.hid (And.intro s0 (And.intro s1 (And.intro s2 s3)))
      clear s0 s1 s2 s3
      go_wp2
      obtain ⟨s0, s1, s2, s3⟩ := SS.out
      exact bodyPost_ret (v := .agg #[.int .u64 (p (ofsN L o k) 0), .int .u64 (p (ofsN L o k) 1), .int .u64 (p (ofsN L o k) 2), .int .u64 (p (ofsN L o k) 3)]) (by simp [results, Try.results22, go_sem, s0, s1, s2, s3]) rfl (HE.out _ _ HI.out HQ.out)
end Go.Proofs.Ytflemmmaakhahaa

/-
  Tasks and systems that came in, opened.
-/
namespace Go.Proofs.Ytflemmmaakhahaa
open Go.ChangeShapes Go.WideShapes Go.ChangeAt Go.RowKit

instance : Inhabited TV := ⟨⟨0, 0, 0, 0, 0, none, [], 0, none, [], 0⟩⟩
section
variable {H : Type} {enc : TypeId × Value → H} {W : World} {base : Nat} {spare : Nat → Bool} {held : Bool}

set_option maxRecDepth 100000 in
/-- A row of numbers. -/
theorem open_nums {t e : TypeId} {fuel : Nat} {v : Value} {x : DataW H × List MemPlace} (ht : Try.prog.underlying t = some (.slice e)) (he : Try.prog.underlying e = some (.int .i64)) (hc : Try.prog.cellsOf e = 1)
    (h : DataW.trod enc Try.prog W base spare held fuel t [v] = some x) : ∃ (a : Option Addr) (l : List Int) (c : Nat), v = .slice a l.length c ∧ Ints W a l ∧ l.length ≤ c ∧ (c : Int) ≤ 9223372036854775807 ∧ ∀ y ∈ l, I64 y := by
  rcases open_ints ht he hc h with ⟨hcs, _⟩ | ⟨a, len, cap, zs, hcs, _, hl, hm, hz, _, hcell, hw⟩
  · simp at hcs; subst hcs
    exact ⟨none, [], 0, rfl, .inl rfl, Nat.le_refl _, by omega, fun y hy => by cases hy⟩
  · simp at hcs; subst hcs
    have hlz : len ≤ zs.length := by rw [hz]; split <;> omega
    have hlen : (zs.take len).length = len := by rw [List.length_take]; omega
    refine ⟨some a, zs.take len, cap, by rw [hlen], ?_, by omega, by unfold maxLen at hm; omega, fun y hy => i64_of_wf (hw y (List.mem_of_mem_take hy))⟩
    rcases Nat.eq_zero_or_pos len with e | e
    · left; rw [e]; simp
    · right
      have h0 := hcell 0 (by omega)
      rcases a with ⟨b, off, spot⟩
      have hs : spot = none := by
        cases spot with
        | none => rfl
        | some s => simp [World.cell?, Addr.add] at h0; split at h0 <;> simp at h0
      subst hs
      refine ⟨b, off, rfl, fun j u hj => ?_⟩
      rw [List.getElem?_take] at hj
      split at hj
      · obtain ⟨q1, q2⟩ := List.getElem?_eq_some_iff.1 hj
        have := hcell j q1
        rw [addr_at] at this
        rw [this]
        simp [List.getD_eq_getElem?_getD, hj]
      · cases hj

set_option maxRecDepth 100000 in
/-- The cells of a task. -/
theorem open_cells {fuel : Nat} {cs : List Value} {y : DataW H × List MemPlace} (h : DataW.trod enc Try.prog W base spare held fuel TT cs = some y) : ∃ x : TV, cs = x.cells ∧ x.ok W ∧ I64 x.p ∧ I64 x.id := by
  obtain ⟨xs, n, _, _, hl, hlen, hf⟩ := DataW.trod_struct Try.underlying47 h
  have hl7 : cs.length = 7 := hl.trans (by kernel_rfl)
  have hx7 : xs.length = 7 := hlen
  have k1 : Try.prog.cellsOf 3 = 1 := by kernel_rfl
  have k2 : Try.prog.cellsOf 2 = 1 := by kernel_rfl
  have k3 : Try.prog.cellsOf 44 = 1 := by kernel_rfl
  have k4 : Try.prog.cellsOf 45 = 1 := by kernel_rfl
  match cs, hl7, xs, hx7 with
  | [v0, v1, v2, v3, v4, v5, v6], _, [y0, y1, y2, y3, y4, y5, y6], _ =>
    have t0 : DataW.trod enc Try.prog W base spare held n 3 [v0] = some y0 := by have q := hf 0 _ rfl; simpa [k1, k2, k3, k4] using q
    have t1 : DataW.trod enc Try.prog W base spare held n 2 [v1] = some y1 := by have q := hf 1 _ rfl; simpa [k1, k2, k3, k4] using q
    have t2 : DataW.trod enc Try.prog W base spare held n 2 [v2] = some y2 := by have q := hf 2 _ rfl; simpa [k1, k2, k3, k4] using q
    have t3 : DataW.trod enc Try.prog W base spare held n 2 [v3] = some y3 := by have q := hf 3 _ rfl; simpa [k1, k2, k3, k4] using q
    have t4 : DataW.trod enc Try.prog W base spare held n 3 [v4] = some y4 := by have q := hf 4 _ rfl; simpa [k1, k2, k3, k4] using q
    have t5 : DataW.trod enc Try.prog W base spare held n 44 [v5] = some y5 := by have q := hf 5 _ rfl; simpa [k1, k2, k3, k4] using q
    have t6 : DataW.trod enc Try.prog W base spare held n 45 [v6] = some y6 := by have q := hf 6 _ rfl; simpa [k1, k2, k3, k4] using q
    obtain ⟨n0, e0, _, w0⟩ := DataW.trod_int Try.underlying3 t0
    obtain ⟨n1, e1, _, w1⟩ := DataW.trod_int Try.underlying2 t1
    obtain ⟨n2, e2, _, w2⟩ := DataW.trod_int Try.underlying2 t2
    obtain ⟨n3, e3, _, w3⟩ := DataW.trod_int Try.underlying2 t3
    obtain ⟨n4, e4, _, w4⟩ := DataW.trod_int Try.underlying3 t4
    obtain ⟨a1, l1, c1, e5, i5, le5, m5, _⟩ := open_nums (v := v5) Try.underlying44 Try.underlying2 k2 t5
    obtain ⟨a2, l2, c2, e6, i6, le6, m6, _⟩ := open_nums (v := v6) Try.underlying45 Try.underlying3 k1 t6
    simp at e0 e1 e2 e3 e4
    subst e0 e1 e2 e3 e4 e5 e6
    exact ⟨⟨n0, n1, n2, n3, n4, a1, l1, c1, a2, l2, c2⟩, rfl, ⟨i5, i6, le5, m5, le6, m6⟩, i64_of_wf w4, i64_of_wf w0⟩

set_option maxRecDepth 100000 in
/-- A task by value. -/
theorem open_task {r : Reach} {b0 : Nat} {v : Value} {d : DataW H} {p : List MemPlace} (hv : Value.okWide Try.prog W r b0 TT v) (h : DataW.Trod enc Try.prog W base spare held TT v d p) : ∃ x : TV, v = x.val ∧ x.ok W ∧ I64 x.p ∧ I64 x.id := by
  obtain ⟨cs, rfl, _⟩ := okWide_struct Try.underlying47 hv
  obtain ⟨fuel, hf⟩ := h
  obtain ⟨x, hx, h1, h2⟩ := open_cells hf
  refine ⟨x, ?_, h1, h2⟩
  simp only [Value.cells] at hx
  unfold TV.val
  congr 1
  apply Array.ext'
  exact hx

set_option maxRecDepth 100000 in
/-- A row of tasks. -/
theorem open_tasks {fuel : Nat} {v : Value} {y : DataW H × List MemPlace} (h : DataW.trod enc Try.prog W base spare held fuel 27 [v] = some y) :
    ∃ (a : Option Addr) (n c : Nat) (L : List TV), v = .slice a n c ∧ Tasks W a n c L ∧ ∀ x ∈ L, I64 x.p ∧ I64 x.id := by
  rcases Go.Deep.open_slice Try.underlying27 h with ⟨hcs, _⟩ | ⟨a, len, cap, m, n, D, Pl, hcs, hb, hl, hm, hmm, hx, hi⟩
  · simp at hcs; subst hcs
    exact ⟨none, 0, 0, [], rfl, ⟨rfl, .inl rfl, (fun x hx => by cases hx), Nat.le_refl _, by omega⟩, (fun x hx => by cases hx)⟩
  · simp at hcs; subst hcs
    have k7 : Try.prog.cellsOf TT = 7 := by kernel_rfl
    have hlm : len ≤ m := by rw [hmm]; split <;> omega
    obtain ⟨O, hO⟩ := Go.Deep.choose_lt (n := len) (p := fun i (x : TV) => (x.ok W ∧ I64 x.p ∧ I64 x.id) ∧ ∀ j u, x.cells[j]? = some u → W.cell? (a.add (i * 7 + j)) = some u) (fun i hil => by
      obtain ⟨cs, hc, htr⟩ := hi i (by omega)
      rw [k7] at hc
      obtain ⟨_, hcl, hat⟩ := World.cells?_some hc
      obtain ⟨x, rfl, h1, h2⟩ := open_cells htr
      refine ⟨x, ⟨h1, h2⟩, fun j u hj => ?_⟩
      have hjl : j < 7 := by
        have := (List.getElem?_eq_some_iff.1 hj).1
        rwa [cells_len] at this
      have := hat j hjl
      rw [Go.Deep.add_add] at this
      rw [this]; exact hj)
    refine ⟨some a, len, cap, (List.range len).map O, rfl, ⟨by simp, ?_, ?_, hl, by unfold maxLen at hm; omega⟩, ?_⟩
    · rcases Nat.eq_zero_or_pos len with z | z
      · subst z; left; rfl
      have z0 := (hO 0 z).2 0 _ rfl
      rcases a with ⟨b, off, spot⟩
      have hs : spot = none := by
        cases spot with
        | none => rfl
        | some s => simp [World.cell?, Addr.add] at z0; split at z0 <;> simp at z0
      subst hs
      refine .inr ⟨b, off, rfl, fun j u hj => ?_⟩
      have hjl : j < len * 7 := by
        have := (List.getElem?_eq_some_iff.1 hj).1
        rwa [flat_len, List.length_map, List.length_range] at this
      have hk : ((List.range len).map O)[j / 7]? = some (O (j / 7)) := by simp [show j / 7 < len by omega]
      have hf := flat_at _ _ _ hk (j % 7) (by omega)
      rw [show j / 7 * 7 + j % 7 = j by omega, hj] at hf
      have := (hO (j / 7) (by omega)).2 (j % 7) u hf.symm
      rw [addr_at, show j / 7 * 7 + j % 7 = j by omega] at this
      exact this
    · intro x hx
      obtain ⟨i, hi, rfl⟩ := List.mem_map.1 hx
      exact (hO i (by simpa using hi)).1.1
    · intro x hx
      obtain ⟨i, hi, rfl⟩ := List.mem_map.1 hx
      exact (hO i (by simpa using hi)).1.2

set_option maxRecDepth 100000 in
/-- A system by value. -/
theorem open_system {r : Reach} {b0 : Nat} {v : Value} {d : DataW H} {p : List MemPlace} (hv : Value.okWide Try.prog W r b0 29 v) (h : DataW.Trod enc Try.prog W base spare held 29 v d p) :
    ∃ (s r : Int) (a : Option Addr) (n c : Nat) (L : List TV), v = .agg #[.int .i64 s, .int .i64 r, .slice a n c] ∧ Tasks W a n c L ∧ ∀ x ∈ L, I64 x.p ∧ I64 x.id := by
  obtain ⟨v0, v1, v2, y0, y1, y2, n, rfl, _, _, t0, t1, t2⟩ := Go.Joins.open_agg3 Try.underlying29 (by kernel_rfl) (by kernel_rfl) hv h
  obtain ⟨n0, e0, _, _⟩ := DataW.trod_int Try.underlying3 t0
  obtain ⟨n1, e1, _, _⟩ := DataW.trod_int Try.underlying2 t1
  obtain ⟨a, n2, c, L, e2, h2, h3⟩ := open_tasks t2
  simp at e0 e1
  subst e0 e1 e2
  exact ⟨n0, n1, a, n2, c, L, rfl, h2, h3⟩
end
end Go.Proofs.Ytflemmmaakhahaa

/-
  Works, rows of pairs and rows of steps that came in, opened.
-/
namespace Go.Proofs.Ytflemmmaakhahaa
open Go.ChangeShapes Go.WideShapes Go.ChangeAt Go.RowKit

section
variable {H : Type} {enc : TypeId × Value → H} {W : World} {base : Nat} {spare : Nat → Bool} {held : Bool}

set_option maxRecDepth 100000 in
theorem nat_of_wf {n : Int} (h : (Lit.int .u64 n).wf = true) : ∃ m : Nat, n = (m : Int) ∧ m < 18446744073709551616 := by
  simp [Lit.wf, IntKind.min, IntKind.max, IntKind.signed, IntKind.bits] at h
  exact ⟨n.toNat, by omega, by omega⟩
set_option maxRecDepth 100000 in
/-- The four words of a set. -/
theorem open_bits {fuel : Nat} {v0 v1 v2 v3 : Value} {y : DataW H × List MemPlace} (h : DataW.trod enc Try.prog W base spare held fuel 37 [v0, v1, v2, v3] = some y) :
    ∃ x : Nat → Nat, (v0 = .int .u64 (x 0) ∧ v1 = .int .u64 (x 1) ∧ v2 = .int .u64 (x 2) ∧ v3 = .int .u64 (x 3)) ∧ ∀ k, x k < 18446744073709551616 := by
  have k1 : Try.prog.cellsOf 35 = 1 := by kernel_rfl
  obtain ⟨ys, m, _, _, hlen, hyl, hall⟩ := DataW.trod_array Try.underlying37 h
  rw [k1] at hall
  match ys, hyl with
  | [y0, y1, y2, y3], _ =>
    have t0 : DataW.trod enc Try.prog W base spare held m 35 [v0] = some y0 := by have q := hall 0 (by omega); simpa using q
    have t1 : DataW.trod enc Try.prog W base spare held m 35 [v1] = some y1 := by have q := hall 1 (by omega); simpa using q
    have t2 : DataW.trod enc Try.prog W base spare held m 35 [v2] = some y2 := by have q := hall 2 (by omega); simpa using q
    have t3 : DataW.trod enc Try.prog W base spare held m 35 [v3] = some y3 := by have q := hall 3 (by omega); simpa using q
    obtain ⟨n0, e0, _, w0⟩ := DataW.trod_int Try.underlying35 t0
    obtain ⟨n1, e1, _, w1⟩ := DataW.trod_int Try.underlying35 t1
    obtain ⟨n2, e2, _, w2⟩ := DataW.trod_int Try.underlying35 t2
    obtain ⟨n3, e3, _, w3⟩ := DataW.trod_int Try.underlying35 t3
    simp at e0 e1 e2 e3
    subst e0 e1 e2 e3
    obtain ⟨m0, rfl, l0⟩ := nat_of_wf w0
    obtain ⟨m1, rfl, l1⟩ := nat_of_wf w1
    obtain ⟨m2, rfl, l2⟩ := nat_of_wf w2
    obtain ⟨m3, rfl, l3⟩ := nat_of_wf w3
    exact ⟨fun k => match k with | 0 => m0 | 1 => m1 | 2 => m2 | _ => m3, ⟨rfl, rfl, rfl, rfl⟩, fun k => by
      match k with
      | 0 => exact l0
      | 1 => exact l1
      | 2 => exact l2
      | _ + 3 => exact l3⟩
set_option maxRecDepth 100000 in
/-- The cells of a work. -/
theorem open_wcells {fuel : Nat} {cs : List Value} {y : DataW H × List MemPlace} (h : DataW.trod enc Try.prog W base spare held fuel WT cs = some y) :
    ∃ (a b c d : Int) (x : Nat → Nat), cs = [.int .i64 a, .int .i64 b, .int .i64 c, .int .i64 d, .int .u64 (x 0), .int .u64 (x 1), .int .u64 (x 2), .int .u64 (x 3)] ∧ (I64 a ∧ I64 b ∧ I64 c ∧ I64 d) ∧ ∀ k, x k < 18446744073709551616 := by
  obtain ⟨xs, n, _, _, hl, hlen, hf⟩ := DataW.trod_struct Try.underlying39 h
  have hl8 : cs.length = 8 := hl.trans (by kernel_rfl)
  have hx5 : xs.length = 5 := hlen
  have k1 : Try.prog.cellsOf 2 = 1 := by kernel_rfl
  have k2 : Try.prog.cellsOf 37 = 4 := by kernel_rfl
  match cs, hl8, xs, hx5 with
  | [v0, v1, v2, v3, v4, v5, v6, v7], _, [y0, y1, y2, y3, y4], _ =>
    have t0 : DataW.trod enc Try.prog W base spare held n 2 [v0] = some y0 := by have q := hf 0 _ rfl; simpa [k1, k2] using q
    have t1 : DataW.trod enc Try.prog W base spare held n 2 [v1] = some y1 := by have q := hf 1 _ rfl; simpa [k1, k2] using q
    have t2 : DataW.trod enc Try.prog W base spare held n 2 [v2] = some y2 := by have q := hf 2 _ rfl; simpa [k1, k2] using q
    have t3 : DataW.trod enc Try.prog W base spare held n 2 [v3] = some y3 := by have q := hf 3 _ rfl; simpa [k1, k2] using q
    have t4 : DataW.trod enc Try.prog W base spare held n 37 [v4, v5, v6, v7] = some y4 := by have q := hf 4 _ rfl; simpa [k1, k2] using q
    obtain ⟨n0, e0, _, w0⟩ := DataW.trod_int Try.underlying2 t0
    obtain ⟨n1, e1, _, w1⟩ := DataW.trod_int Try.underlying2 t1
    obtain ⟨n2, e2, _, w2⟩ := DataW.trod_int Try.underlying2 t2
    obtain ⟨n3, e3, _, w3⟩ := DataW.trod_int Try.underlying2 t3
    obtain ⟨x, ⟨e4, e5, e6, e7⟩, hx⟩ := open_bits t4
    simp at e0 e1 e2 e3
    subst e0 e1 e2 e3 e4 e5 e6 e7
    exact ⟨n0, n1, n2, n3, x, rfl, ⟨i64_of_wf w0, i64_of_wf w1, i64_of_wf w2, i64_of_wf w3⟩, hx⟩
set_option maxRecDepth 100000 in
/-- A work by value. -/
theorem open_work {r : Reach} {b0 : Nat} {v : Value} {d : DataW H} {p : List MemPlace} (hv : Value.okWide Try.prog W r b0 WT v) (h : DataW.Trod enc Try.prog W base spare held WT v d p) :
    ∃ (a b c d : Int) (x : Nat → Nat), v = .agg #[.int .i64 a, .int .i64 b, .int .i64 c, .int .i64 d, .int .u64 (x 0), .int .u64 (x 1), .int .u64 (x 2), .int .u64 (x 3)] ∧ (I64 a ∧ I64 b ∧ I64 c ∧ I64 d) ∧ ∀ k, x k < 18446744073709551616 := by
  obtain ⟨cs, rfl, _⟩ := okWide_struct Try.underlying39 hv
  obtain ⟨fuel, hf⟩ := h
  obtain ⟨a, b, c, d, x, hx, h1, h2⟩ := open_wcells hf
  refine ⟨a, b, c, d, x, ?_, h1, h2⟩
  simp only [Value.cells] at hx
  congr 1
  apply Array.ext'
  exact hx
set_option maxRecDepth 100000 in
/-- Words are a set's. -/
theorem words_set (x : Nat → Nat) (hx : ∀ k, x k < 18446744073709551616) : ∃ p : Nat → Bool, wd p 0 = x 0 ∧ wd p 1 = x 1 ∧ wd p 2 = x 2 ∧ wd p 3 = x 3 :=
  ⟨_, wd_setOf (x 0) (x 1) (x 2) (x 3) (hx 0) (hx 1) (hx 2) (hx 3)⟩
end
end Go.Proofs.Ytflemmmaakhahaa

/-
  Rows of steps that came in, opened.
-/
namespace Go.Proofs.Ytflemmmaakhahaa
open Go.ChangeShapes Go.WideShapes Go.ChangeAt Go.RowKit

/-- A step. -/
structure OV where
  kd : Int
  st : Int
  ow : Int
  nn : Int
  raw : Bool
  fl : Bool
  rl : Int
  wk : WK
instance : Inhabited OV := ⟨⟨0, 0, 0, 0, false, false, 0, noWork⟩⟩
def OV.cells (o : OV) : List Value := [.int .i64 o.kd, .int .i64 o.st, .int .i64 o.ow, .int .i64 o.nn, .bool o.raw, .bool o.fl, .int .i64 o.rl, .int .i64 o.wk.dn, .int .i64 o.wk.dm, .int .i64 o.wk.db, .int .i64 o.wk.rl, .int .u64 (wd o.wk.sn 0), .int .u64 (wd o.wk.sn 1), .int .u64 (wd o.wk.sn 2), .int .u64 (wd o.wk.sn 3)]
def OV.ok (o : OV) : Prop := I64 o.kd ∧ I64 o.st ∧ I64 o.ow ∧ I64 o.nn ∧ I64 o.rl ∧ I64 o.wk.dn ∧ I64 o.wk.dm ∧ I64 o.wk.db ∧ I64 o.wk.rl
/-- A row of steps. -/
structure Steps (W : World) (a : Option Addr) (n : Nat) (l : Nat → OV) : Prop where
  small : (n : Int) ≤ 9223372036854775807
  at_ : ∀ k, k < n → ∃ g o, a = some ⟨g, o, none⟩ ∧ ∀ j u, (l k).cells[j]? = some u → W.cell? ⟨g, o + (k * 15 + j), none⟩ = some u
  wf : ∀ k, k < n → (l k).ok
section
variable {H : Type} {enc : TypeId × Value → H} {W : World} {base : Nat} {spare : Nat → Bool} {held : Bool}
set_option maxRecDepth 100000 in
theorem open_ocells {fuel : Nat} {cs : List Value} {y : DataW H × List MemPlace} (h : DataW.trod enc Try.prog W base spare held fuel 42 cs = some y) : ∃ o : OV, cs = o.cells ∧ o.ok := by
  obtain ⟨xs, n, _, _, hl, hlen, hf⟩ := DataW.trod_struct Try.underlying42 h
  have hl8 : cs.length = 15 := hl.trans (by kernel_rfl)
  have hx8 : xs.length = 8 := hlen
  have k1 : Try.prog.cellsOf 3 = 1 := by kernel_rfl
  have k2 : Try.prog.cellsOf 2 = 1 := by kernel_rfl
  have k3 : Try.prog.cellsOf 4 = 1 := by kernel_rfl
  have k4 : Try.prog.cellsOf 39 = 8 := by kernel_rfl
  match cs, hl8, xs, hx8 with
  | [v0, v1, v2, v3, v4, v5, v6, v7, v8, v9, v10, v11, v12, v13, v14], _, [y0, y1, y2, y3, y4, y5, y6, y7], _ =>
    have t0 : DataW.trod enc Try.prog W base spare held n 3 [v0] = some y0 := by have q := hf 0 _ rfl; simpa [k1, k2, k3, k4] using q
    have t1 : DataW.trod enc Try.prog W base spare held n 3 [v1] = some y1 := by have q := hf 1 _ rfl; simpa [k1, k2, k3, k4] using q
    have t2 : DataW.trod enc Try.prog W base spare held n 3 [v2] = some y2 := by have q := hf 2 _ rfl; simpa [k1, k2, k3, k4] using q
    have t3 : DataW.trod enc Try.prog W base spare held n 3 [v3] = some y3 := by have q := hf 3 _ rfl; simpa [k1, k2, k3, k4] using q
    have t4 : DataW.trod enc Try.prog W base spare held n 4 [v4] = some y4 := by have q := hf 4 _ rfl; simpa [k1, k2, k3, k4] using q
    have t5 : DataW.trod enc Try.prog W base spare held n 4 [v5] = some y5 := by have q := hf 5 _ rfl; simpa [k1, k2, k3, k4] using q
    have t6 : DataW.trod enc Try.prog W base spare held n 2 [v6] = some y6 := by have q := hf 6 _ rfl; simpa [k1, k2, k3, k4] using q
    have t7 : DataW.trod enc Try.prog W base spare held n 39 [v7, v8, v9, v10, v11, v12, v13, v14] = some y7 := by have q := hf 7 _ rfl; simpa [k1, k2, k3, k4] using q
    obtain ⟨n0, e0, _, w0⟩ := DataW.trod_int Try.underlying3 t0
    obtain ⟨n1, e1, _, w1⟩ := DataW.trod_int Try.underlying3 t1
    obtain ⟨n2, e2, _, w2⟩ := DataW.trod_int Try.underlying3 t2
    obtain ⟨n3, e3, _, w3⟩ := DataW.trod_int Try.underlying3 t3
    obtain ⟨b4, e4, _⟩ := DataW.trod_bool Try.underlying4 t4
    obtain ⟨b5, e5, _⟩ := DataW.trod_bool Try.underlying4 t5
    obtain ⟨n6, e6, _, w6⟩ := DataW.trod_int Try.underlying2 t6
    obtain ⟨a, b, c, d, x, e7, ⟨i0, i1, i2, i3⟩, hx⟩ := open_wcells t7
    obtain ⟨p, p0, p1, p2, p3⟩ := words_set x hx
    simp at e0 e1 e2 e3 e4 e5 e6
    simp only [List.cons.injEq, and_true] at e7
    obtain ⟨f0, f1, f2, f3, f4, f5, f6, f7⟩ := e7
    subst e0 e1 e2 e3 e4 e5 e6 f0 f1 f2 f3 f4 f5 f6 f7
    refine ⟨⟨n0, n1, n2, n3, b4, b5, n6, ⟨a, b, c, d, p⟩⟩, ?_, i64_of_wf w0, i64_of_wf w1, i64_of_wf w2, i64_of_wf w3, i64_of_wf w6, i0, i1, i2, i3⟩
    unfold OV.cells
    dsimp only
    rw [p0, p1, p2, p3]
set_option maxRecDepth 100000 in
theorem open_steps {r : Reach} {b0 : Nat} {v : Value} {d : DataW H} {p : List MemPlace} (hv : Value.okWide Try.prog W r b0 25 v) (h : DataW.Trod enc Try.prog W base spare held 25 v d p) :
    ∃ (a : Option Addr) (n c : Nat) (l : Nat → OV), v = .slice a n c ∧ Steps W a n l := by
  obtain ⟨a0, len, cap, rfl⟩ := okWide_slice Try.underlying25 hv
  refine ⟨a0, len, cap, ?_⟩
  obtain ⟨fuel, hf⟩ := h
  have k2 : Try.prog.cellsOf 42 = 15 := by kernel_rfl
  have hf : DataW.trod enc Try.prog W base spare held fuel 25 [.slice a0 len cap] = some (d, p) := by simpa [Value.cells] using hf
  rcases Go.Deep.open_slice Try.underlying25 hf with ⟨hcs, _⟩ | ⟨a, len', cap', m, n, D, Pl, hcs, hb, hl, hm, hmm, hx, hi⟩
  · simp at hcs
    obtain ⟨rfl, rfl, rfl⟩ := hcs
    exact ⟨fun _ => default, rfl, by omega, fun k hk => absurd hk (Nat.not_lt_zero _), fun k hk => absurd hk (Nat.not_lt_zero _)⟩
  · simp at hcs
    obtain ⟨rfl, rfl, rfl⟩ := hcs
    have hlm : len ≤ m := by rw [hmm]; split <;> omega
    obtain ⟨O, hO⟩ := Go.Deep.choose_lt (n := len) (p := fun i (o : OV) => o.ok ∧ ∀ j u, o.cells[j]? = some u → W.cell? (a.add (i * 15 + j)) = some u) (fun i hil => by
      obtain ⟨cs, hc, htr⟩ := hi i (by omega)
      rw [k2] at hc
      obtain ⟨_, hcl, hat⟩ := World.cells?_some hc
      obtain ⟨o, rfl, hok⟩ := open_ocells htr
      refine ⟨o, hok, fun j u hj => ?_⟩
      have hj15 : j < 15 := (List.getElem?_eq_some_iff.1 hj).1
      have := hat j hj15
      rw [Go.Deep.add_add] at this
      rw [this]; exact hj)
    refine ⟨O, rfl, by unfold maxLen at hm; omega, fun k hk => ?_, fun k hk => (hO k hk).1⟩
    have z0 := (hO 0 (by omega)).2 0 _ rfl
    rcases a with ⟨b, off, spot⟩
    have hs : spot = none := by
      cases spot with
      | none => rfl
      | some s => simp [World.cell?, Addr.add] at z0; split at z0 <;> simp at z0
    subst hs
    refine ⟨b, off, rfl, fun j u hj => ?_⟩
    have := (hO k hk).2 j u hj
    rw [addr_at] at this
    exact this
set_option maxRecDepth 100000 in
theorem Steps.below {w w' : World} {a : Option Addr} {n : Nat} {l : Nat → OV} (h : Steps w a n l) (hb : Below w.heap.size w w') : Steps w' a n l :=
  ⟨h.small, fun k hk => by obtain ⟨g, o, e, hc⟩ := h.at_ k hk; exact ⟨g, o, e, fun j u hj => kept_cell hb (hc j u hj)⟩, h.wf⟩
end
end Go.Proofs.Ytflemmmaakhahaa

/-
  Both caches, a system, works and a step in memory.
-/
namespace Go.Proofs.Ytflemmmaakhahaa
open Go.RowKit Go.Maps

theorem TickAt.turnS {T : TypeId} {m : Nat} {w5 : World} {s r : Int} {a5 : Option Addr} {N c5 b rr n : Nat} {Lc : Nat → Int} {g2 : Nat} {f : Nat → WK} {w w' : World} {z : Nat} (h : TickAt T m w5 s r a5 N c5 b rr n Lc g2 f w) (ht : Turn (fun k => k = z) w w') (h0 : w5.heap.size < z) (h1 : z ≠ b) (h2 : z ≠ rr) (h3 : z ≠ g2) : TickAt T m w5 s r a5 N c5 b rr n Lc g2 f w' :=
  ⟨h.low.trans (ht.below (B := w5.heap.size) h.low.size (fun i q => by subst q; exact Nat.le_of_lt h0)), ht.obj h.sb (Nat.ne_of_lt h0), h.ch.turn ht h1.symm h2.symm, h.ar.turn ht h3.symm, h.lb, h.lr, h.lg, h.gb, h.gr⟩
/-- Both caches, a system, a row of works. -/
structure Play0 (w5 : World) (ns : Nat) (r : Int) (a5 : Option Addr) (N c5 b rr g2 b2 : Nat) (Lc Ld : Nat → Int) (f : Nat → WK) (r2 : Nat) (w : World) : Prop where
  t : TickAt 40 6 w5 (ns : Int) r a5 N c5 b rr ns Lc g2 f w
  rc : Ch RT w b2 r2 ns Ld
  l1 : w5.heap.size < b2
  l2 : w5.heap.size < r2
  d1 : r2 ≠ b
  d2 : r2 ≠ rr
  d3 : r2 ≠ g2
  d4 : b2 ≠ b
  d5 : b2 ≠ rr
  d6 : b2 ≠ g2
theorem Play0.below {w5 : World} {ns : Nat} {r : Int} {a5 : Option Addr} {N c5 b rr g2 b2 : Nat} {Lc Ld : Nat → Int} {f : Nat → WK} {r2 : Nat} {w w' : World} (h : Play0 w5 ns r a5 N c5 b rr g2 b2 Lc Ld f r2 w) (hb : Below w.heap.size w w') : Play0 w5 ns r a5 N c5 b rr g2 b2 Lc Ld f r2 w' :=
  ⟨h.t.below hb, h.rc.below hb, h.l1, h.l2, h.d1, h.d2, h.d3, h.d4, h.d5, h.d6⟩
theorem Play0.turnC {w5 : World} {ns : Nat} {r : Int} {a5 : Option Addr} {N c5 b rr g2 b2 : Nat} {Lc Ld : Nat → Int} {f : Nat → WK} {r2 : Nat} {Lc' : Nat → Int} {w w' : World} (h : Play0 w5 ns r a5 N c5 b rr g2 b2 Lc Ld f r2 w) (ht : Turn (fun k => k = rr) w w') (hc : Ch CT w' b rr ns Lc') : Play0 w5 ns r a5 N c5 b rr g2 b2 Lc' Ld f r2 w' :=
  ⟨h.t.turn ht hc, h.rc.turn ht h.d5 h.d2, h.l1, h.l2, h.d1, h.d2, h.d3, h.d4, h.d5, h.d6⟩
theorem Play0.turnR {w5 : World} {ns : Nat} {r : Int} {a5 : Option Addr} {N c5 b rr g2 b2 : Nat} {Lc Ld : Nat → Int} {f : Nat → WK} {r2 : Nat} {Ld' : Nat → Int} {w w' : World} (h : Play0 w5 ns r a5 N c5 b rr g2 b2 Lc Ld f r2 w) (ht : Turn (fun k => k = r2) w w') (hc : Ch RT w' b2 r2 ns Ld') : Play0 w5 ns r a5 N c5 b rr g2 b2 Lc Ld' f r2 w' :=
  ⟨h.t.turnS ht h.l2 h.d1 h.d2 h.d3, hc, h.l1, h.l2, h.d1, h.d2, h.d3, h.d4, h.d5, h.d6⟩
theorem Play0.flushR {w5 : World} {ns : Nat} {r : Int} {a5 : Option Addr} {N c5 b rr g2 b2 : Nat} {Lc Ld : Nat → Int} {f : Nat → WK} {r2 : Nat} {Ld' : Nat → Int} {w w' : World} (h : Play0 w5 ns r a5 N c5 b rr g2 b2 Lc Ld f r2 w) (ht : Turn (fun k => k = b2) w w') (hc : Ch RT w' b2 w.heap.size ns Ld') : Play0 w5 ns r a5 N c5 b rr g2 b2 Lc Ld' f w.heap.size w' := by
  have q0 := lt_of_block h.t.sb
  have q1 := h.t.ch.lt
  have q2 := h.t.ar.lt
  exact ⟨h.t.turnS ht h.l1 h.d4 h.d5 h.d6, hc, h.l1, q0, by omega, by omega, by omega, h.d4, h.d5, h.d6⟩
theorem Play0.set {w5 : World} {ns : Nat} {r : Int} {a5 : Option Addr} {N c5 b rr g2 b2 : Nat} {Lc Ld : Nat → Int} {f : Nat → WK} {r2 : Nat} {w : World} (h : Play0 w5 ns r a5 N c5 b rr g2 b2 Lc Ld f r2 w) {k : Nat} (hk : k < 6) (x : WK) : Play0 w5 ns r a5 N c5 b rr g2 b2 Lc Ld (setW f k x) r2 ((((((((w.setCell ⟨g2, k * 8, none⟩ (.int .i64 x.dn)).setCell ⟨g2, k * 8 + 1, none⟩ (.int .i64 x.dm)).setCell ⟨g2, k * 8 + 2, none⟩ (.int .i64 x.db)).setCell ⟨g2, k * 8 + 3, none⟩ (.int .i64 x.rl)).setCell ⟨g2, k * 8 + 4, none⟩ (.int .u64 (wd x.sn 0))).setCell ⟨g2, k * 8 + 5, none⟩ (.int .u64 (wd x.sn 1))).setCell ⟨g2, k * 8 + 6, none⟩ (.int .u64 (wd x.sn 2))).setCell ⟨g2, k * 8 + 7, none⟩ (.int .u64 (wd x.sn 3))) := by
  have hc : ∀ (o : Nat) (v : Value) (w : World), Ch RT w b2 r2 ns Ld → Ch RT (w.setCell ⟨g2, o, none⟩ v) b2 r2 ns Ld := fun o v w hw => by
    obtain ⟨cur, h1, h2, h3⟩ := hw.row
    exact ⟨(blk_far (a := ⟨g2, o, none⟩) h.d6 v).trans hw.str, ⟨cur, (blk_far (a := ⟨g2, o, none⟩) h.d3 v).trans h1, h2, h3⟩, hw.ne, hw.few, hw.wf⟩
  exact ⟨h.t.set hk x, hc _ _ _ (hc _ _ _ (hc _ _ _ (hc _ _ _ (hc _ _ _ (hc _ _ _ (hc _ _ _ (hc _ _ _ (h.rc)))))))), h.l1, h.l2, h.d1, h.d2, h.d3, h.d4, h.d5, h.d6⟩
theorem Play0.far {w5 : World} {ns : Nat} {r : Int} {a5 : Option Addr} {N c5 b rr g2 b2 : Nat} {Lc Ld : Nat → Int} {f : Nat → WK} {r2 : Nat} {w : World} (h : Play0 w5 ns r a5 N c5 b rr g2 b2 Lc Ld f r2 w) {g : Nat} (hg : w5.heap.size < g) (e1 : g ≠ b) (e2 : g ≠ rr) (e3 : g ≠ g2) (e4 : g ≠ b2) (e5 : g ≠ r2) (o : Nat) (v : Value) : Play0 w5 ns r a5 N c5 b rr g2 b2 Lc Ld f r2 (w.setCell ⟨g, o, none⟩ v) := by
  obtain ⟨cur, h1, h2, h3⟩ := h.rc.row
  exact ⟨h.t.far hg e1 e2 e3 o v, ⟨(blk_far (a := ⟨g, o, none⟩) e4.symm v).trans h.rc.str, ⟨cur, (blk_far (a := ⟨g, o, none⟩) e5.symm v).trans h1, h2, h3⟩, h.rc.ne, h.rc.few, h.rc.wf⟩, h.l1, h.l2, h.d1, h.d2, h.d3, h.d4, h.d5, h.d6⟩
abbrev OT : TypeId := 42
/-- A step in its box besides. -/
structure PlayO (w5 : World) (ns : Nat) (r : Int) (a5 : Option Addr) (N c5 b rr g2 b2 og : Nat) (O : OV) (Lc Ld : Nat → Int) (f : Nat → WK) (r2 : Nat) (w : World) : Prop where
  p : Play0 w5 ns r a5 N c5 b rr g2 b2 Lc Ld f r2 w
  ob : w.heap[og]? = some (.cells #[.int .i64 O.kd, .int .i64 O.st, .int .i64 O.ow, .int .i64 O.nn, .bool O.raw, .bool O.fl, .int .i64 O.rl, .int .i64 O.wk.dn, .int .i64 O.wk.dm, .int .i64 O.wk.db, .int .i64 O.wk.rl, .int .u64 (wd O.wk.sn 0), .int .u64 (wd O.wk.sn 1), .int .u64 (wd O.wk.sn 2), .int .u64 (wd O.wk.sn 3)] OT (0, 0))
  o0 : w5.heap.size < og
  o1 : og ≠ b
  o2 : og ≠ rr
  o3 : og ≠ g2
  o4 : og ≠ b2
  o5 : og ≠ r2
theorem PlayO.below {w5 : World} {ns : Nat} {r : Int} {a5 : Option Addr} {N c5 b rr g2 b2 : Nat} {Lc Ld : Nat → Int} {f : Nat → WK} {r2 : Nat} {og : Nat} {O : OV} {w w' : World} (h : PlayO w5 ns r a5 N c5 b rr g2 b2 og O Lc Ld f r2 w) (hb : Below w.heap.size w w') : PlayO w5 ns r a5 N c5 b rr g2 b2 og O Lc Ld f r2 w' :=
  ⟨h.p.below hb, kept_obj hb h.ob, h.o0, h.o1, h.o2, h.o3, h.o4, h.o5⟩
theorem PlayO.turnC {w5 : World} {ns : Nat} {r : Int} {a5 : Option Addr} {N c5 b rr g2 b2 : Nat} {Lc Ld : Nat → Int} {f : Nat → WK} {r2 : Nat} {og : Nat} {O : OV} {Lc' : Nat → Int} {w w' : World} (h : PlayO w5 ns r a5 N c5 b rr g2 b2 og O Lc Ld f r2 w) (ht : Turn (fun k => k = rr) w w') (hc : Ch CT w' b rr ns Lc') : PlayO w5 ns r a5 N c5 b rr g2 b2 og O Lc' Ld f r2 w' :=
  ⟨h.p.turnC ht hc, ht.obj h.ob h.o2, h.o0, h.o1, h.o2, h.o3, h.o4, h.o5⟩
theorem PlayO.turnR {w5 : World} {ns : Nat} {r : Int} {a5 : Option Addr} {N c5 b rr g2 b2 : Nat} {Lc Ld : Nat → Int} {f : Nat → WK} {r2 : Nat} {og : Nat} {O : OV} {Ld' : Nat → Int} {w w' : World} (h : PlayO w5 ns r a5 N c5 b rr g2 b2 og O Lc Ld f r2 w) (ht : Turn (fun k => k = r2) w w') (hc : Ch RT w' b2 r2 ns Ld') : PlayO w5 ns r a5 N c5 b rr g2 b2 og O Lc Ld' f r2 w' :=
  ⟨h.p.turnR ht hc, ht.obj h.ob h.o5, h.o0, h.o1, h.o2, h.o3, h.o4, h.o5⟩
theorem PlayO.flushR {w5 : World} {ns : Nat} {r : Int} {a5 : Option Addr} {N c5 b rr g2 b2 : Nat} {Lc Ld : Nat → Int} {f : Nat → WK} {r2 : Nat} {og : Nat} {O : OV} {Ld' : Nat → Int} {w w' : World} (h : PlayO w5 ns r a5 N c5 b rr g2 b2 og O Lc Ld f r2 w) (ht : Turn (fun k => k = b2) w w') (hc : Ch RT w' b2 w.heap.size ns Ld') : PlayO w5 ns r a5 N c5 b rr g2 b2 og O Lc Ld' f w.heap.size w' :=
  ⟨h.p.flushR ht hc, ht.obj h.ob h.o4, h.o0, h.o1, h.o2, h.o3, h.o4, Nat.ne_of_lt (lt_of_block h.ob)⟩
theorem PlayO.set {w5 : World} {ns : Nat} {r : Int} {a5 : Option Addr} {N c5 b rr g2 b2 : Nat} {Lc Ld : Nat → Int} {f : Nat → WK} {r2 : Nat} {og : Nat} {O : OV} {w : World} (h : PlayO w5 ns r a5 N c5 b rr g2 b2 og O Lc Ld f r2 w) {k : Nat} (hk : k < 6) (x : WK) : PlayO w5 ns r a5 N c5 b rr g2 b2 og O Lc Ld (setW f k x) r2 ((((((((w.setCell ⟨g2, k * 8, none⟩ (.int .i64 x.dn)).setCell ⟨g2, k * 8 + 1, none⟩ (.int .i64 x.dm)).setCell ⟨g2, k * 8 + 2, none⟩ (.int .i64 x.db)).setCell ⟨g2, k * 8 + 3, none⟩ (.int .i64 x.rl)).setCell ⟨g2, k * 8 + 4, none⟩ (.int .u64 (wd x.sn 0))).setCell ⟨g2, k * 8 + 5, none⟩ (.int .u64 (wd x.sn 1))).setCell ⟨g2, k * 8 + 6, none⟩ (.int .u64 (wd x.sn 2))).setCell ⟨g2, k * 8 + 7, none⟩ (.int .u64 (wd x.sn 3))) := by
  have hf : ∀ (o : Nat) (v : Value) (w : World), w.heap[og]? = some (.cells #[.int .i64 O.kd, .int .i64 O.st, .int .i64 O.ow, .int .i64 O.nn, .bool O.raw, .bool O.fl, .int .i64 O.rl, .int .i64 O.wk.dn, .int .i64 O.wk.dm, .int .i64 O.wk.db, .int .i64 O.wk.rl, .int .u64 (wd O.wk.sn 0), .int .u64 (wd O.wk.sn 1), .int .u64 (wd O.wk.sn 2), .int .u64 (wd O.wk.sn 3)] OT (0, 0)) → (w.setCell ⟨g2, o, none⟩ v).heap[og]? = some (.cells #[.int .i64 O.kd, .int .i64 O.st, .int .i64 O.ow, .int .i64 O.nn, .bool O.raw, .bool O.fl, .int .i64 O.rl, .int .i64 O.wk.dn, .int .i64 O.wk.dm, .int .i64 O.wk.db, .int .i64 O.wk.rl, .int .u64 (wd O.wk.sn 0), .int .u64 (wd O.wk.sn 1), .int .u64 (wd O.wk.sn 2), .int .u64 (wd O.wk.sn 3)] OT (0, 0)) := fun o v w hw => (blk_far (a := ⟨g2, o, none⟩) h.o3 v).trans hw
  exact ⟨h.p.set hk x, hf _ _ _ (hf _ _ _ (hf _ _ _ (hf _ _ _ (hf _ _ _ (hf _ _ _ (hf _ _ _ (hf _ _ _ (h.ob)))))))), h.o0, h.o1, h.o2, h.o3, h.o4, h.o5⟩
/-- A work stored in a new box. -/
theorem PlayO.put {w5 : World} {ns : Nat} {r : Int} {a5 : Option Addr} {N c5 b rr g2 b2 : Nat} {Lc Ld : Nat → Int} {f : Nat → WK} {r2 : Nat} {og : Nat} {O : OV} {Lc' Ld' : Nat → Int} {w w' : World} (h : PlayO w5 ns r a5 N c5 b rr g2 b2 og O Lc Ld f r2 w) (h' : PlayO w5 ns r a5 N c5 b rr g2 b2 og O Lc' Ld' f r2 w') {z0 z1 z2 z3 z4 z5 z6 z7 : Value} (hq : w'.heap[w.heap.size]? = some (.cells #[z0, z1, z2, z3, z4, z5, z6, z7] WT (0, 0))) (y0 y1 y2 y3 y4 y5 y6 y7 : Value) :
    PlayO w5 ns r a5 N c5 b rr g2 b2 og O Lc' Ld' f r2 ((((((((w'.setCell ⟨w.heap.size, 0, none⟩ y0).setCell ⟨w.heap.size, 1, none⟩ y1).setCell ⟨w.heap.size, 2, none⟩ y2).setCell ⟨w.heap.size, 3, none⟩ y3).setCell ⟨w.heap.size, 4, none⟩ y4).setCell ⟨w.heap.size, 5, none⟩ y5).setCell ⟨w.heap.size, 6, none⟩ y6).setCell ⟨w.heap.size, 7, none⟩ y7) ∧ ((((((((w'.setCell ⟨w.heap.size, 0, none⟩ y0).setCell ⟨w.heap.size, 1, none⟩ y1).setCell ⟨w.heap.size, 2, none⟩ y2).setCell ⟨w.heap.size, 3, none⟩ y3).setCell ⟨w.heap.size, 4, none⟩ y4).setCell ⟨w.heap.size, 5, none⟩ y5).setCell ⟨w.heap.size, 6, none⟩ y6).setCell ⟨w.heap.size, 7, none⟩ y7).heap[w.heap.size]? = some (.cells #[y0, y1, y2, y3, y4, y5, y6, y7] WT (0, 0)) := by
  have l0 := lt_of_block h.p.t.sb
  have l1 := h.p.t.ch.lt
  have l2 := h.p.t.ar.lt
  have l3 := h.p.rc.lt
  have l4 := lt_of_block h.ob
  have key : ∀ (o : Nat) (v : Value) (x : World), PlayO w5 ns r a5 N c5 b rr g2 b2 og O Lc' Ld' f r2 x → PlayO w5 ns r a5 N c5 b rr g2 b2 og O Lc' Ld' f r2 (x.setCell ⟨w.heap.size, o, none⟩ v) := fun o v x hx => ⟨hx.p.far (by omega) (by omega) (by omega) (by omega) (by omega) (by omega) o v, (blk_far (a := ⟨w.heap.size, o, none⟩) (by show og ≠ w.heap.size; omega) v).trans hx.ob, hx.o0, hx.o1, hx.o2, hx.o3, hx.o4, hx.o5⟩
  exact ⟨key _ _ _ (key _ _ _ (key _ _ _ (key _ _ _ (key _ _ _ (key _ _ _ (key _ _ _ (key _ _ _ (h')))))))), box_set8 hq y0 y1 y2 y3 y4 y5 y6 y7⟩
theorem box_far8 {w : World} {g gx : Nat} {x : _} (h : w.heap[gx]? = x) (hne : gx ≠ g) (y0 y1 y2 y3 y4 y5 y6 y7 : Value) : ((((((((w.setCell ⟨g, 0, none⟩ y0).setCell ⟨g, 1, none⟩ y1).setCell ⟨g, 2, none⟩ y2).setCell ⟨g, 3, none⟩ y3).setCell ⟨g, 4, none⟩ y4).setCell ⟨g, 5, none⟩ y5).setCell ⟨g, 6, none⟩ y6).setCell ⟨g, 7, none⟩ y7).heap[gx]? = x :=
  (blk_far (a := ⟨g, 7, none⟩) hne y7).trans ((blk_far (a := ⟨g, 6, none⟩) hne y6).trans ((blk_far (a := ⟨g, 5, none⟩) hne y5).trans ((blk_far (a := ⟨g, 4, none⟩) hne y4).trans ((blk_far (a := ⟨g, 3, none⟩) hne y3).trans ((blk_far (a := ⟨g, 2, none⟩) hne y2).trans ((blk_far (a := ⟨g, 1, none⟩) hne y1).trans ((blk_far (a := ⟨g, 0, none⟩) hne y0).trans h)))))))
theorem PlayO.ocells {w5 : World} {ns : Nat} {r : Int} {a5 : Option Addr} {N c5 b rr g2 b2 : Nat} {Lc Ld : Nat → Int} {f : Nat → WK} {r2 : Nat} {og : Nat} {O : OV} {w : World} (h : PlayO w5 ns r a5 N c5 b rr g2 b2 og O Lc Ld f r2 w) : w.cell? ⟨og, 0, none⟩ = some (.int .i64 O.kd) ∧ w.cell? ⟨og, 1, none⟩ = some (.int .i64 O.st) ∧ w.cell? ⟨og, 2, none⟩ = some (.int .i64 O.ow) ∧ w.cell? ⟨og, 3, none⟩ = some (.int .i64 O.nn) ∧ w.cell? ⟨og, 4, none⟩ = some (.bool O.raw) ∧ w.cell? ⟨og, 5, none⟩ = some (.bool O.fl) ∧ w.cell? ⟨og, 6, none⟩ = some (.int .i64 O.rl) ∧ w.cell? ⟨og, 7, none⟩ = some (.int .i64 O.wk.dn) ∧ w.cell? ⟨og, 8, none⟩ = some (.int .i64 O.wk.dm) ∧ w.cell? ⟨og, 9, none⟩ = some (.int .i64 O.wk.db) ∧ w.cell? ⟨og, 10, none⟩ = some (.int .i64 O.wk.rl) ∧ w.cell? ⟨og, 11, none⟩ = some (.int .u64 (wd O.wk.sn 0)) ∧ w.cell? ⟨og, 12, none⟩ = some (.int .u64 (wd O.wk.sn 1)) ∧ w.cell? ⟨og, 13, none⟩ = some (.int .u64 (wd O.wk.sn 2)) ∧ w.cell? ⟨og, 14, none⟩ = some (.int .u64 (wd O.wk.sn 3)) :=
  ⟨by rw [blk_cell h.ob]; rfl, by rw [blk_cell h.ob]; rfl, by rw [blk_cell h.ob]; rfl, by rw [blk_cell h.ob]; rfl, by rw [blk_cell h.ob]; rfl, by rw [blk_cell h.ob]; rfl, by rw [blk_cell h.ob]; rfl, by rw [blk_cell h.ob]; rfl, by rw [blk_cell h.ob]; rfl, by rw [blk_cell h.ob]; rfl, by rw [blk_cell h.ob]; rfl, by rw [blk_cell h.ob]; rfl, by rw [blk_cell h.ob]; rfl, by rw [blk_cell h.ob]; rfl, by rw [blk_cell h.ob]; rfl⟩
end Go.Proofs.Ytflemmmaakhahaa

/-
  The walk over the document's own tick.
-/
namespace Go.Proofs.Ytflemmmaakhahaa
open Go.RowKit Go.Maps

set_option maxRecDepth 100000 in
set_option maxHeartbeats 16000000 in
theorem rstep_any (x : TV) (rel dn dm db rl : Int) (p : Nat → Bool) (w : World) {b r n : Nat} {L : Nat → Int} (h : Ch RT w b r n L) (hx : x.ok w) (hm : dm ≤ 9223372036854775807) (hd : db ≤ 9223372036854775807) :
    Calls Try.prog 18 #[.pointer (some ⟨b, 0, none⟩), .agg #[.int .i64 x.id, .int .i64 x.c, .int .i64 x.d, .int .i64 x.t, .int .i64 x.p, .slice x.a1 x.ch.length x.c1, .slice x.a2 x.us.length x.c2], .int .i64 rel, .agg #[.int .i64 dn, .int .i64 dm, .int .i64 db, .int .i64 rl, .int .u64 (wd p 0), .int .u64 (wd p 1), .int .u64 (wd p 2), .int .u64 (wd p 3)]] w (StepBack RT b r n (stepL n L x.id (accOf x dn).1 (accOf x dn).2 rel ⟨dn, dm, db, rl, p⟩) (stepW n L x.id (accOf x dn).1 (accOf x dn).2 rel ⟨dn, dm, db, rl, p⟩) w) := by
  have BL := Lib.hid h.lt.1
  have RL := Lib.hid h.lt.2
  have CH := Lib.hid h
  have H0 := Lib.hid (stepAt_new (fun k => k = r) w x dn dm db rl (wd p))
  have AC := Lib.hid (fun W (hW : Below w.heap.size w W) => racc_any x dn W (hx.below hW))
  obtain ⟨rl', hrl⟩ : ∃ rl', IntKind.i64.wrap (rl + 1) = rl' := ⟨_, rfl⟩
  have HRL := Lib.hid hrl
  by_cases hf : Fits x.id rel ⟨dn, dm, db, rl, p⟩
  · obtain ⟨hf0, hf1, hf2, hf3, hf4, hf5⟩ := hf
    dsimp only at hf3 hf4 hf5
    have HF : Hid (Fits x.id rel ⟨dn, dm, db, rl, p⟩) := ⟨hf0, hf1, hf2, hf3, hf4, hf5⟩
    have u1 : IntKind.i64.wrap (dn + 1) = dn + 1 := IntWalk.i64_in _ (by omega)
    have u2 : IntKind.i64.wrap (rel - 1) = rel - 1 := IntWalk.i64_in _ (by omega)
    have u3 : IntKind.i64.wrap (db - 1) = db - 1 := IntWalk.i64_in _ (by omega)
    have e1 := hf0.1
    have e2 := hf0.2
    have n0 : ¬ dn < 0 := by omega
    have n1 : ¬ dm ≤ dn := by omega
    have n2 : ¬ db < 0 := by omega
    have n3 : ¬ rel < 0 := by omega
    have n4 : ¬ 1000 < rel := by omega
    have n5 : ¬ x.id < 1 := by omega
    have n6 : decide (99 < x.id) = false := decide_eq_false (by omega)
    by_cases hp : 0 < db
    · rw [show stepL n L x.id (accOf x dn).1 (accOf x dn).2 rel ⟨dn, dm, db, rl, p⟩ = L by unfold stepL; rw [if_neg (fun z => z.2 hp)]]
      rw [show stepW n L x.id (accOf x dn).1 (accOf x dn).2 rel ⟨dn, dm, db, rl, p⟩ = (⟨dn, dm, db - 1, wUp rl, p⟩, true) by unfold stepW; rw [if_pos HF.out, if_pos hp]]
      unfold StepBack
      dsimp only
      unfold wUp
      rw [hrl]
      clear hf0 hf1 hf2 hf3 hf4 hf5 h hx hm hd AC e1 e2 HF
      generalize wd p = y at *
      go_enter Try.func18, Try.ntmps18
      go_upto_region 1 with fail
      refine gen_world (fun W => StepAt (fun k => k = r) w x dn dm db rl y W ∧ Below w.heap.size w W) ⟨H0.out, (by repeat (first | exact Below.refl _ _ | (with_reducible assumption) | refine bw_alloc ?_ _ | refine bw_drew ?_))⟩ ?_
      intro W0 ⟨hw0, hwb⟩
      have H1 := Lib.hid hw0
      have B0 := Lib.hid hwb
      
      clear hw0 hwb H0
      obtain ⟨t0, t1, t2, t3, t4, t5, t6, q0, q1, q2, q3, q4, q5, q6, q7, f0, f1, f2, f3, f4, f5, f6, f7, r0, r1, r2, r3, r4, r5, r6, r7, g0, g1, g2, g3, g4, g5, g6, g7⟩ := H1.out.facts
      go_wp2
      obtain ⟨⟨s0, s1, s2, s3, s4, s5, s6, s7⟩, hC, hT⟩ := (((⟨H1.out.low, H1.out.rb, CH.out.below B0.out, BL.out, RL.out⟩ : Outs RT w b r n L W0).put 2 (.int .i64 (db - 1))).put 3 (.int .i64 rl')).ends (.int .i64 dn) (.int .i64 dm) (.int .i64 (db - 1)) (.int .i64 rl') (.int .u64 (y 0)) (.int .u64 (y 1)) (.int .u64 (y 2)) (.int .u64 (y 3))
      exact bodyPost_ret (v := .tuple #[.agg #[.int .i64 (dn), .int .i64 dm, .int .i64 (db - 1), .int .i64 rl', .int .u64 (y 0), .int .u64 (y 1), .int .u64 (y 2), .int .u64 (y 3)], .bool true]) (by simp [results, Try.results18, go_sem, s0, s1, s2, s3, s4, s5, s6, s7]) rfl ⟨rfl, hC, hT⟩

    · rw [show stepL n L x.id (accOf x dn).1 (accOf x dn).2 rel ⟨dn, dm, db, rl, p⟩ = workL n L x.id (accOf x dn).1 (accOf x dn).2 by unfold stepL; rw [if_pos ⟨HF.out, hp⟩]]
      rw [show stepW n L x.id (accOf x dn).1 (accOf x dn).2 rel ⟨dn, dm, db, rl, p⟩ = workW n L x.id (accOf x dn).1 (accOf x dn).2 rel ⟨dn, dm, db, rl, p⟩ by unfold stepW; rw [if_pos HF.out, if_neg hp]]
      generalize (accOf x dn).2 = u at AC ⊢
      generalize (accOf x dn).1 = s at AC ⊢
      have HB := Lib.hid (fun W => rhas_any p s W)
      have WI := Lib.hid (fun W => rwith_any p s W)
      clear hf1 hf2 hf3 hf4 hf5 hx hm hd e1 e2 HF
      by_cases h0 : 0 ≤ s
      · by_cases h1 : s < n
        · obtain ⟨i, rfl⟩ : ∃ i : Nat, s = (i : Int) := ⟨s.toNat, by omega⟩
          have hi : i < n := by omega
          have HS : Hid (okSet n (i : Int)) := ⟨h0, h1⟩
          have d0 : ¬ (i : Int) < 0 := by omega
          have d1 : ¬ (n : Int) ≤ (i : Int) := by omega
          have HO := Lib.hid hf0
          cases u with
          | false =>
            rw [show workL n L x.id (i : Int) false = L by unfold workL; rw [if_neg (fun z => by cases z.1)]]
            rw [show workW n L x.id (i : Int) false rel ⟨dn, dm, db, rl, p⟩ = (⟨dn + 1, dm, db, rl, p⟩, false) by unfold workW; rw [if_neg (fun z => by cases z.1)]]
            unfold StepBack
            dsimp only
            clear hf0 WI h
            generalize hasP p i = q at *
            generalize wd p = y at *
            go_enter Try.func18, Try.ntmps18
            go_upto_region 1 with fail
            refine gen_world (fun W => StepAt (fun k => k = r) w x dn dm db rl y W ∧ Below w.heap.size w W) ⟨H0.out, (by repeat (first | exact Below.refl _ _ | (with_reducible assumption) | refine bw_alloc ?_ _ | refine bw_drew ?_))⟩ ?_
            intro W0 ⟨hw0, hwb⟩
            have H1 := Lib.hid hw0
            have B0 := Lib.hid hwb
            clear hw0 hwb H0
            obtain ⟨t0, t1, t2, t3, t4, t5, t6, q0, q1, q2, q3, q4, q5, q6, q7, f0, f1, f2, f3, f4, f5, f6, f7, r0, r1, r2, r3, r4, r5, r6, r7, g0, g1, g2, g3, g4, g5, g6, g7⟩ := H1.out.facts
            go_upto_region 11 with (first
              | (go_at_call 40; (refine (AC.out _ B0.out).mono ?_); rintro e w1 ⟨rfl, b1⟩; have H2 := Lib.hid (H1.out.below b1); obtain ⟨t0, t1, t2, t3, t4, t5, t6, q0, q1, q2, q3, q4, q5, q6, q7, f0, f1, f2, f3, f4, f5, f6, f7, r0, r1, r2, r3, r4, r5, r6, r7, g0, g1, g2, g3, g4, g5, g6, g7⟩ := H2.out.facts; have B1 := Lib.hid (below_up B0.out b1); have k0 := (CH.out.below B1.out).slice; clear b1)
              | (go_at_call 41; (refine (HB.out _).mono ?_); rintro e w2 ⟨rfl, b2⟩; have H3 := Lib.hid (H2.out.below b2); obtain ⟨t0, t1, t2, t3, t4, t5, t6, q0, q1, q2, q3, q4, q5, q6, q7, f0, f1, f2, f3, f4, f5, f6, f7, r0, r1, r2, r3, r4, r5, r6, r7, g0, g1, g2, g3, g4, g5, g6, g7⟩ := H3.out.facts; have B2 := Lib.hid (below_up B1.out b2); clear b2))
            go_quiet (fail)
            go_upto_region 16 with fail
            refine gen_world (fun W => StepAt (fun k => k = r) w x dn dm db rl y W ∧ Below w.heap.size w W) ⟨H3.out.below ⟨rfl, rfl, rfl, Nat.le_refl _, fun _ _ => rfl⟩, below_up B2.out ⟨rfl, rfl, rfl, Nat.le_refl _, fun _ _ => rfl⟩⟩ ?_
            intro W5 ⟨hw5, hb5⟩
            have H5 := Lib.hid hw5
            have B5 := Lib.hid hb5
            clear hw5 hb5
            obtain ⟨t0, t1, t2, t3, t4, t5, t6, q0, q1, q2, q3, q4, q5, q6, q7, f0, f1, f2, f3, f4, f5, f6, f7, r0, r1, r2, r3, r4, r5, r6, r7, g0, g1, g2, g3, g4, g5, g6, g7⟩ := H5.out.facts
            go_wp2
            obtain ⟨⟨s0, s1, s2, s3, s4, s5, s6, s7⟩, hC, hT⟩ := ((⟨H5.out.low, H5.out.rb, CH.out.below B5.out, BL.out, RL.out⟩ : Outs RT w b r n L W5).put 0 (.int .i64 (dn + 1))).ends (.int .i64 (dn + 1)) (.int .i64 dm) (.int .i64 db) (.int .i64 rl) (.int .u64 (y 0)) (.int .u64 (y 1)) (.int .u64 (y 2)) (.int .u64 (y 3))
            exact bodyPost_ret (v := .tuple #[.agg #[.int .i64 (dn + 1), .int .i64 dm, .int .i64 (db), .int .i64 rl, .int .u64 (y 0), .int .u64 (y 1), .int .u64 (y 2), .int .u64 (y 3)], .bool false]) (by simp [results, Try.results18, go_sem, s0, s1, s2, s3, s4, s5, s6, s7]) rfl ⟨rfl, hC, hT⟩
          | true =>
            obtain ⟨v, hv⟩ : ∃ v, L i = v := ⟨_, rfl⟩
            cases hq : hasP p i with
            | false =>
              rw [show workL n L x.id (i : Int) true = putL L i x.id by unfold workL; rw [if_pos ⟨rfl, HS.out⟩]]
              rw [show workW n L x.id (i : Int) true rel ⟨dn, dm, db, rl, p⟩ = (⟨dn + 1, dm, db, rl, bitUp p i⟩, false) by unfold workW; rw [if_pos ⟨rfl, HS.out⟩, if_neg (fun z => by rw [hq] at z; cases z.2.2)]]
              unfold StepBack
              dsimp only
              unfold bitUp
              rw [hq] at HB
              clear hq
              clear h
              generalize wd (orP p (oneP (i : Int))) = z at *
              generalize wd p = y at *
              go_enter Try.func18, Try.ntmps18
              go_upto_region 1 with fail
              refine gen_world (fun W => StepAt (fun k => k = r) w x dn dm db rl y W ∧ Below w.heap.size w W) ⟨H0.out, (by repeat (first | exact Below.refl _ _ | (with_reducible assumption) | refine bw_alloc ?_ _ | refine bw_drew ?_))⟩ ?_
              intro W0 ⟨hw0, hwb⟩
              have H1 := Lib.hid hw0
              have B0 := Lib.hid hwb
              clear hw0 hwb H0
              obtain ⟨t0, t1, t2, t3, t4, t5, t6, q0, q1, q2, q3, q4, q5, q6, q7, f0, f1, f2, f3, f4, f5, f6, f7, r0, r1, r2, r3, r4, r5, r6, r7, g0, g1, g2, g3, g4, g5, g6, g7⟩ := H1.out.facts
              go_upto_region 11 with (first
                | (go_at_call 40; (refine (AC.out _ B0.out).mono ?_); rintro e w1 ⟨rfl, b1⟩; have H2 := Lib.hid (H1.out.below b1); obtain ⟨t0, t1, t2, t3, t4, t5, t6, q0, q1, q2, q3, q4, q5, q6, q7, f0, f1, f2, f3, f4, f5, f6, f7, r0, r1, r2, r3, r4, r5, r6, r7, g0, g1, g2, g3, g4, g5, g6, g7⟩ := H2.out.facts; have B1 := Lib.hid (below_up B0.out b1); have k0 := (CH.out.below B1.out).slice; clear b1)
                | (go_at_call 41; (refine (HB.out _).mono ?_); rintro e w2 ⟨rfl, b2⟩; have H3 := Lib.hid (H2.out.below b2); obtain ⟨t0, t1, t2, t3, t4, t5, t6, q0, q1, q2, q3, q4, q5, q6, q7, f0, f1, f2, f3, f4, f5, f6, f7, r0, r1, r2, r3, r4, r5, r6, r7, g0, g1, g2, g3, g4, g5, g6, g7⟩ := H3.out.facts; have B2 := Lib.hid (below_up B1.out b2); have cc := CH.out.below B2.out; have k1 := cc.slice; have k2 := cc.row.cell hi; rw [hv] at k2; clear cc; clear b2))
              go_quiet (fail)
              go_upto_region 16 with fail
              refine gen_world (fun W => StepAt (fun k => k = r) w x dn dm db rl y W ∧ Below w.heap.size w W) ⟨H3.out.below ⟨rfl, rfl, rfl, Nat.le_refl _, fun _ _ => rfl⟩, below_up B2.out ⟨rfl, rfl, rfl, Nat.le_refl _, fun _ _ => rfl⟩⟩ ?_
              intro W5 ⟨hw5, hb5⟩
              have H5 := Lib.hid hw5
              have B5 := Lib.hid hb5
              clear hw5 hb5
              obtain ⟨t0, t1, t2, t3, t4, t5, t6, q0, q1, q2, q3, q4, q5, q6, q7, f0, f1, f2, f3, f4, f5, f6, f7, r0, r1, r2, r3, r4, r5, r6, r7, g0, g1, g2, g3, g4, g5, g6, g7⟩ := H5.out.facts
              go_upto_region 17 with fail
              refine gen_world (fun W => StepAt (fun k => k = r) w x (dn + 1) dm db rl y W ∧ Below w.heap.size w W) ⟨H5.out.set0 _, B5.out.setCell (p := ⟨w.heap.size + 1, 0, none⟩) (Nat.le_succ _) _⟩ ?_
              intro W6 ⟨hw6, hb6⟩
              have H6 := Lib.hid hw6
              have C6 := Lib.hid (CH.out.below hb6)
              have B6 := Lib.hid hb6
              clear hw6 hb6
              obtain ⟨t0, t1, t2, t3, t4, t5, t6, q0, q1, q2, q3, q4, q5, q6, q7, f0, f1, f2, f3, f4, f5, f6, f7, r0, r1, r2, r3, r4, r5, r6, r7, g0, g1, g2, g3, g4, g5, g6, g7⟩ := H6.out.facts
              have k3 := C6.out.slice
              have k4 := C6.out.row.cell hi
              have k5 := C6.out.row.free i
              go_upto_region 18 with fail
              go_still_tail 8, (by kernel_rfl)
              go_upto_region 19 with fail
              refine gen_world (fun W => StepAt (fun k => k = r) w x (dn + 1) dm db rl y W ∧ Ch RT W b r n (putL L i x.id)) (used H6.out C6.out RL.out hi HO.out) ?_
              intro W7 ⟨hw7, hc7⟩
              have H7 := Lib.hid hw7
              have C7 := Lib.hid hc7
              clear hw7 hc7
              obtain ⟨t0, t1, t2, t3, t4, t5, t6, q0, q1, q2, q3, q4, q5, q6, q7, f0, f1, f2, f3, f4, f5, f6, f7, r0, r1, r2, r3, r4, r5, r6, r7, g0, g1, g2, g3, g4, g5, g6, g7⟩ := H7.out.facts
              go_wp2_with (go_at_call 42; (refine (WI.out _).mono ?_); rintro e w8 ⟨rfl, b8⟩; have H8 := Lib.hid (H7.out.below b8); have C8 := Lib.hid (C7.out.below b8); obtain ⟨t0, t1, t2, t3, t4, t5, t6, q0, q1, q2, q3, q4, q5, q6, q7, f0, f1, f2, f3, f4, f5, f6, f7, r0, r1, r2, r3, r4, r5, r6, r7, g0, g1, g2, g3, g4, g5, g6, g7⟩ := H8.out.facts; clear b8)
              obtain ⟨⟨s0, s1, s2, s3, s4, s5, s6, s7⟩, hC, hT⟩ := (((((⟨H8.out.low, H8.out.rb, C8.out, BL.out, RL.out⟩ : Outs RT w b r n (putL L i x.id) w8).put 4 (.int .u64 (z 0))).put 5 (.int .u64 (z 1))).put 6 (.int .u64 (z 2))).put 7 (.int .u64 (z 3))).ends (.int .i64 (dn + 1)) (.int .i64 dm) (.int .i64 db) (.int .i64 rl) (.int .u64 (z 0)) (.int .u64 (z 1)) (.int .u64 (z 2)) (.int .u64 (z 3))
              exact bodyPost_ret (v := .tuple #[.agg #[.int .i64 (dn + 1), .int .i64 dm, .int .i64 (db), .int .i64 rl, .int .u64 (z 0), .int .u64 (z 1), .int .u64 (z 2), .int .u64 (z 3)], .bool false]) (by simp [results, Try.results18, go_sem, s0, s1, s2, s3, s4, s5, s6, s7]) rfl ⟨rfl, hC, hT⟩
            | true =>
              by_cases hvi : v = x.id
              · skip
                rw [show workL n L x.id (i : Int) true = putL L i x.id by unfold workL; rw [if_pos ⟨rfl, HS.out⟩]]
                rw [show workW n L x.id (i : Int) true rel ⟨dn, dm, db, rl, p⟩ = (⟨dn + 1, dm, db, rl, bitUp p i⟩, false) by unfold workW; rw [if_pos ⟨rfl, HS.out⟩, if_neg (fun z => z.1 (by rw [Int.toNat_natCast, hv, hvi]))]]
                unfold StepBack
                dsimp only
                unfold bitUp
                rw [hq] at HB
                have q1 : (v == x.id) = true := by rw [hvi]; simp
                have q2 : (v != x.id) = false := by rw [hvi]; simp
                clear hq
                clear h
                generalize wd (orP p (oneP (i : Int))) = z at *
                generalize wd p = y at *
                go_enter Try.func18, Try.ntmps18
                go_upto_region 1 with fail
                refine gen_world (fun W => StepAt (fun k => k = r) w x dn dm db rl y W ∧ Below w.heap.size w W) ⟨H0.out, (by repeat (first | exact Below.refl _ _ | (with_reducible assumption) | refine bw_alloc ?_ _ | refine bw_drew ?_))⟩ ?_
                intro W0 ⟨hw0, hwb⟩
                have H1 := Lib.hid hw0
                have B0 := Lib.hid hwb
                clear hw0 hwb H0
                obtain ⟨t0, t1, t2, t3, t4, t5, t6, q0, q1, q2, q3, q4, q5, q6, q7, f0, f1, f2, f3, f4, f5, f6, f7, r0, r1, r2, r3, r4, r5, r6, r7, g0, g1, g2, g3, g4, g5, g6, g7⟩ := H1.out.facts
                go_upto_region 11 with (first
                  | (go_at_call 40; (refine (AC.out _ B0.out).mono ?_); rintro e w1 ⟨rfl, b1⟩; have H2 := Lib.hid (H1.out.below b1); obtain ⟨t0, t1, t2, t3, t4, t5, t6, q0, q1, q2, q3, q4, q5, q6, q7, f0, f1, f2, f3, f4, f5, f6, f7, r0, r1, r2, r3, r4, r5, r6, r7, g0, g1, g2, g3, g4, g5, g6, g7⟩ := H2.out.facts; have B1 := Lib.hid (below_up B0.out b1); have k0 := (CH.out.below B1.out).slice; clear b1)
                  | (go_at_call 41; (refine (HB.out _).mono ?_); rintro e w2 ⟨rfl, b2⟩; have H3 := Lib.hid (H2.out.below b2); obtain ⟨t0, t1, t2, t3, t4, t5, t6, q0, q1, q2, q3, q4, q5, q6, q7, f0, f1, f2, f3, f4, f5, f6, f7, r0, r1, r2, r3, r4, r5, r6, r7, g0, g1, g2, g3, g4, g5, g6, g7⟩ := H3.out.facts; have B2 := Lib.hid (below_up B1.out b2); have cc := CH.out.below B2.out; have k1 := cc.slice; have k2 := cc.row.cell hi; rw [hv] at k2; clear cc; clear b2))
                go_quiet (fail)
                go_upto_region 16 with fail
                refine gen_world (fun W => StepAt (fun k => k = r) w x dn dm db rl y W ∧ Below w.heap.size w W) ⟨H3.out.below ⟨rfl, rfl, rfl, Nat.le_refl _, fun _ _ => rfl⟩, below_up B2.out ⟨rfl, rfl, rfl, Nat.le_refl _, fun _ _ => rfl⟩⟩ ?_
                intro W5 ⟨hw5, hb5⟩
                have H5 := Lib.hid hw5
                have B5 := Lib.hid hb5
                clear hw5 hb5
                obtain ⟨t0, t1, t2, t3, t4, t5, t6, q0, q1, q2, q3, q4, q5, q6, q7, f0, f1, f2, f3, f4, f5, f6, f7, r0, r1, r2, r3, r4, r5, r6, r7, g0, g1, g2, g3, g4, g5, g6, g7⟩ := H5.out.facts
                go_upto_region 17 with fail
                refine gen_world (fun W => StepAt (fun k => k = r) w x (dn + 1) dm db rl y W ∧ Below w.heap.size w W) ⟨H5.out.set0 _, B5.out.setCell (p := ⟨w.heap.size + 1, 0, none⟩) (Nat.le_succ _) _⟩ ?_
                intro W6 ⟨hw6, hb6⟩
                have H6 := Lib.hid hw6
                have C6 := Lib.hid (CH.out.below hb6)
                have B6 := Lib.hid hb6
                clear hw6 hb6
                obtain ⟨t0, t1, t2, t3, t4, t5, t6, q0, q1, q2, q3, q4, q5, q6, q7, f0, f1, f2, f3, f4, f5, f6, f7, r0, r1, r2, r3, r4, r5, r6, r7, g0, g1, g2, g3, g4, g5, g6, g7⟩ := H6.out.facts
                have k3 := C6.out.slice
                have k4 := C6.out.row.cell hi
                have k5 := C6.out.row.free i
                go_upto_region 18 with fail
                go_still_tail 8, (by kernel_rfl)
                go_upto_region 19 with fail
                refine gen_world (fun W => StepAt (fun k => k = r) w x (dn + 1) dm db rl y W ∧ Ch RT W b r n (putL L i x.id)) (used H6.out C6.out RL.out hi HO.out) ?_
                intro W7 ⟨hw7, hc7⟩
                have H7 := Lib.hid hw7
                have C7 := Lib.hid hc7
                clear hw7 hc7
                obtain ⟨t0, t1, t2, t3, t4, t5, t6, q0, q1, q2, q3, q4, q5, q6, q7, f0, f1, f2, f3, f4, f5, f6, f7, r0, r1, r2, r3, r4, r5, r6, r7, g0, g1, g2, g3, g4, g5, g6, g7⟩ := H7.out.facts
                go_wp2_with (go_at_call 42; (refine (WI.out _).mono ?_); rintro e w8 ⟨rfl, b8⟩; have H8 := Lib.hid (H7.out.below b8); have C8 := Lib.hid (C7.out.below b8); obtain ⟨t0, t1, t2, t3, t4, t5, t6, q0, q1, q2, q3, q4, q5, q6, q7, f0, f1, f2, f3, f4, f5, f6, f7, r0, r1, r2, r3, r4, r5, r6, r7, g0, g1, g2, g3, g4, g5, g6, g7⟩ := H8.out.facts; clear b8)
                obtain ⟨⟨s0, s1, s2, s3, s4, s5, s6, s7⟩, hC, hT⟩ := (((((⟨H8.out.low, H8.out.rb, C8.out, BL.out, RL.out⟩ : Outs RT w b r n (putL L i x.id) w8).put 4 (.int .u64 (z 0))).put 5 (.int .u64 (z 1))).put 6 (.int .u64 (z 2))).put 7 (.int .u64 (z 3))).ends (.int .i64 (dn + 1)) (.int .i64 dm) (.int .i64 db) (.int .i64 rl) (.int .u64 (z 0)) (.int .u64 (z 1)) (.int .u64 (z 2)) (.int .u64 (z 3))
                exact bodyPost_ret (v := .tuple #[.agg #[.int .i64 (dn + 1), .int .i64 dm, .int .i64 (db), .int .i64 rl, .int .u64 (z 0), .int .u64 (z 1), .int .u64 (z 2), .int .u64 (z 3)], .bool false]) (by simp [results, Try.results18, go_sem, s0, s1, s2, s3, s4, s5, s6, s7]) rfl ⟨rfl, hC, hT⟩
              · by_cases hr : rel ≤ 0
                · skip
                  rw [show workL n L x.id (i : Int) true = putL L i x.id by unfold workL; rw [if_pos ⟨rfl, HS.out⟩]]
                  rw [show workW n L x.id (i : Int) true rel ⟨dn, dm, db, rl, p⟩ = (⟨dn + 1, dm, db, rl, bitUp p i⟩, false) by unfold workW; rw [if_pos ⟨rfl, HS.out⟩, if_neg (fun z => absurd z.2.1 (by omega))]]
                  unfold StepBack
                  dsimp only
                  unfold bitUp
                  rw [hq] at HB
                  have q1 : (v == x.id) = false := by rw [beq_eq_false_iff_ne]; exact hvi
                  have q2 : (v != x.id) = true := by rw [bne_iff_ne]; exact hvi
                  have q3 : ¬ 0 < rel := by omega
                  have q4 : decide (0 < rel) = false := decide_eq_false q3
                  clear hq
                  clear h
                  generalize wd (orP p (oneP (i : Int))) = z at *
                  generalize wd p = y at *
                  go_enter Try.func18, Try.ntmps18
                  go_upto_region 1 with fail
                  refine gen_world (fun W => StepAt (fun k => k = r) w x dn dm db rl y W ∧ Below w.heap.size w W) ⟨H0.out, (by repeat (first | exact Below.refl _ _ | (with_reducible assumption) | refine bw_alloc ?_ _ | refine bw_drew ?_))⟩ ?_
                  intro W0 ⟨hw0, hwb⟩
                  have H1 := Lib.hid hw0
                  have B0 := Lib.hid hwb
                  clear hw0 hwb H0
                  obtain ⟨t0, t1, t2, t3, t4, t5, t6, q0, q1, q2, q3, q4, q5, q6, q7, f0, f1, f2, f3, f4, f5, f6, f7, r0, r1, r2, r3, r4, r5, r6, r7, g0, g1, g2, g3, g4, g5, g6, g7⟩ := H1.out.facts
                  go_upto_region 11 with (first
                    | (go_at_call 40; (refine (AC.out _ B0.out).mono ?_); rintro e w1 ⟨rfl, b1⟩; have H2 := Lib.hid (H1.out.below b1); obtain ⟨t0, t1, t2, t3, t4, t5, t6, q0, q1, q2, q3, q4, q5, q6, q7, f0, f1, f2, f3, f4, f5, f6, f7, r0, r1, r2, r3, r4, r5, r6, r7, g0, g1, g2, g3, g4, g5, g6, g7⟩ := H2.out.facts; have B1 := Lib.hid (below_up B0.out b1); have k0 := (CH.out.below B1.out).slice; clear b1)
                    | (go_at_call 41; (refine (HB.out _).mono ?_); rintro e w2 ⟨rfl, b2⟩; have H3 := Lib.hid (H2.out.below b2); obtain ⟨t0, t1, t2, t3, t4, t5, t6, q0, q1, q2, q3, q4, q5, q6, q7, f0, f1, f2, f3, f4, f5, f6, f7, r0, r1, r2, r3, r4, r5, r6, r7, g0, g1, g2, g3, g4, g5, g6, g7⟩ := H3.out.facts; have B2 := Lib.hid (below_up B1.out b2); have cc := CH.out.below B2.out; have k1 := cc.slice; have k2 := cc.row.cell hi; rw [hv] at k2; clear cc; clear b2))
                  go_quiet (fail)
                  go_upto_region 16 with fail
                  refine gen_world (fun W => StepAt (fun k => k = r) w x dn dm db rl y W ∧ Below w.heap.size w W) ⟨H3.out.below ⟨rfl, rfl, rfl, Nat.le_refl _, fun _ _ => rfl⟩, below_up B2.out ⟨rfl, rfl, rfl, Nat.le_refl _, fun _ _ => rfl⟩⟩ ?_
                  intro W5 ⟨hw5, hb5⟩
                  have H5 := Lib.hid hw5
                  have B5 := Lib.hid hb5
                  clear hw5 hb5
                  obtain ⟨t0, t1, t2, t3, t4, t5, t6, q0, q1, q2, q3, q4, q5, q6, q7, f0, f1, f2, f3, f4, f5, f6, f7, r0, r1, r2, r3, r4, r5, r6, r7, g0, g1, g2, g3, g4, g5, g6, g7⟩ := H5.out.facts
                  go_upto_region 17 with fail
                  refine gen_world (fun W => StepAt (fun k => k = r) w x (dn + 1) dm db rl y W ∧ Below w.heap.size w W) ⟨H5.out.set0 _, B5.out.setCell (p := ⟨w.heap.size + 1, 0, none⟩) (Nat.le_succ _) _⟩ ?_
                  intro W6 ⟨hw6, hb6⟩
                  have H6 := Lib.hid hw6
                  have C6 := Lib.hid (CH.out.below hb6)
                  have B6 := Lib.hid hb6
                  clear hw6 hb6
                  obtain ⟨t0, t1, t2, t3, t4, t5, t6, q0, q1, q2, q3, q4, q5, q6, q7, f0, f1, f2, f3, f4, f5, f6, f7, r0, r1, r2, r3, r4, r5, r6, r7, g0, g1, g2, g3, g4, g5, g6, g7⟩ := H6.out.facts
                  have k3 := C6.out.slice
                  have k4 := C6.out.row.cell hi
                  have k5 := C6.out.row.free i
                  go_upto_region 18 with fail
                  go_still_tail 8, (by kernel_rfl)
                  go_upto_region 19 with fail
                  refine gen_world (fun W => StepAt (fun k => k = r) w x (dn + 1) dm db rl y W ∧ Ch RT W b r n (putL L i x.id)) (used H6.out C6.out RL.out hi HO.out) ?_
                  intro W7 ⟨hw7, hc7⟩
                  have H7 := Lib.hid hw7
                  have C7 := Lib.hid hc7
                  clear hw7 hc7
                  obtain ⟨t0, t1, t2, t3, t4, t5, t6, q0, q1, q2, q3, q4, q5, q6, q7, f0, f1, f2, f3, f4, f5, f6, f7, r0, r1, r2, r3, r4, r5, r6, r7, g0, g1, g2, g3, g4, g5, g6, g7⟩ := H7.out.facts
                  go_wp2_with (go_at_call 42; (refine (WI.out _).mono ?_); rintro e w8 ⟨rfl, b8⟩; have H8 := Lib.hid (H7.out.below b8); have C8 := Lib.hid (C7.out.below b8); obtain ⟨t0, t1, t2, t3, t4, t5, t6, q0, q1, q2, q3, q4, q5, q6, q7, f0, f1, f2, f3, f4, f5, f6, f7, r0, r1, r2, r3, r4, r5, r6, r7, g0, g1, g2, g3, g4, g5, g6, g7⟩ := H8.out.facts; clear b8)
                  obtain ⟨⟨s0, s1, s2, s3, s4, s5, s6, s7⟩, hC, hT⟩ := (((((⟨H8.out.low, H8.out.rb, C8.out, BL.out, RL.out⟩ : Outs RT w b r n (putL L i x.id) w8).put 4 (.int .u64 (z 0))).put 5 (.int .u64 (z 1))).put 6 (.int .u64 (z 2))).put 7 (.int .u64 (z 3))).ends (.int .i64 (dn + 1)) (.int .i64 dm) (.int .i64 db) (.int .i64 rl) (.int .u64 (z 0)) (.int .u64 (z 1)) (.int .u64 (z 2)) (.int .u64 (z 3))
                  exact bodyPost_ret (v := .tuple #[.agg #[.int .i64 (dn + 1), .int .i64 dm, .int .i64 (db), .int .i64 rl, .int .u64 (z 0), .int .u64 (z 1), .int .u64 (z 2), .int .u64 (z 3)], .bool false]) (by simp [results, Try.results18, go_sem, s0, s1, s2, s3, s4, s5, s6, s7]) rfl ⟨rfl, hC, hT⟩
                · skip
                  rw [show workL n L x.id (i : Int) true = putL L i x.id by unfold workL; rw [if_pos ⟨rfl, HS.out⟩]]
                  rw [show workW n L x.id (i : Int) true rel ⟨dn, dm, db, rl, p⟩ = (⟨dn, dm, rel - 1, wUp rl, p⟩, true) by unfold workW; rw [if_pos ⟨rfl, HS.out⟩, if_pos ⟨by rw [Int.toNat_natCast, hv]; exact hvi, by omega, hq⟩]]
                  unfold StepBack
                  dsimp only
                  unfold wUp
                  rw [hrl]
                  rw [hq] at HB
                  have q1 : (v == x.id) = false := by rw [beq_eq_false_iff_ne]; exact hvi
                  have q2 : (v != x.id) = true := by rw [bne_iff_ne]; exact hvi
                  have q3 : 0 < rel := by omega
                  have q4 : decide (0 < rel) = true := decide_eq_true q3
                  clear h WI hq
                  generalize wd p = y at *
                  go_enter Try.func18, Try.ntmps18
                  go_upto_region 1 with fail
                  refine gen_world (fun W => StepAt (fun k => k = r) w x dn dm db rl y W ∧ Below w.heap.size w W) ⟨H0.out, (by repeat (first | exact Below.refl _ _ | (with_reducible assumption) | refine bw_alloc ?_ _ | refine bw_drew ?_))⟩ ?_
                  intro W0 ⟨hw0, hwb⟩
                  have H1 := Lib.hid hw0
                  have B0 := Lib.hid hwb
                  clear hw0 hwb H0
                  obtain ⟨t0, t1, t2, t3, t4, t5, t6, q0, q1, q2, q3, q4, q5, q6, q7, f0, f1, f2, f3, f4, f5, f6, f7, r0, r1, r2, r3, r4, r5, r6, r7, g0, g1, g2, g3, g4, g5, g6, g7⟩ := H1.out.facts
                  go_upto_region 11 with (first
                    | (go_at_call 40; (refine (AC.out _ B0.out).mono ?_); rintro e w1 ⟨rfl, b1⟩; have H2 := Lib.hid (H1.out.below b1); obtain ⟨t0, t1, t2, t3, t4, t5, t6, q0, q1, q2, q3, q4, q5, q6, q7, f0, f1, f2, f3, f4, f5, f6, f7, r0, r1, r2, r3, r4, r5, r6, r7, g0, g1, g2, g3, g4, g5, g6, g7⟩ := H2.out.facts; have B1 := Lib.hid (below_up B0.out b1); have k0 := (CH.out.below B1.out).slice; clear b1)
                    | (go_at_call 41; (refine (HB.out _).mono ?_); rintro e w2 ⟨rfl, b2⟩; have H3 := Lib.hid (H2.out.below b2); obtain ⟨t0, t1, t2, t3, t4, t5, t6, q0, q1, q2, q3, q4, q5, q6, q7, f0, f1, f2, f3, f4, f5, f6, f7, r0, r1, r2, r3, r4, r5, r6, r7, g0, g1, g2, g3, g4, g5, g6, g7⟩ := H3.out.facts; have B2 := Lib.hid (below_up B1.out b2); have cc := CH.out.below B2.out; have k1 := cc.slice; have k2 := cc.row.cell hi; rw [hv] at k2; clear cc; clear b2))
                  go_quiet (fail)
                  go_upto_region 12 with fail
                  refine gen_world (fun W => StepAt (fun k => k = r) w x dn dm db rl y W ∧ Below w.heap.size w W) ⟨H3.out.below ⟨rfl, rfl, rfl, Nat.le_refl _, fun _ _ => rfl⟩, below_up B2.out ⟨rfl, rfl, rfl, Nat.le_refl _, fun _ _ => rfl⟩⟩ ?_
                  intro W5 ⟨hw5, hb5⟩
                  have H5 := Lib.hid hw5
                  have B5 := Lib.hid hb5
                  clear hw5 hb5
                  obtain ⟨t0, t1, t2, t3, t4, t5, t6, q0, q1, q2, q3, q4, q5, q6, q7, f0, f1, f2, f3, f4, f5, f6, f7, r0, r1, r2, r3, r4, r5, r6, r7, g0, g1, g2, g3, g4, g5, g6, g7⟩ := H5.out.facts
                  have C6 := Lib.hid (CH.out.below B5.out)
                  have k3 := C6.out.slice
                  have k4 := C6.out.row.cell hi
                  have k5 := C6.out.row.free i
                  go_still_tail 8, (by kernel_rfl)
                  go_upto_region 13 with fail
                  refine gen_world (fun W => StepAt (fun k => k = r) w x dn dm db rl y W ∧ Ch RT W b r n (putL L i x.id)) (used H5.out C6.out RL.out hi HO.out) ?_
                  intro W7 ⟨hw7, hc7⟩
                  have H7 := Lib.hid hw7
                  have C7 := Lib.hid hc7
                  clear hw7 hc7
                  obtain ⟨t0, t1, t2, t3, t4, t5, t6, q0, q1, q2, q3, q4, q5, q6, q7, f0, f1, f2, f3, f4, f5, f6, f7, r0, r1, r2, r3, r4, r5, r6, r7, g0, g1, g2, g3, g4, g5, g6, g7⟩ := H7.out.facts
                  go_wp2
                  obtain ⟨⟨s0, s1, s2, s3, s4, s5, s6, s7⟩, hC, hT⟩ := (((⟨H7.out.low, H7.out.rb, C7.out, BL.out, RL.out⟩ : Outs RT w b r n (putL L i x.id) W7).put 2 (.int .i64 (rel - 1))).put 3 (.int .i64 rl')).ends (.int .i64 dn) (.int .i64 dm) (.int .i64 (rel - 1)) (.int .i64 rl') (.int .u64 (y 0)) (.int .u64 (y 1)) (.int .u64 (y 2)) (.int .u64 (y 3))
                  exact bodyPost_ret (v := .tuple #[.agg #[.int .i64 (dn), .int .i64 dm, .int .i64 (rel - 1), .int .i64 rl', .int .u64 (y 0), .int .u64 (y 1), .int .u64 (y 2), .int .u64 (y 3)], .bool true]) (by simp [results, Try.results18, go_sem, s0, s1, s2, s3, s4, s5, s6, s7]) rfl ⟨rfl, hC, hT⟩
        · skip
          have d0 : ¬ s < 0 := by omega
          have d1 : (n : Int) ≤ s := by omega
          rw [show workL n L x.id s u = L by unfold workL; rw [if_neg (fun z => h1 z.2.2)]]
          rw [show workW n L x.id s u rel ⟨dn, dm, db, rl, p⟩ = (⟨dn + 1, dm, db, rl, p⟩, false) by unfold workW; rw [if_neg (fun z => h1 z.2.2)]]
          unfold StepBack
          dsimp only
          clear hf0 WI h
          generalize hasP p s = q at *
          generalize wd p = y at *
          go_enter Try.func18, Try.ntmps18
          go_upto_region 1 with fail
          refine gen_world (fun W => StepAt (fun k => k = r) w x dn dm db rl y W ∧ Below w.heap.size w W) ⟨H0.out, (by repeat (first | exact Below.refl _ _ | (with_reducible assumption) | refine bw_alloc ?_ _ | refine bw_drew ?_))⟩ ?_
          intro W0 ⟨hw0, hwb⟩
          have H1 := Lib.hid hw0
          have B0 := Lib.hid hwb
          clear hw0 hwb H0
          obtain ⟨t0, t1, t2, t3, t4, t5, t6, q0, q1, q2, q3, q4, q5, q6, q7, f0, f1, f2, f3, f4, f5, f6, f7, r0, r1, r2, r3, r4, r5, r6, r7, g0, g1, g2, g3, g4, g5, g6, g7⟩ := H1.out.facts
          go_upto_region 11 with (first
            | (go_at_call 40; (refine (AC.out _ B0.out).mono ?_); rintro e w1 ⟨rfl, b1⟩; have H2 := Lib.hid (H1.out.below b1); obtain ⟨t0, t1, t2, t3, t4, t5, t6, q0, q1, q2, q3, q4, q5, q6, q7, f0, f1, f2, f3, f4, f5, f6, f7, r0, r1, r2, r3, r4, r5, r6, r7, g0, g1, g2, g3, g4, g5, g6, g7⟩ := H2.out.facts; have B1 := Lib.hid (below_up B0.out b1); have k0 := (CH.out.below B1.out).slice; clear b1)
            | (go_at_call 41; (refine (HB.out _).mono ?_); rintro e w2 ⟨rfl, b2⟩; have H3 := Lib.hid (H2.out.below b2); obtain ⟨t0, t1, t2, t3, t4, t5, t6, q0, q1, q2, q3, q4, q5, q6, q7, f0, f1, f2, f3, f4, f5, f6, f7, r0, r1, r2, r3, r4, r5, r6, r7, g0, g1, g2, g3, g4, g5, g6, g7⟩ := H3.out.facts; have B2 := Lib.hid (below_up B1.out b2); clear b2))
          go_quiet (fail)
          go_upto_region 16 with fail
          refine gen_world (fun W => StepAt (fun k => k = r) w x dn dm db rl y W ∧ Below w.heap.size w W) ⟨H3.out.below ⟨rfl, rfl, rfl, Nat.le_refl _, fun _ _ => rfl⟩, below_up B2.out ⟨rfl, rfl, rfl, Nat.le_refl _, fun _ _ => rfl⟩⟩ ?_
          intro W5 ⟨hw5, hb5⟩
          have H5 := Lib.hid hw5
          have B5 := Lib.hid hb5
          clear hw5 hb5
          obtain ⟨t0, t1, t2, t3, t4, t5, t6, q0, q1, q2, q3, q4, q5, q6, q7, f0, f1, f2, f3, f4, f5, f6, f7, r0, r1, r2, r3, r4, r5, r6, r7, g0, g1, g2, g3, g4, g5, g6, g7⟩ := H5.out.facts
          go_wp2
          obtain ⟨⟨s0, s1, s2, s3, s4, s5, s6, s7⟩, hC, hT⟩ := ((⟨H5.out.low, H5.out.rb, CH.out.below B5.out, BL.out, RL.out⟩ : Outs RT w b r n L W5).put 0 (.int .i64 (dn + 1))).ends (.int .i64 (dn + 1)) (.int .i64 dm) (.int .i64 db) (.int .i64 rl) (.int .u64 (y 0)) (.int .u64 (y 1)) (.int .u64 (y 2)) (.int .u64 (y 3))
          exact bodyPost_ret (v := .tuple #[.agg #[.int .i64 (dn + 1), .int .i64 dm, .int .i64 (db), .int .i64 rl, .int .u64 (y 0), .int .u64 (y 1), .int .u64 (y 2), .int .u64 (y 3)], .bool false]) (by simp [results, Try.results18, go_sem, s0, s1, s2, s3, s4, s5, s6, s7]) rfl ⟨rfl, hC, hT⟩
      · skip
        have d0 : s < 0 := by omega
        rw [show workL n L x.id s u = L by unfold workL; rw [if_neg (fun z => h0 z.2.1)]]
        rw [show workW n L x.id s u rel ⟨dn, dm, db, rl, p⟩ = (⟨dn + 1, dm, db, rl, p⟩, false) by unfold workW; rw [if_neg (fun z => h0 z.2.1)]]
        unfold StepBack
        dsimp only
        have c0 := h.slice
        clear hf0 WI h
        generalize hasP p s = q at *
        generalize wd p = y at *
        go_enter Try.func18, Try.ntmps18
        go_upto_region 1 with fail
        refine gen_world (fun W => StepAt (fun k => k = r) w x dn dm db rl y W ∧ Below w.heap.size w W) ⟨H0.out, (by repeat (first | exact Below.refl _ _ | (with_reducible assumption) | refine bw_alloc ?_ _ | refine bw_drew ?_))⟩ ?_
        intro W0 ⟨hw0, hwb⟩
        have H1 := Lib.hid hw0
        have B0 := Lib.hid hwb
        clear hw0 hwb H0
        obtain ⟨t0, t1, t2, t3, t4, t5, t6, q0, q1, q2, q3, q4, q5, q6, q7, f0, f1, f2, f3, f4, f5, f6, f7, r0, r1, r2, r3, r4, r5, r6, r7, g0, g1, g2, g3, g4, g5, g6, g7⟩ := H1.out.facts
        go_upto_region 11 with (first
          | (go_at_call 40; (refine (AC.out _ B0.out).mono ?_); rintro e w1 ⟨rfl, b1⟩; have H2 := Lib.hid (H1.out.below b1); obtain ⟨t0, t1, t2, t3, t4, t5, t6, q0, q1, q2, q3, q4, q5, q6, q7, f0, f1, f2, f3, f4, f5, f6, f7, r0, r1, r2, r3, r4, r5, r6, r7, g0, g1, g2, g3, g4, g5, g6, g7⟩ := H2.out.facts; have B1 := Lib.hid (below_up B0.out b1); have k0 := (CH.out.below B1.out).slice; clear b1)
          | (go_at_call 41; (refine (HB.out _).mono ?_); rintro e w2 ⟨rfl, b2⟩; have H3 := Lib.hid (H2.out.below b2); obtain ⟨t0, t1, t2, t3, t4, t5, t6, q0, q1, q2, q3, q4, q5, q6, q7, f0, f1, f2, f3, f4, f5, f6, f7, r0, r1, r2, r3, r4, r5, r6, r7, g0, g1, g2, g3, g4, g5, g6, g7⟩ := H3.out.facts; have B2 := Lib.hid (below_up B1.out b2); clear b2))
        go_quiet (fail)
        go_upto_region 16 with fail
        refine gen_world (fun W => StepAt (fun k => k = r) w x dn dm db rl y W ∧ Below w.heap.size w W) ⟨H3.out.below ⟨rfl, rfl, rfl, Nat.le_refl _, fun _ _ => rfl⟩, below_up B2.out ⟨rfl, rfl, rfl, Nat.le_refl _, fun _ _ => rfl⟩⟩ ?_
        intro W5 ⟨hw5, hb5⟩
        have H5 := Lib.hid hw5
        have B5 := Lib.hid hb5
        clear hw5 hb5
        obtain ⟨t0, t1, t2, t3, t4, t5, t6, q0, q1, q2, q3, q4, q5, q6, q7, f0, f1, f2, f3, f4, f5, f6, f7, r0, r1, r2, r3, r4, r5, r6, r7, g0, g1, g2, g3, g4, g5, g6, g7⟩ := H5.out.facts
        go_wp2
        obtain ⟨⟨s0, s1, s2, s3, s4, s5, s6, s7⟩, hC, hT⟩ := ((⟨H5.out.low, H5.out.rb, CH.out.below B5.out, BL.out, RL.out⟩ : Outs RT w b r n L W5).put 0 (.int .i64 (dn + 1))).ends (.int .i64 (dn + 1)) (.int .i64 dm) (.int .i64 db) (.int .i64 rl) (.int .u64 (y 0)) (.int .u64 (y 1)) (.int .u64 (y 2)) (.int .u64 (y 3))
        exact bodyPost_ret (v := .tuple #[.agg #[.int .i64 (dn + 1), .int .i64 dm, .int .i64 (db), .int .i64 rl, .int .u64 (y 0), .int .u64 (y 1), .int .u64 (y 2), .int .u64 (y 3)], .bool false]) (by simp [results, Try.results18, go_sem, s0, s1, s2, s3, s4, s5, s6, s7]) rfl ⟨rfl, hC, hT⟩
  · rw [show stepL n L x.id (accOf x dn).1 (accOf x dn).2 rel ⟨dn, dm, db, rl, p⟩ = L by unfold stepL; rw [if_neg (fun z => hf z.1)]]
    rw [show stepW n L x.id (accOf x dn).1 (accOf x dn).2 rel ⟨dn, dm, db, rl, p⟩ = (⟨dn, dm, db, rl, p⟩, false) by unfold stepW; rw [if_neg hf]]
    unfold StepBack
    dsimp only
    have HF := Lib.hid hf
    clear hf h hx AC
    by_cases n0 : dn < 0
    · clear HF
      generalize wd p = y at *
      go_enter Try.func18, Try.ntmps18
      go_upto_region 1 with fail
      refine gen_world (fun W => StepAt (fun k => k = r) w x dn dm db rl y W ∧ Below w.heap.size w W) ⟨H0.out, (by repeat (first | exact Below.refl _ _ | (with_reducible assumption) | refine bw_alloc ?_ _ | refine bw_drew ?_))⟩ ?_
      intro W0 ⟨hw0, hwb⟩
      have H1 := Lib.hid hw0
      have B0 := Lib.hid hwb
      clear hw0 hwb H0
      obtain ⟨t0, t1, t2, t3, t4, t5, t6, q0, q1, q2, q3, q4, q5, q6, q7, f0, f1, f2, f3, f4, f5, f6, f7, r0, r1, r2, r3, r4, r5, r6, r7, g0, g1, g2, g3, g4, g5, g6, g7⟩ := H1.out.facts
      go_wp2
      obtain ⟨⟨s0, s1, s2, s3, s4, s5, s6, s7⟩, hC, hT⟩ := ((⟨H1.out.low, H1.out.rb, CH.out.below B0.out, BL.out, RL.out⟩ : Outs RT w b r n L W0)).ends (.int .i64 dn) (.int .i64 dm) (.int .i64 db) (.int .i64 rl) (.int .u64 (y 0)) (.int .u64 (y 1)) (.int .u64 (y 2)) (.int .u64 (y 3))
      exact bodyPost_ret (v := .tuple #[.agg #[.int .i64 (dn), .int .i64 dm, .int .i64 (db), .int .i64 rl, .int .u64 (y 0), .int .u64 (y 1), .int .u64 (y 2), .int .u64 (y 3)], .bool false]) (by simp [results, Try.results18, go_sem, s0, s1, s2, s3, s4, s5, s6, s7]) rfl ⟨rfl, hC, hT⟩
    · skip
      by_cases n1 : dm ≤ dn
      · clear HF
        generalize wd p = y at *
        go_enter Try.func18, Try.ntmps18
        go_upto_region 1 with fail
        refine gen_world (fun W => StepAt (fun k => k = r) w x dn dm db rl y W ∧ Below w.heap.size w W) ⟨H0.out, (by repeat (first | exact Below.refl _ _ | (with_reducible assumption) | refine bw_alloc ?_ _ | refine bw_drew ?_))⟩ ?_
        intro W0 ⟨hw0, hwb⟩
        have H1 := Lib.hid hw0
        have B0 := Lib.hid hwb
        clear hw0 hwb H0
        obtain ⟨t0, t1, t2, t3, t4, t5, t6, q0, q1, q2, q3, q4, q5, q6, q7, f0, f1, f2, f3, f4, f5, f6, f7, r0, r1, r2, r3, r4, r5, r6, r7, g0, g1, g2, g3, g4, g5, g6, g7⟩ := H1.out.facts
        go_wp2
        obtain ⟨⟨s0, s1, s2, s3, s4, s5, s6, s7⟩, hC, hT⟩ := ((⟨H1.out.low, H1.out.rb, CH.out.below B0.out, BL.out, RL.out⟩ : Outs RT w b r n L W0)).ends (.int .i64 dn) (.int .i64 dm) (.int .i64 db) (.int .i64 rl) (.int .u64 (y 0)) (.int .u64 (y 1)) (.int .u64 (y 2)) (.int .u64 (y 3))
        exact bodyPost_ret (v := .tuple #[.agg #[.int .i64 (dn), .int .i64 dm, .int .i64 (db), .int .i64 rl, .int .u64 (y 0), .int .u64 (y 1), .int .u64 (y 2), .int .u64 (y 3)], .bool false]) (by simp [results, Try.results18, go_sem, s0, s1, s2, s3, s4, s5, s6, s7]) rfl ⟨rfl, hC, hT⟩
      · skip
        by_cases n2 : db < 0
        · clear HF
          generalize wd p = y at *
          go_enter Try.func18, Try.ntmps18
          go_upto_region 1 with fail
          refine gen_world (fun W => StepAt (fun k => k = r) w x dn dm db rl y W ∧ Below w.heap.size w W) ⟨H0.out, (by repeat (first | exact Below.refl _ _ | (with_reducible assumption) | refine bw_alloc ?_ _ | refine bw_drew ?_))⟩ ?_
          intro W0 ⟨hw0, hwb⟩
          have H1 := Lib.hid hw0
          have B0 := Lib.hid hwb
          clear hw0 hwb H0
          obtain ⟨t0, t1, t2, t3, t4, t5, t6, q0, q1, q2, q3, q4, q5, q6, q7, f0, f1, f2, f3, f4, f5, f6, f7, r0, r1, r2, r3, r4, r5, r6, r7, g0, g1, g2, g3, g4, g5, g6, g7⟩ := H1.out.facts
          go_wp2
          obtain ⟨⟨s0, s1, s2, s3, s4, s5, s6, s7⟩, hC, hT⟩ := ((⟨H1.out.low, H1.out.rb, CH.out.below B0.out, BL.out, RL.out⟩ : Outs RT w b r n L W0)).ends (.int .i64 dn) (.int .i64 dm) (.int .i64 db) (.int .i64 rl) (.int .u64 (y 0)) (.int .u64 (y 1)) (.int .u64 (y 2)) (.int .u64 (y 3))
          exact bodyPost_ret (v := .tuple #[.agg #[.int .i64 (dn), .int .i64 dm, .int .i64 (db), .int .i64 rl, .int .u64 (y 0), .int .u64 (y 1), .int .u64 (y 2), .int .u64 (y 3)], .bool false]) (by simp [results, Try.results18, go_sem, s0, s1, s2, s3, s4, s5, s6, s7]) rfl ⟨rfl, hC, hT⟩
        · skip
          by_cases n3 : rel < 0
          · clear HF
            generalize wd p = y at *
            go_enter Try.func18, Try.ntmps18
            go_upto_region 1 with fail
            refine gen_world (fun W => StepAt (fun k => k = r) w x dn dm db rl y W ∧ Below w.heap.size w W) ⟨H0.out, (by repeat (first | exact Below.refl _ _ | (with_reducible assumption) | refine bw_alloc ?_ _ | refine bw_drew ?_))⟩ ?_
            intro W0 ⟨hw0, hwb⟩
            have H1 := Lib.hid hw0
            have B0 := Lib.hid hwb
            clear hw0 hwb H0
            obtain ⟨t0, t1, t2, t3, t4, t5, t6, q0, q1, q2, q3, q4, q5, q6, q7, f0, f1, f2, f3, f4, f5, f6, f7, r0, r1, r2, r3, r4, r5, r6, r7, g0, g1, g2, g3, g4, g5, g6, g7⟩ := H1.out.facts
            go_wp2
            obtain ⟨⟨s0, s1, s2, s3, s4, s5, s6, s7⟩, hC, hT⟩ := ((⟨H1.out.low, H1.out.rb, CH.out.below B0.out, BL.out, RL.out⟩ : Outs RT w b r n L W0)).ends (.int .i64 dn) (.int .i64 dm) (.int .i64 db) (.int .i64 rl) (.int .u64 (y 0)) (.int .u64 (y 1)) (.int .u64 (y 2)) (.int .u64 (y 3))
            exact bodyPost_ret (v := .tuple #[.agg #[.int .i64 (dn), .int .i64 dm, .int .i64 (db), .int .i64 rl, .int .u64 (y 0), .int .u64 (y 1), .int .u64 (y 2), .int .u64 (y 3)], .bool false]) (by simp [results, Try.results18, go_sem, s0, s1, s2, s3, s4, s5, s6, s7]) rfl ⟨rfl, hC, hT⟩
          · skip
            by_cases n4 : 1000 < rel
            · clear HF
              generalize wd p = y at *
              go_enter Try.func18, Try.ntmps18
              go_upto_region 1 with fail
              refine gen_world (fun W => StepAt (fun k => k = r) w x dn dm db rl y W ∧ Below w.heap.size w W) ⟨H0.out, (by repeat (first | exact Below.refl _ _ | (with_reducible assumption) | refine bw_alloc ?_ _ | refine bw_drew ?_))⟩ ?_
              intro W0 ⟨hw0, hwb⟩
              have H1 := Lib.hid hw0
              have B0 := Lib.hid hwb
              clear hw0 hwb H0
              obtain ⟨t0, t1, t2, t3, t4, t5, t6, q0, q1, q2, q3, q4, q5, q6, q7, f0, f1, f2, f3, f4, f5, f6, f7, r0, r1, r2, r3, r4, r5, r6, r7, g0, g1, g2, g3, g4, g5, g6, g7⟩ := H1.out.facts
              go_wp2
              obtain ⟨⟨s0, s1, s2, s3, s4, s5, s6, s7⟩, hC, hT⟩ := ((⟨H1.out.low, H1.out.rb, CH.out.below B0.out, BL.out, RL.out⟩ : Outs RT w b r n L W0)).ends (.int .i64 dn) (.int .i64 dm) (.int .i64 db) (.int .i64 rl) (.int .u64 (y 0)) (.int .u64 (y 1)) (.int .u64 (y 2)) (.int .u64 (y 3))
              exact bodyPost_ret (v := .tuple #[.agg #[.int .i64 (dn), .int .i64 dm, .int .i64 (db), .int .i64 rl, .int .u64 (y 0), .int .u64 (y 1), .int .u64 (y 2), .int .u64 (y 3)], .bool false]) (by simp [results, Try.results18, go_sem, s0, s1, s2, s3, s4, s5, s6, s7]) rfl ⟨rfl, hC, hT⟩
            · skip
              by_cases n5 : x.id < 1
              · clear HF
                generalize wd p = y at *
                go_enter Try.func18, Try.ntmps18
                go_upto_region 1 with fail
                refine gen_world (fun W => StepAt (fun k => k = r) w x dn dm db rl y W ∧ Below w.heap.size w W) ⟨H0.out, (by repeat (first | exact Below.refl _ _ | (with_reducible assumption) | refine bw_alloc ?_ _ | refine bw_drew ?_))⟩ ?_
                intro W0 ⟨hw0, hwb⟩
                have H1 := Lib.hid hw0
                have B0 := Lib.hid hwb
                clear hw0 hwb H0
                obtain ⟨t0, t1, t2, t3, t4, t5, t6, q0, q1, q2, q3, q4, q5, q6, q7, f0, f1, f2, f3, f4, f5, f6, f7, r0, r1, r2, r3, r4, r5, r6, r7, g0, g1, g2, g3, g4, g5, g6, g7⟩ := H1.out.facts
                go_wp2
                obtain ⟨⟨s0, s1, s2, s3, s4, s5, s6, s7⟩, hC, hT⟩ := ((⟨H1.out.low, H1.out.rb, CH.out.below B0.out, BL.out, RL.out⟩ : Outs RT w b r n L W0)).ends (.int .i64 dn) (.int .i64 dm) (.int .i64 db) (.int .i64 rl) (.int .u64 (y 0)) (.int .u64 (y 1)) (.int .u64 (y 2)) (.int .u64 (y 3))
                exact bodyPost_ret (v := .tuple #[.agg #[.int .i64 (dn), .int .i64 dm, .int .i64 (db), .int .i64 rl, .int .u64 (y 0), .int .u64 (y 1), .int .u64 (y 2), .int .u64 (y 3)], .bool false]) (by simp [results, Try.results18, go_sem, s0, s1, s2, s3, s4, s5, s6, s7]) rfl ⟨rfl, hC, hT⟩
              · skip
                have n6 : decide (99 < x.id) = true := decide_eq_true (Decidable.byContradiction fun z => HF.out ⟨⟨by omega, by omega⟩, by omega, by omega, by show 0 ≤ dn; omega, by show dn < dm; omega, by show 0 ≤ db; omega⟩)
                clear HF
                generalize wd p = y at *
                go_enter Try.func18, Try.ntmps18
                go_upto_region 1 with fail
                refine gen_world (fun W => StepAt (fun k => k = r) w x dn dm db rl y W ∧ Below w.heap.size w W) ⟨H0.out, (by repeat (first | exact Below.refl _ _ | (with_reducible assumption) | refine bw_alloc ?_ _ | refine bw_drew ?_))⟩ ?_
                intro W0 ⟨hw0, hwb⟩
                have H1 := Lib.hid hw0
                have B0 := Lib.hid hwb
                clear hw0 hwb H0
                obtain ⟨t0, t1, t2, t3, t4, t5, t6, q0, q1, q2, q3, q4, q5, q6, q7, f0, f1, f2, f3, f4, f5, f6, f7, r0, r1, r2, r3, r4, r5, r6, r7, g0, g1, g2, g3, g4, g5, g6, g7⟩ := H1.out.facts
                go_wp2
                obtain ⟨⟨s0, s1, s2, s3, s4, s5, s6, s7⟩, hC, hT⟩ := ((⟨H1.out.low, H1.out.rb, CH.out.below B0.out, BL.out, RL.out⟩ : Outs RT w b r n L W0)).ends (.int .i64 dn) (.int .i64 dm) (.int .i64 db) (.int .i64 rl) (.int .u64 (y 0)) (.int .u64 (y 1)) (.int .u64 (y 2)) (.int .u64 (y 3))
                exact bodyPost_ret (v := .tuple #[.agg #[.int .i64 (dn), .int .i64 dm, .int .i64 (db), .int .i64 rl, .int .u64 (y 0), .int .u64 (y 1), .int .u64 (y 2), .int .u64 (y 3)], .bool false]) (by simp [results, Try.results18, go_sem, s0, s1, s2, s3, s4, s5, s6, s7]) rfl ⟨rfl, hC, hT⟩
end Go.Proofs.Ytflemmmaakhahaa

/-
  A system by plain numbers that came in, opened.
-/
namespace Go.Proofs.Ytflemmmaakhahaa
open Go.ChangeShapes Go.WideShapes Go.ChangeAt Go.RowKit

instance : Inhabited NV := ⟨⟨0, 0, 0, 0, 0, none, [], 0⟩⟩
section
variable {H : Type} {enc : TypeId × Value → H} {W : World} {base : Nat} {spare : Nat → Bool} {held : Bool}

set_option maxRecDepth 100000 in
/-- The cells of a task's plain numbers. -/
theorem open_ncells {fuel : Nat} {cs : List Value} {y : DataW H × List MemPlace} (h : DataW.trod enc Try.prog W base spare held fuel 76 cs = some y) : ∃ x : NV, cs = x.cells ∧ x.ok W := by
  obtain ⟨xs, n, _, _, hl, hlen, hf⟩ := DataW.trod_struct Try.underlying76 h
  have hl7 : cs.length = 6 := hl.trans (by kernel_rfl)
  have hx7 : xs.length = 6 := hlen
  have k1 : Try.prog.cellsOf 3 = 1 := by kernel_rfl
  have k4 : Try.prog.cellsOf 45 = 1 := by kernel_rfl
  match cs, hl7, xs, hx7 with
  | [v0, v1, v2, v3, v4, v5], _, [y0, y1, y2, y3, y4, y5], _ =>
    have t0 : DataW.trod enc Try.prog W base spare held n 3 [v0] = some y0 := by have q := hf 0 _ rfl; simpa [k1, k4] using q
    have t1 : DataW.trod enc Try.prog W base spare held n 3 [v1] = some y1 := by have q := hf 1 _ rfl; simpa [k1, k4] using q
    have t2 : DataW.trod enc Try.prog W base spare held n 3 [v2] = some y2 := by have q := hf 2 _ rfl; simpa [k1, k4] using q
    have t3 : DataW.trod enc Try.prog W base spare held n 3 [v3] = some y3 := by have q := hf 3 _ rfl; simpa [k1, k4] using q
    have t4 : DataW.trod enc Try.prog W base spare held n 3 [v4] = some y4 := by have q := hf 4 _ rfl; simpa [k1, k4] using q
    have t5 : DataW.trod enc Try.prog W base spare held n 45 [v5] = some y5 := by have q := hf 5 _ rfl; simpa [k1, k4] using q
    obtain ⟨n0, e0, _, _⟩ := DataW.trod_int Try.underlying3 t0
    obtain ⟨n1, e1, _, _⟩ := DataW.trod_int Try.underlying3 t1
    obtain ⟨n2, e2, _, _⟩ := DataW.trod_int Try.underlying3 t2
    obtain ⟨n3, e3, _, _⟩ := DataW.trod_int Try.underlying3 t3
    obtain ⟨n4, e4, _, _⟩ := DataW.trod_int Try.underlying3 t4
    obtain ⟨a2, l2, c2, e5, i6, le6, m6, _⟩ := open_nums (v := v5) Try.underlying45 Try.underlying3 k1 t5
    simp at e0 e1 e2 e3 e4
    subst e0 e1 e2 e3 e4 e5
    exact ⟨⟨n0, n1, n2, n3, n4, a2, l2, c2⟩, rfl, ⟨i6, le6, m6⟩⟩

set_option maxRecDepth 100000 in
/-- A row of tasks' plain numbers. -/
theorem open_nrow {fuel : Nat} {v : Value} {y : DataW H × List MemPlace} (h : DataW.trod enc Try.prog W base spare held fuel 22 [v] = some y) :
    ∃ (a : Option Addr) (n c : Nat) (L : List NV), v = .slice a n c ∧ Nums W a n c L := by
  rcases Go.Deep.open_slice Try.underlying22 h with ⟨hcs, _⟩ | ⟨a, len, cap, m, n, D, Pl, hcs, hb, hl, hm, hmm, hx, hi⟩
  · simp at hcs; subst hcs
    exact ⟨none, 0, 0, [], rfl, ⟨rfl, .inl rfl, (fun x hx => by cases hx), by omega⟩⟩
  · simp at hcs; subst hcs
    have k7 : Try.prog.cellsOf 76 = 6 := by kernel_rfl
    have hlm : len ≤ m := by rw [hmm]; split <;> omega
    obtain ⟨O, hO⟩ := Go.Deep.choose_lt (n := len) (p := fun i (x : NV) => x.ok W ∧ ∀ j u, x.cells[j]? = some u → W.cell? (a.add (i * 6 + j)) = some u) (fun i hil => by
      obtain ⟨cs, hc, htr⟩ := hi i (by omega)
      rw [k7] at hc
      obtain ⟨_, hcl, hat⟩ := World.cells?_some hc
      obtain ⟨x, rfl, h1⟩ := open_ncells htr
      refine ⟨x, h1, fun j u hj => ?_⟩
      have hjl : j < 6 := by
        have := (List.getElem?_eq_some_iff.1 hj).1
        rwa [ncells_len] at this
      have := hat j hjl
      rw [Go.Deep.add_add] at this
      rw [this]; exact hj)
    refine ⟨some a, len, cap, (List.range len).map O, rfl, ⟨by simp, ?_, ?_, by unfold maxLen at hm; omega⟩⟩
    · rcases Nat.eq_zero_or_pos len with z | z
      · subst z; left; rfl
      have z0 := (hO 0 z).2 0 _ rfl
      rcases a with ⟨b, off, spot⟩
      have hs : spot = none := by
        cases spot with
        | none => rfl
        | some s => simp [World.cell?, Addr.add] at z0; split at z0 <;> simp at z0
      subst hs
      refine .inr ⟨b, off, rfl, fun j u hj => ?_⟩
      have hjl : j < len * 6 := by
        have := (List.getElem?_eq_some_iff.1 hj).1
        rwa [nflat_len, List.length_map, List.length_range] at this
      have hk : ((List.range len).map O)[j / 6]? = some (O (j / 6)) := by simp [show j / 6 < len by omega]
      have hf := nflat_at _ _ _ hk (j % 6) (by omega)
      rw [show j / 6 * 6 + j % 6 = j by omega, hj] at hf
      have := (hO (j / 6) (by omega)).2 (j % 6) u hf.symm
      rw [addr_at, show j / 6 * 6 + j % 6 = j by omega] at this
      exact this
    · intro x hx
      obtain ⟨i, hi, rfl⟩ := List.mem_map.1 hx
      exact (hO i (by simpa using hi)).1

set_option maxRecDepth 100000 in
/-- A system by plain numbers, by value. -/
theorem open_nsys {r : Reach} {b0 : Nat} {v : Value} {d : DataW H} {p : List MemPlace} (hv : Value.okWide Try.prog W r b0 24 v) (h : DataW.Trod enc Try.prog W base spare held 24 v d p) :
    ∃ (s r : Int) (a : Option Addr) (n c : Nat) (L : List NV), v = .agg #[.int .i64 s, .int .i64 r, .slice a n c] ∧ Nums W a n c L := by
  obtain ⟨v0, v1, v2, y0, y1, y2, n, rfl, _, _, t0, t1, t2⟩ := Go.Joins.open_agg3 Try.underlying24 (by kernel_rfl) (by kernel_rfl) hv h
  obtain ⟨n0, e0, _, _⟩ := DataW.trod_int Try.underlying3 t0
  obtain ⟨n1, e1, _, _⟩ := DataW.trod_int Try.underlying3 t1
  obtain ⟨a, n2, c, L, e2, h2⟩ := open_nrow t2
  simp at e0 e1
  subst e0 e1 e2
  exact ⟨n0, n1, a, n2, c, L, rfl, h2⟩
end
end Go.Proofs.Ytflemmmaakhahaa
