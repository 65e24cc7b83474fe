import PyProof.Rows.All
import Wide.All
import OpenK.AllK
import Wide.FinOn
import Lean
import PyProof.EqAt
import PyProof.EqKinds
import PyProof.TupleCall
import PyProof.P3Eq
import PyProof.P3In
import PyProof.NeData
import PyProof.Rows.SortShell
import PyProof.SumWalkG
import PyProof.Rows.SeqMore3
import PyProof.FitsBits
import PyProof.MinMaxWalk
import PyProof.WalkInts
import PyProof.Rows.CallKwBuiltin
import KE.KMinKey
import PyProof.AttrMissHeap
import KE.KDictOf
import KE.KIsAll
import PyProof.Rows.StrJoin2
import PyProof.ZipIter
import PyProof.Draws
import PyProof.Rows.ZipGen
import PyProof.Rows.StrFit
import PyProof.AutoSeq1
import PySem.Challenge.RW_whyrows_k60_leaves_and_height
set_option Elab.async false
set_option linter.all false
set_option maxRecDepth 100000
set_option maxHeartbeats 400000
namespace Tim
open PySem PyProof.Rows
def kx (rk : Keyed → Int) (xs : Array Keyed) (i : Nat) : Int := match xs[i]? with
  | some p => rk p
  | none => 0
def Up (rk : Keyed → Int) (xs : Array Keyed) (lo hi : Nat) : Prop := ∀ i j, lo ≤ i → i ≤ j → j < hi → kx rk xs i ≤ kx rk xs j
def Dn (rk : Keyed → Int) (xs : Array Keyed) (lo hi : Nat) : Prop := ∀ i j, lo ≤ i → i ≤ j → j < hi → kx rk xs j ≤ kx rk xs i
theorem kx_of {rk : Keyed → Int} {xs : Array Keyed} {i : Nat} {p : Keyed} (h : xs[i]? = some p) : kx rk xs i = rk p := by unfold kx; rw [h]
theorem kx_same {rk : Keyed → Int} {xs ys : Array Keyed} {i j : Nat} (h : xs[i]? = ys[j]?) : kx rk xs i = kx rk ys j := by unfold kx; rw [h]
def LtOk (M : Model) (A : Around) (E : Value → Shared → Prop) (s : Shared) (kd : SortKind) (S : Keyed → Prop) (rk : Keyed → Int) : Prop :=
  ∀ (x y : Keyed) (st : SortSt) (Q : Option Bool → SortSt → Prop), S x → S y → kindOf st = kd → Q (some (decide (rk x < rk y))) st → wpS M A E s (lt' x y) Q st
structure Mv (lo hi : Nat) (st st' : SortSt) : Prop where
  perm : (arrOf st').Perm (arrOf st)
  out : ∀ k, k < lo ∨ hi ≤ k → (arrOf st')[k]? = (arrOf st)[k]?
  kind : kindOf st' = kindOf st
  pend : pendingOf st' = pendingOf st
  failed : failedOf st' = failedOf st
theorem Mv.refl (lo hi : Nat) (st : SortSt) : Mv lo hi st st := ⟨Array.Perm.refl _, fun _ _ => rfl, rfl, rfl, rfl⟩
theorem Mv.trans {lo hi : Nat} {a b c : SortSt} (h : Mv lo hi a b) (k : Mv lo hi b c) : Mv lo hi a c :=
  ⟨k.perm.trans h.perm, fun i hi => (k.out i hi).trans (h.out i hi), k.kind.trans h.kind, k.pend.trans h.pend, k.failed.trans h.failed⟩
theorem Mv.size {lo hi : Nat} {a b : SortSt} (h : Mv lo hi a b) : (arrOf b).size = (arrOf a).size := h.perm.size_eq
structure Sane (kd : SortKind) (S : Keyed → Prop) (n : Nat) (st : SortSt) : Prop where
  size : (arrOf st).size = n
  all : ∀ p ∈ (arrOf st).toList, S p
  kind : kindOf st = kd
  failed : failedOf st = none
theorem Mv.sane {lo hi : Nat} {a b : SortSt} {kd : SortKind} {S : Keyed → Prop} {n : Nat} (h : Mv lo hi a b) (k : Sane kd S n a) : Sane kd S n b :=
  ⟨h.size.trans k.size, fun p hp => k.all p ((Array.perm_iff_toList_perm.mp h.perm).mem_iff.mp hp), h.kind.trans k.kind, h.failed.trans k.failed⟩
theorem Sane.at {kd : SortKind} {S : Keyed → Prop} {n : Nat} {st : SortSt} (rk : Keyed → Int) (k : Sane kd S n st) {i : Nat} (hi : i < n) : ∃ p, (arrOf st)[i]? = some p ∧ S p ∧ kx rk (arrOf st) i = rk p := by
  have hi' : i < (arrOf st).size := by rw [k.size]; exact hi
  have e : (arrOf st)[i]? = some (arrOf st)[i] := getElem?_pos _ i hi'
  exact ⟨_, e, k.all _ (by simp), kx_of e⟩
theorem Mv.mirrored {lo hi i j : Nat} {st : SortSt} (h1 : lo ≤ i) (h2 : j ≤ hi) (hj : j ≤ (arrOf st).size) : Mv lo hi st (setArr st (mirror (arrOf st) i j ((j - i) / 2))) :=
  ⟨mirror_perm _ _ _ _, fun k hk => (getElem?_mirror_all (i := i) hj k).trans (if_neg (by omega)), rfl, rfl, rfl⟩
theorem Mv.sunk {lo hi src d : Nat} {st : SortSt} (h1 : lo + d ≤ src) (h2 : src < hi) (hs : src < (arrOf st).size) : Mv lo hi st (setArr st (bubble (arrOf st) src d)) :=
  ⟨bubble_perm _ _ _, fun k hk => (getElem?_bubble hs d (by omega) k).trans (by rw [if_neg (by omega), if_neg (by omega)]), rfl, rfl, rfl⟩
theorem kx_mirror (rk : Keyed → Int) {xs : Array Keyed} {i j : Nat} (hj : j ≤ xs.size) (k : Nat) :
    kx rk (mirror xs i j ((j - i) / 2)) k = if i ≤ k ∧ k < j then kx rk xs (i + j - 1 - k) else kx rk xs k := by
  have e := getElem?_mirror_all (i := i) hj k
  by_cases c : i ≤ k ∧ k < j
  · rw [if_pos c] at e ⊢
    exact kx_same e
  · rw [if_neg c] at e ⊢
    exact kx_same e
theorem kx_mirror_level (rk : Keyed → Int) {xs : Array Keyed} {i j : Nat} (hj : j ≤ xs.size) (he : ∀ k, i ≤ k → k < j → kx rk xs k = kx rk xs (j - 1)) (k : Nat) :
    kx rk (mirror xs i j ((j - i) / 2)) k = kx rk xs k := by
  rw [kx_mirror rk hj]
  by_cases c : i ≤ k ∧ k < j
  · rw [if_pos c, he _ (by omega) (by omega), he k c.1 c.2]
  · rw [if_neg c]
theorem kx_bubble (rk : Keyed → Int) {xs : Array Keyed} {src d : Nat} (hs : src < xs.size) (hd : d ≤ src) (k : Nat) :
    kx rk (bubble xs src d) k = if k = src - d then kx rk xs src else if src - d < k ∧ k ≤ src then kx rk xs (k - 1) else kx rk xs k := by
  have e := getElem?_bubble hs d hd k
  by_cases c : k = src - d
  · rw [if_pos c] at e ⊢
    exact kx_same e
  · rw [if_neg c] at e ⊢
    by_cases c2 : src - d < k ∧ k ≤ src
    · rw [if_pos c2] at e ⊢
      exact kx_same e
    · rw [if_neg c2] at e ⊢
      exact kx_same e
section
variable {M : Model} {A : Around} {E : Value → Shared → Prop} {s : Shared} {kd : SortKind} {S : Keyed → Prop} {rk : Keyed → Int} {n : Nat}
theorem w_ltAt (L : LtOk M A E s kd S rk) {st : SortSt} (B : Sane kd S n st) {i j : Nat} (hi : i < n) (hj : j < n) {Q : Option Bool → SortSt → Prop}
    (h : Q (some (decide (kx rk (arrOf st) i < kx rk (arrOf st) j))) st) : wpS M A E s (ltAt' i j) Q st := by
  obtain ⟨p, e1, s1, k1⟩ := B.at rk hi
  obtain ⟨q, e2, s2, k2⟩ := B.at rk hj
  rw [k1, k2] at h
  rw [ltAt'_eq]
  refine wpS_bind (wpS_get ?_)
  show wpS M A E s (elem' (arrOf st) i >>= fun x => elem' (arrOf st) j >>= fun y => lt' x y) Q st
  rw [elem'_eq, elem'_eq, e1, e2]
  exact wpS_bind (wpS_pure (wpS_bind (wpS_pure (L p q st Q s1 s2 B.kind h))))
theorem w_reverse {st : SortSt} {i j : Nat} {Q : Unit → SortSt → Prop} (h : Q () (setArr st (mirror (arrOf st) i j ((j - i) / 2)))) : wpS M A E s (reverseSlice' i j) Q st := by
  rw [reverseSlice'_eq]
  exact wpS_modify h
def upLoop (lo a nrem : Nat) : StateT SortSt Sem AscSt :=
  forIn [a:nrem] ((none, a) : AscSt) fun _ c => do
    let x ← ltAt' (lo + c.snd) (lo + c.snd - 1)
    match x with
    | some b => if b = true then pure (ForInStep.done (none, c.snd)) else pure (ForInStep.yield (none, c.snd + 1))
    | _ => pure (ForInStep.done (some none, c.snd))
def upTail (lo m nrem : Nat) : StateT SortSt Sem (Option Nat) := do
  reverseSlice' lo (lo + m)
  let c ← upLoop lo m nrem
  match c.fst with
  | some r => pure r
  | none => pure (some c.snd)
def dnLoop (lo m nrem : Nat) : StateT SortSt Sem DescSt :=
  forIn [m:nrem] ((none, m, 0) : DescSt) fun _ c => do
    let x ← ltAt' (lo + c.snd.fst) (lo + c.snd.fst - 1)
    match x with
    | some b =>
      if b = true then
        if c.snd.snd > 0 then do
          reverseSlice' (lo + c.snd.fst - (c.snd.snd + 1)) (lo + c.snd.fst)
          pure (ForInStep.yield (none, c.snd.fst + 1, 0))
        else pure (ForInStep.yield (none, c.snd.fst + 1, 0))
      else do
        let y ← ltAt' (lo + c.snd.fst - 1) (lo + c.snd.fst)
        match y with
        | some g => if g = true then pure (ForInStep.done (none, c.snd.fst, c.snd.snd)) else pure (ForInStep.yield (none, c.snd.fst + 1, c.snd.snd + 1))
        | _ => pure (ForInStep.done (some none, c.snd.fst, c.snd.snd))
    | _ => pure (ForInStep.done (some none, c.snd.fst, c.snd.snd))
def dnPart (lo m nrem : Nat) : StateT SortSt Sem (Option Nat) := do
  liftM (rule "list.sort.descending-run")
  let c ← dnLoop lo (m + 1) nrem
  match c.fst with
  | some r => pure r
  | none =>
    if c.snd.snd > 0 then do
      reverseSlice' (lo + c.snd.fst - (c.snd.snd + 1)) (lo + c.snd.fst)
      upTail lo c.snd.fst nrem
    else upTail lo c.snd.fst nrem
theorem countRun_at (lo nrem : Nat) : countRun' lo nrem = (do
    let c ← upLoop lo 1 nrem
    match c.fst with
    | some r => pure r
    | none =>
      if (c.snd == nrem) = true then pure (some c.snd)
      else if c.snd > 1 then do
        let x ← ltAt' lo (lo + c.snd - 1)
        match x with
        | some rose => if rose = true then pure (some c.snd) else do
            reverseSlice' lo (lo + c.snd)
            dnPart lo c.snd nrem
        | _ => pure none
      else dnPart lo c.snd nrem) := by
  rw [countRun'_eq]
  dsimp only
  unfold dnPart upTail dnLoop upLoop
  congr 1
  funext c
  obtain ⟨r, m⟩ := c
  cases r with
  | some r => rfl
  | none =>
    dsimp only
    split
    · rfl
    · split
      · congr 1
        funext x
        cases x with
        | none => rfl
        | some rose =>
          dsimp only
          split
          · rfl
          · congr 1
            funext _u
            congr 1
            funext _v
            congr 1
            congr 1
            funext c2
            obtain ⟨r2, n2, q2⟩ := c2
            cases r2 with
            | some r2 => rfl
            | none =>
              dsimp only
              split
              · congr 1
                funext _w
                congr 1
                funext _z
                congr 1
                funext c3
                obtain ⟨r3, n3⟩ := c3
                cases r3 <;> rfl
              · congr 1
                funext _z
                congr 1
                funext c3
                obtain ⟨r3, n3⟩ := c3
                cases r3 <;> rfl
      · congr 1
        funext _v
        congr 1
        congr 1
        funext c2
        obtain ⟨r2, n2, q2⟩ := c2
        cases r2 with
        | some r2 => rfl
        | none =>
          dsimp only
          split
          · congr 1
            funext _w
            congr 1
            funext _z
            congr 1
            funext c3
            obtain ⟨r3, n3⟩ := c3
            cases r3 <;> rfl
          · congr 1
            funext _z
            congr 1
            funext c3
            obtain ⟨r3, n3⟩ := c3
            cases r3 <;> rfl
theorem w_upLoop (L : LtOk M A E s kd S rk) {st : SortSt} {lo a nrem : Nat} {Q : AscSt → SortSt → Prop} (B : Sane kd S n st) (hn : lo + nrem ≤ n) (ha : 1 ≤ a) (han : a ≤ nrem) (hs : Up rk (arrOf st) lo (lo + a))
    (h : ∀ m, a ≤ m → m ≤ nrem → Up rk (arrOf st) lo (lo + m) → (m = nrem ∨ kx rk (arrOf st) (lo + m) < kx rk (arrOf st) (lo + m - 1)) → Q (none, m) st) : wpS M A E s (upLoop lo a nrem) Q st := by
  unfold upLoop
  refine wpS_forRange (I := fun x c st' => st' = st ∧ c = (none, x) ∧ Up rk (arrOf st) lo (lo + x)) ?turn ?last ⟨rfl, rfl, hs⟩
  case last =>
    rintro c st' ⟨rfl, rfl, hs'⟩
    have e : max a nrem = nrem := by omega
    rw [e] at hs' ⊢
    exact h nrem han (Nat.le_refl _) hs' (.inl rfl)
  case turn =>
    rintro x c st' hax hxn ⟨rfl, rfl, hs'⟩
    dsimp only
    refine wpS_bind (w_ltAt L B (by omega) (by omega) ?_)
    by_cases hless : kx rk (arrOf st') (lo + x) < kx rk (arrOf st') (lo + x - 1)
    · simp only [hless, decide_true, if_true]
      exact wpS_pure (h x hax (by omega) hs' (.inr hless))
    · simp only [hless, decide_false, Bool.false_eq_true, if_false]
      refine wpS_pure ⟨rfl, rfl, fun i j h1 h2 h3 => ?_⟩
      by_cases hj : j < lo + x
      · exact hs' i j h1 h2 hj
      · have hj' : j = lo + x := by omega
        subst hj'
        by_cases hi : i = lo + x
        · subst hi
          omega
        · have := hs' i (lo + x - 1) h1 (by omega) (by omega)
          omega
theorem w_upTail (L : LtOk M A E s kd S rk) {st : SortSt} {lo m nrem : Nat} {Q : Option Nat → SortSt → Prop} (B : Sane kd S n st) (hn : lo + nrem ≤ n) (h1 : 1 ≤ m) (hm : m ≤ nrem) (hs : Dn rk (arrOf st) lo (lo + m))
    (h : ∀ k st', Mv lo (lo + nrem) st st' → 1 ≤ k → k ≤ nrem → Up rk (arrOf st') lo (lo + k) → Q (some k) st') : wpS M A E s (upTail lo m nrem) Q st := by
  unfold upTail
  have hz : lo + m ≤ (arrOf st).size := by rw [B.size]; omega
  have v : Mv lo (lo + nrem) st (setArr st (mirror (arrOf st) lo (lo + m) ((lo + m - lo) / 2))) := Mv.mirrored (Nat.le_refl _) (by omega) hz
  refine wpS_bind (w_reverse (wpS_bind (w_upLoop L (v.sane B) hn h1 hm ?_ fun k k1 k2 k3 _ => wpS_pure (h k _ v (by omega) k2 k3))))
  intro i j a b c
  show kx rk (mirror (arrOf st) lo (lo + m) ((lo + m - lo) / 2)) i ≤ kx rk (mirror (arrOf st) lo (lo + m) ((lo + m - lo) / 2)) j
  rw [kx_mirror rk hz, kx_mirror rk hz, if_pos (by omega), if_pos (by omega)]
  exact hs _ _ (by omega) (by omega) (by omega)
theorem w_dnLoop (L : LtOk M A E s kd S rk) {st : SortSt} {lo m nrem : Nat} {Q : DescSt → SortSt → Prop} (B : Sane kd S n st) (hn : lo + nrem ≤ n) (h1 : 1 ≤ m) (hm : m ≤ nrem) (hs : Dn rk (arrOf st) lo (lo + m))
    (h : ∀ k q st', Mv lo (lo + nrem) st st' → m ≤ k → k ≤ nrem → Dn rk (arrOf st') lo (lo + k) → q + 1 ≤ k → (∀ i, lo + k - (q + 1) ≤ i → i < lo + k → kx rk (arrOf st') i = kx rk (arrOf st') (lo + k - 1)) → Q (none, k, q) st') :
    wpS M A E s (dnLoop lo m nrem) Q st := by
  unfold dnLoop
  refine wpS_forRange (I := fun x c st' => ∃ q, c = (none, x, q) ∧ Mv lo (lo + nrem) st st' ∧ Dn rk (arrOf st') lo (lo + x) ∧ q + 1 ≤ x ∧
    (∀ i, lo + x - (q + 1) ≤ i → i < lo + x → kx rk (arrOf st') i = kx rk (arrOf st') (lo + x - 1))) ?turn ?last ⟨0, rfl, Mv.refl _ _ _, hs, by omega, fun i a b => by rw [show i = lo + m - 1 by omega]⟩
  case last =>
    rintro c st' ⟨q, rfl, v, hs', hq, he⟩
    have e : max m nrem = nrem := by omega
    rw [e] at hs' hq he ⊢
    exact h nrem q st' v hm (Nat.le_refl _) hs' hq he
  case turn =>
    rintro x c st' hax hxn ⟨q, rfl, v, hs', hq, he⟩
    dsimp only
    have B' := v.sane B
    have hz : lo + x ≤ (arrOf st').size := by rw [B'.size]; omega
    refine wpS_bind (w_ltAt L B' (by omega) (by omega) ?_)
    by_cases hless : kx rk (arrOf st') (lo + x) < kx rk (arrOf st') (lo + x - 1)
    · simp only [hless, decide_true, if_true]
      have more : ∀ xs : Array Keyed, (∀ k, kx rk xs k = kx rk (arrOf st') k) → Dn rk xs lo (lo + (x + 1)) := by
        intro xs hk i j a b c
        rw [hk, hk]
        by_cases hj : j < lo + x
        · exact hs' i j a b hj
        · have hj' : j = lo + x := by omega
          subst hj'
          by_cases hi : i = lo + x
          · subst hi
            omega
          · have := hs' i (lo + x - 1) a (by omega) (by omega)
            omega
      by_cases hq0 : q > 0
      · rw [if_pos hq0]
        exact wpS_bind (w_reverse (wpS_pure ⟨0, rfl, v.trans (Mv.mirrored (by omega) (by omega) hz), more _ (kx_mirror_level rk hz he), by omega, fun i a b => by rw [show i = lo + (x + 1) - 1 by omega]⟩))
      · rw [if_neg hq0]
        exact wpS_pure ⟨0, rfl, v, more _ (fun _ => rfl), by omega, fun i a b => by rw [show i = lo + (x + 1) - 1 by omega]⟩
    · simp only [hless, decide_false, Bool.false_eq_true, if_false]
      refine wpS_bind (w_ltAt L B' (by omega) (by omega) ?_)
      by_cases hbig : kx rk (arrOf st') (lo + x - 1) < kx rk (arrOf st') (lo + x)
      · simp only [hbig, decide_true, if_true]
        exact wpS_pure (h x q st' v hax (by omega) hs' hq he)
      · simp only [hbig, decide_false, Bool.false_eq_true, if_false]
        have ex : kx rk (arrOf st') (lo + x) = kx rk (arrOf st') (lo + x - 1) := by omega
        refine wpS_pure ⟨q + 1, rfl, v, fun i j a b c => ?_, by omega, fun i a b => ?_⟩
        · by_cases hj : j < lo + x
          · exact hs' i j a b hj
          · have hj' : j = lo + x := by omega
            subst hj'
            by_cases hi : i = lo + x
            · subst hi
              omega
            · have := hs' i (lo + x - 1) a (by omega) (by omega)
              omega
        · rw [show lo + (x + 1) - 1 = lo + x by omega]
          by_cases hi : i = lo + x
          · rw [hi]
          · rw [ex]
            exact he i (by omega) (by omega)
theorem w_dnPart (L : LtOk M A E s kd S rk) {st : SortSt} {lo m nrem : Nat} {Q : Option Nat → SortSt → Prop} (B : Sane kd S n st) (hn : lo + nrem ≤ n) (hm : m + 1 ≤ nrem) (hs : Dn rk (arrOf st) lo (lo + (m + 1)))
    (h : ∀ k st', Mv lo (lo + nrem) st st' → 1 ≤ k → k ≤ nrem → Up rk (arrOf st') lo (lo + k) → Q (some k) st') : wpS M A E s (dnPart lo m nrem) Q st := by
  unfold dnPart
  refine wpS_bind (wpS_lift (wpAny_rule ⟨rfl, ?_⟩))
  refine wpS_bind (w_dnLoop L B hn (by omega) hm hs fun k q st' v k1 k2 hs' hq he => ?_)
  dsimp only
  have B' := v.sane B
  have hz : lo + k ≤ (arrOf st').size := by rw [B'.size]; omega
  by_cases hq0 : q > 0
  · rw [if_pos hq0]
    have v2 : Mv lo (lo + nrem) st' (setArr st' (mirror (arrOf st') (lo + k - (q + 1)) (lo + k) ((lo + k - (lo + k - (q + 1))) / 2))) := Mv.mirrored (by omega) (by omega) hz
    refine wpS_bind (w_reverse (w_upTail L (v2.sane B') hn (by omega) k2 ?_ fun j st2 v3 => h j st2 ((v.trans v2).trans v3)))
    intro i j a b c
    show kx rk (mirror (arrOf st') (lo + k - (q + 1)) (lo + k) ((lo + k - (lo + k - (q + 1))) / 2)) j ≤ kx rk (mirror (arrOf st') (lo + k - (q + 1)) (lo + k) ((lo + k - (lo + k - (q + 1))) / 2)) i
    rw [kx_mirror_level rk hz he, kx_mirror_level rk hz he]
    exact hs' i j a b c
  · rw [if_neg hq0]
    exact w_upTail L B' hn (by omega) k2 hs' fun j st2 v3 => h j st2 (v.trans v3)
theorem w_countRun (L : LtOk M A E s kd S rk) {st : SortSt} {lo nrem : Nat} {Q : Option Nat → SortSt → Prop} (B : Sane kd S n st) (hn : lo + nrem ≤ n) (h1 : 1 ≤ nrem)
    (h : ∀ k st', Mv lo (lo + nrem) st st' → 1 ≤ k → k ≤ nrem → Up rk (arrOf st') lo (lo + k) → Q (some k) st') : wpS M A E s (countRun' lo nrem) Q st := by
  rw [countRun_at]
  refine wpS_bind (w_upLoop L B hn (Nat.le_refl 1) h1 (fun i j a b c => by rw [show i = j by omega]; exact Int.le_refl _) fun m m1 m2 hs hor => ?_)
  dsimp only
  by_cases hm : m = nrem
  · rw [if_pos (by simpa using hm)]
    exact wpS_pure (h m st (Mv.refl _ _ _) m1 m2 hs)
  · rw [if_neg (by simpa using hm)]
    have hlt := hor.resolve_left hm
    by_cases hg : m > 1
    · rw [if_pos hg]
      refine wpS_bind (w_ltAt L B (by omega) (by omega) ?_)
      by_cases hrose : kx rk (arrOf st) lo < kx rk (arrOf st) (lo + m - 1)
      · simp only [hrose, decide_true, if_true]
        exact wpS_pure (h m st (Mv.refl _ _ _) m1 m2 hs)
      · simp only [hrose, decide_false, Bool.false_eq_true, if_false]
        have hz : lo + m ≤ (arrOf st).size := by rw [B.size]; omega
        have lev : ∀ k, lo ≤ k → k < lo + m → kx rk (arrOf st) k = kx rk (arrOf st) (lo + m - 1) := by
          intro k a b
          have a1 := hs lo k (Nat.le_refl _) a b
          have a2 := hs k (lo + m - 1) a (by omega) (by omega)
          omega
        have v : Mv lo (lo + nrem) st (setArr st (mirror (arrOf st) lo (lo + m) ((lo + m - lo) / 2))) := Mv.mirrored (Nat.le_refl _) (by omega) hz
        refine wpS_bind (w_reverse (w_dnPart L (v.sane B) hn (by omega) ?_ fun j st2 v3 => h j st2 (v.trans v3)))
        intro i j a b c
        show kx rk (mirror (arrOf st) lo (lo + m) ((lo + m - lo) / 2)) j ≤ kx rk (mirror (arrOf st) lo (lo + m) ((lo + m - lo) / 2)) i
        rw [kx_mirror_level rk hz lev, kx_mirror_level rk hz lev]
        by_cases hj : j < lo + m
        · rw [lev i a (by omega), lev j (by omega) hj]
          exact Int.le_refl _
        · have hj' : j = lo + m := by omega
          subst hj'
          by_cases hi : i = lo + m
          · subst hi
            omega
          · rw [lev i a (by omega)]
            omega
    · rw [if_neg hg]
      have hm1 : m = 1 := by omega
      subst hm1
      refine w_dnPart L B hn (by omega) ?_ h
      intro i j a b c
      by_cases hi : i = j
      · rw [hi]
        exact Int.le_refl _
      · have e1 : i = lo := by omega
        have e2 : j = lo + 1 := by omega
        subst e1 e2
        have : i + 1 - 1 = i := by omega
        rw [this] at hlt
        omega
theorem w_binarySort (L : LtOk M A E s kd S rk) {st : SortSt} {lo m ok : Nat} {Q : Bool → SortSt → Prop} (B : Sane kd S n st) (hn : lo + m ≤ n) (hok : ok ≤ m) (hs : Up rk (arrOf st) lo (lo + ok))
    (h : ∀ st', Mv lo (lo + m) st st' → Up rk (arrOf st') lo (lo + m) → Q true st') : wpS M A E s (binarySort' lo m ok) Q st := by
  rw [binarySort'_eq]
  refine wpS_bind (wpS_mono (wpS_forRange (I := fun k c st' => c = (none, ()) ∧ Mv lo (lo + m) st st' ∧ Up rk (arrOf st') lo (lo + min k m))
    (Q := fun c st' => c = (none, ()) ∧ Mv lo (lo + m) st st' ∧ Up rk (arrOf st') lo (lo + m)) ?turn ?last ?first) ?after)
  case after =>
    rintro c st' ⟨rfl, v, hs'⟩
    exact wpS_pure (h st' v hs')
  case first =>
    refine ⟨rfl, Mv.refl _ _ _, fun i j a b c => ?_⟩
    by_cases h0 : ok = 0
    · rw [show i = j by omega]
      exact Int.le_refl _
    · exact hs i j a b (by omega)
  case last =>
    rintro c st' ⟨hc, v, hs'⟩
    refine ⟨hc, v, ?_⟩
    rwa [show min (max (max ok 1) m) m = m by omega] at hs'
  case turn =>
    rintro k c st' hak hkm ⟨rfl, v, hs'⟩
    have e0 : min k m = k := by omega
    rw [e0] at hs'
    have B' := v.sane B
    refine wpS_bind (wpS_mono (wpS_forRange (I := fun x c st2 => st2 = st' ∧ ∃ l r, c = (none, l, r) ∧ l ≤ r ∧ r ≤ k ∧ r - l ≤ k - x ∧
        (∀ i, i < l → kx rk (arrOf st') (lo + i) ≤ kx rk (arrOf st') (lo + k)) ∧ (∀ i, r ≤ i → i < k → kx rk (arrOf st') (lo + k) < kx rk (arrOf st') (lo + i)))
      (Q := fun c st2 => st2 = st' ∧ ∃ l r, c = (none, l, r) ∧ l ≤ k ∧
        (∀ i, i < l → kx rk (arrOf st') (lo + i) ≤ kx rk (arrOf st') (lo + k)) ∧ (∀ i, l ≤ i → i < k → kx rk (arrOf st') (lo + k) < kx rk (arrOf st') (lo + i))) ?iturn ?ilast ?ifirst) ?iafter)
    case ifirst => exact ⟨rfl, 0, k, rfl, by omega, by omega, by omega, fun i hi => by omega, fun i a b => by omega⟩
    case ilast =>
      rintro c st2 ⟨rfl, l, r, rfl, hlr, hrk, hd, hlo, hhi⟩
      have e : l = r := by omega
      subst e
      exact ⟨rfl, l, l, rfl, hrk, hlo, hhi⟩
    case iturn =>
      rintro x c st2 _ hxk ⟨rfl, l, r, rfl, hlr, hrk, hd, hlo, hhi⟩
      dsimp only
      by_cases hge : l ≥ r
      · rw [if_pos hge]
        have e : l = r := by omega
        subst e
        exact wpS_pure ⟨rfl, l, l, rfl, hrk, hlo, hhi⟩
      · rw [if_neg hge]
        refine wpS_bind (w_ltAt L B' (by omega) (by omega) ?_)
        by_cases hless : kx rk (arrOf st2) (lo + k) < kx rk (arrOf st2) (lo + (l + r) / 2)
        · simp only [hless, decide_true, if_true]
          refine wpS_pure ⟨rfl, l, (l + r) / 2, rfl, by omega, by omega, by omega, hlo, fun i a b => ?_⟩
          have := hs' (lo + (l + r) / 2) (lo + i) (by omega) (by omega) (by omega)
          omega
        · simp only [hless, decide_false, Bool.false_eq_true, if_false]
          refine wpS_pure ⟨rfl, (l + r) / 2 + 1, r, rfl, by omega, by omega, by omega, fun i a => ?_, hhi⟩
          have := hs' (lo + i) (lo + (l + r) / 2) (by omega) (by omega) (by omega)
          omega
    case iafter =>
      rintro c st2 ⟨rfl, l, r, rfl, hlk, hlo, hhi⟩
      show wpS M A E s (moveDown' (lo + k) (lo + l) >>= fun _ => pure (ForInStep.yield (none, ()))) _ st2
      rw [moveDown'_eq]
      have hz : lo + k < (arrOf st2).size := by rw [B'.size]; omega
      refine wpS_bind (wpS_modify (wpS_pure ⟨rfl, v.trans (Mv.sunk (by omega) (by omega) hz), ?_⟩))
      rw [show min (k + 1) m = k + 1 by omega]
      intro i j a b c
      show kx rk (bubble (arrOf st2) (lo + k) (lo + k - (lo + l))) i ≤ kx rk (bubble (arrOf st2) (lo + k) (lo + k - (lo + l))) j
      rw [kx_bubble rk hz (by omega), kx_bubble rk hz (by omega), show lo + k - (lo + k - (lo + l)) = lo + l by omega]
      have low : ∀ q, lo ≤ q → q < lo + l → kx rk (arrOf st2) q ≤ kx rk (arrOf st2) (lo + k) := fun q a b => by
        have := hlo (q - lo) (by omega)
        rwa [show lo + (q - lo) = q by omega] at this
      have high : ∀ q, lo + l ≤ q → q < lo + k → kx rk (arrOf st2) (lo + k) < kx rk (arrOf st2) q := fun q a b => by
        have := hhi (q - lo) (by omega) (by omega)
        rwa [show lo + (q - lo) = q by omega] at this
      repeat' split
      all_goals first
        | (exfalso; omega)
        | exact Int.le_refl _
        | exact low _ (by omega) (by omega)
        | exact Int.le_of_lt (high _ (by omega) (by omega))
        | exact hs' _ _ (by omega) (by omega) (by omega)
end
end Tim
namespace Tim
section
variable {α : Type} {rk : α → Int} {as bs out : List α} {ia ib : Nat}
def Asc (rk : α → Int) (l : List α) : Prop := l.Pairwise fun p q => rk p ≤ rk q
structure Jn (rk : α → Int) (as bs out : List α) (ia ib : Nat) : Prop where
  perm : out.Perm (as.take ia ++ bs.take ib)
  asc : Asc rk out
  la : ∀ p ∈ out, ∀ q ∈ as.drop ia, rk p ≤ rk q
  lb : ∀ p ∈ out, ∀ q ∈ bs.drop ib, rk p ≤ rk q
theorem Jn.swap (h : Jn rk as bs out ia ib) : Jn rk bs as out ib ia := ⟨h.perm.trans List.perm_append_comm, h.asc, h.lb, h.la⟩
theorem Jn.start : Jn rk as bs [] 0 0 := ⟨by simp, List.Pairwise.nil, (fun _ z => nomatch z), (fun _ z => nomatch z)⟩
theorem asc_drop (h : Asc rk as) (i : Nat) : Asc rk (as.drop i) := List.Pairwise.sublist (List.drop_sublist i as) h
theorem drop_split (as : List α) (i k : Nat) : as.drop i = (as.drop i).take k ++ as.drop (i + k) := by
  rw [← List.drop_drop, List.take_append_drop]
theorem Jn.moreA (h : Jn rk as bs out ia ib) (ha : Asc rk as) (k : Nat) (hx : ∀ p ∈ (as.drop ia).take k, ∀ q ∈ bs.drop ib, rk p ≤ rk q) : Jn rk as bs (out ++ (as.drop ia).take k) (ia + k) ib := by
  have hd := asc_drop ha ia
  rw [drop_split as ia k] at hd
  obtain ⟨d1, d2, d3⟩ := List.pairwise_append.mp hd
  have sub1 : ∀ q, q ∈ (as.drop ia).take k → q ∈ as.drop ia := fun q hq => (List.take_sublist _ _).mem hq
  have sub2 : ∀ q, q ∈ as.drop (ia + k) → q ∈ as.drop ia := fun q hq => by
    rw [drop_split as ia k]
    exact List.mem_append_right _ hq
  refine ⟨?_, ?_, fun p hp q hq => ?_, fun p hp q hq => ?_⟩
  · rw [List.take_add, List.append_assoc]
    refine (h.perm.append_right _).trans ?_
    rw [List.append_assoc]
    exact List.Perm.append_left _ List.perm_append_comm
  · exact List.pairwise_append.mpr ⟨h.asc, d1, fun p hp q hq => h.la p hp q (sub1 q hq)⟩
  · rcases List.mem_append.mp hp with hp | hp
    · exact h.la p hp q (sub2 q hq)
    · exact d3 p hp q hq
  · rcases List.mem_append.mp hp with hp | hp
    · exact h.lb p hp q hq
    · exact hx p hp q hq
theorem Jn.done (h : Jn rk as bs out ia ib) (ha : Asc rk as) (hb : Asc rk bs) (hx : ∀ p ∈ as.drop ia, ∀ q ∈ bs.drop ib, rk p ≤ rk q) :
    (out ++ as.drop ia ++ bs.drop ib).Perm (as ++ bs) ∧ Asc rk (out ++ as.drop ia ++ bs.drop ib) := by
  constructor
  · refine ((h.perm.append_right _).append_right _).trans ?_
    have e1 : as = as.take ia ++ as.drop ia := (List.take_append_drop ..).symm
    have e2 : bs = bs.take ib ++ bs.drop ib := (List.take_append_drop ..).symm
    refine List.Perm.trans ?_ (List.Perm.of_eq (show (as.take ia ++ as.drop ia) ++ (bs.take ib ++ bs.drop ib) = as ++ bs by rw [← e1, ← e2]))
    simp only [List.append_assoc]
    refine List.Perm.append_left _ ?_
    rw [← List.append_assoc, ← List.append_assoc]
    exact List.Perm.append_right _ List.perm_append_comm
  · refine List.pairwise_append.mpr ⟨List.pairwise_append.mpr ⟨h.asc, asc_drop ha _, h.la⟩, asc_drop hb _, fun p hp q hq => ?_⟩
    rcases List.mem_append.mp hp with hp | hp
    · exact h.lb p hp q hq
    · exact hx p hp q hq
theorem Jn.done2 (h : Jn rk as bs out ia ib) (ha : Asc rk as) (hb : Asc rk bs) (hx : ∀ p ∈ bs.drop ib, ∀ q ∈ as.drop ia, rk p ≤ rk q) :
    (out ++ bs.drop ib ++ as.drop ia).Perm (as ++ bs) ∧ Asc rk (out ++ bs.drop ib ++ as.drop ia) :=
  let ⟨a, b⟩ := h.swap.done hb ha hx
  ⟨a.trans List.perm_append_comm, b⟩
theorem asc_rev (h : Asc rk as) : Asc (fun p => - rk p) as.reverse := by
  unfold Asc
  rw [List.pairwise_reverse]
  exact List.Pairwise.imp (fun {p q} (z : rk p ≤ rk q) => show - rk q ≤ - rk p by omega) h
theorem asc_rev' (h : Asc (fun p => - rk p) as) : Asc rk as.reverse := by
  unfold Asc
  rw [List.pairwise_reverse]
  exact List.Pairwise.imp (fun {p q} (z : - rk p ≤ - rk q) => show rk q ≤ rk p by omega) h
theorem rev_drop (as : List α) (k : Nat) (h : k ≤ as.length) : as.reverse.drop (as.length - k) = (as.take k).reverse := by
  rw [List.drop_reverse]
  congr 1
  congr 1
  omega
theorem rev_cut (as : List α) (i k : Nat) (hi : i ≤ k) (h : k ≤ as.length) : (as.reverse.drop (as.length - k)).take (k - i) = ((as.drop i).take (k - i)).reverse := by
  rw [rev_drop as k h, List.take_reverse, List.length_take, Nat.min_eq_left h]
  congr 1
  rw [List.drop_take]
  congr 1
  · omega
  · congr 1
    omega
theorem drop_ge (ha : Asc rk as) {i : Nat} {x : α} (hx : as[i]? = some x) : ∀ q ∈ as.drop i, rk x ≤ rk q := by
  intro q hq
  obtain ⟨j, hj, e⟩ := List.mem_iff_getElem.mp hq
  rw [List.getElem_drop] at e
  obtain ⟨hi, ex⟩ := List.getElem?_eq_some_iff.mp hx
  subst e ex
  rcases Nat.eq_zero_or_pos j with h | h
  · subst h
    exact Int.le_refl _
  · exact List.pairwise_iff_getElem.mp ha i (i + j) hi (by rw [List.length_drop] at hj; omega) (by omega)
theorem take_le (ha : Asc rk as) {i : Nat} {x : α} (hx : as[i]? = some x) : ∀ q ∈ as.take (i + 1), rk q ≤ rk x := by
  intro q hq
  obtain ⟨j, hj, e⟩ := List.mem_iff_getElem.mp hq
  rw [List.getElem_take] at e
  obtain ⟨hi, ex⟩ := List.getElem?_eq_some_iff.mp hx
  subst e ex
  have hj' : j ≤ i := by rw [List.length_take] at hj; omega
  rcases Nat.lt_or_ge j i with h | h
  · exact List.pairwise_iff_getElem.mp ha j i (by omega) hi h
  · have : j = i := by omega
    subst this
    exact Int.le_refl _
theorem take_one {i : Nat} {x : α} (hx : as[i]? = some x) : (as.drop i).take 1 = [x] := by
  obtain ⟨hi, ex⟩ := List.getElem?_eq_some_iff.mp hx
  rw [List.drop_eq_getElem_cons hi, ex]
  rfl
end
end Tim
namespace Tim
open PySem PyProof.Rows
def gallopS : Bool → Keyed → Array Keyed → Nat → Nat → Nat → StateT SortSt Sem (Option Nat) := sortPriv% PySem.Builtin.gallop
def beyd (left : Bool) (key : Keyed) (arr : Array Keyed) (i : Nat) : StateT SortSt Sem (Option Bool) := do
  let p ← elem' arr i
  if left then lt' p key else return (← lt' key p).map (!·)
theorem gallopS_eq (left : Bool) (key : Keyed) (arr : Array Keyed) (base n hint : Nat) : gallopS left key arr base n hint = (do
  let mut bk := 0
  let mut fw := 1
  let mut lo := 0
  let mut up := 0
  let some rt ← beyd left key arr (base + hint) | return none
  if rt then
    let most := n - hint
    for _ in [0:n] do
      if fw ≥ most then break
      let some mr ← beyd left key arr (base + (hint + fw)) | return none
      if !mr then break
      bk := fw
      fw := 2 * fw + 1
    lo := hint + bk + 1
    up := hint + min fw most
  else
    let most := hint + 1
    for _ in [0:n] do
      if fw ≥ most then break
      let some fd ← beyd left key arr (base + (hint - fw)) | return none
      if fd then break
      bk := fw
      fw := 2 * fw + 1
    lo := hint + 1 - min fw most
    up := hint - bk
  for _ in [0:n] do
    if lo ≥ up then break
    let md := lo + (up - lo) / 2
    let some mr ← beyd left key arr (base + md) | return none
    if mr then lo := md + 1 else up := md
  return some up) := rfl
def ahd (left : Bool) (k v : Int) : Bool := if left then decide (v < k) else decide (v ≤ k)
theorem ahd_mono {left : Bool} {k v u : Int} (h : v ≤ u) (e : ahd left k u = true) : ahd left k v = true := by
  unfold ahd at *
  cases left
  · simp at *
    omega
  · simp at *
    omega
def gBin (left : Bool) (key : Keyed) (arr : Array Keyed) (base n lo0 up0 : Nat) : StateT SortSt Sem (Option Nat) := do
  let mut lo := lo0
  let mut up := up0
  for _ in [0:n] do
    if lo ≥ up then break
    let md := lo + (up - lo) / 2
    let some mr ← beyd left key arr (base + md) | return none
    if mr then lo := md + 1 else up := md
  return some up
section
variable {M : Model} {A : Around} {E : Value → Shared → Prop} {s : Shared} {kd : SortKind} {S : Keyed → Prop} {rk : Keyed → Int}
theorem w_elem {st : SortSt} {arr : Array Keyed} {i : Nat} {p : Keyed} {Q : Keyed → SortSt → Prop} (e : arr[i]? = some p) (h : Q p st) : wpS M A E s (elem' arr i) Q st := by
  rw [elem'_eq, e]
  exact wpS_pure h
theorem w_beyd (L : LtOk M A E s kd S rk) {st : SortSt} {left : Bool} {key : Keyed} {arr : Array Keyed} {i : Nat} {Q : Option Bool → SortSt → Prop} (hk : kindOf st = kd) (hS : S key) (hp : ∃ p, arr[i]? = some p ∧ S p)
    (h : Q (some (ahd left (rk key) (kx rk arr i))) st) : wpS M A E s (beyd left key arr i) Q st := by
  obtain ⟨p, e, sp⟩ := hp
  rw [kx_of e] at h
  unfold beyd
  refine wpS_bind (w_elem e ?_)
  cases left with
  | true => exact L p key st Q sp hS hk h
  | false =>
    refine wpS_bind (L key p st _ hS sp hk (wpS_pure ?_))
    have e2 : (!decide (rk key < rk p)) = ahd false (rk key) (rk p) := by
      unfold ahd
      simp
      rw [← decide_not]
      simp
    show Q (some (!decide (rk key < rk p))) st
    rw [e2]
    exact h
theorem w_gBin (L : LtOk M A E s kd S rk) {st : SortSt} {left : Bool} {key : Keyed} {arr : Array Keyed} {base n lo up : Nat} {Q : Option Nat → SortSt → Prop} (hk : kindOf st = kd) (hS : S key)
    (hp : ∀ i, i < n → ∃ p, arr[base + i]? = some p ∧ S p) (hu : Up rk arr base (base + n)) (hlu : lo ≤ up) (hun : up ≤ n) (h1 : ∀ i, i < lo → ahd left (rk key) (kx rk arr (base + i)) = true)
    (h2 : ∀ i, up ≤ i → i < n → ahd left (rk key) (kx rk arr (base + i)) = false)
    (h : ∀ k, k ≤ n → (∀ i, i < k → ahd left (rk key) (kx rk arr (base + i)) = true) → (∀ i, k ≤ i → i < n → ahd left (rk key) (kx rk arr (base + i)) = false) → Q (some k) st) :
    wpS M A E s (gBin left key arr base n lo up) Q st := by
  unfold gBin
  dsimp only
  refine wpS_bind (wpS_mono (wpS_forRange (I := fun x c st' => st' = st ∧ ∃ lo up, c = (none, lo, up) ∧ lo ≤ up ∧ up ≤ n ∧ up - lo ≤ n - x ∧
      (∀ i, i < lo → ahd left (rk key) (kx rk arr (base + i)) = true) ∧ (∀ i, up ≤ i → i < n → ahd left (rk key) (kx rk arr (base + i)) = false))
    (Q := fun c st' => st' = st ∧ ∃ lo up, c = (none, lo, up) ∧ up ≤ n ∧
      (∀ i, i < up → ahd left (rk key) (kx rk arr (base + i)) = true) ∧ (∀ i, up ≤ i → i < n → ahd left (rk key) (kx rk arr (base + i)) = false)) ?turn ?last ⟨rfl, lo, up, rfl, hlu, hun, by omega, h1, h2⟩) ?after)
  case after =>
    rintro c st' ⟨rfl, lo, up, rfl, a, b, d⟩
    exact wpS_pure (h up a b d)
  case last =>
    rintro c st' ⟨rfl, lo, up, rfl, a, b, d, e1, e2⟩
    have e : lo = up := by omega
    subst e
    exact ⟨rfl, lo, lo, rfl, b, e1, e2⟩
  case turn =>
    rintro x c st' _ hx ⟨rfl, lo, up, rfl, a, b, d, e1, e2⟩
    dsimp only
    by_cases hge : lo ≥ up
    · rw [if_pos hge]
      have e : lo = up := by omega
      subst e
      exact wpS_pure ⟨rfl, lo, lo, rfl, b, e1, e2⟩
    · rw [if_neg hge]
      refine wpS_bind (w_beyd L hk hS (hp _ (by omega)) ?_)
      cases em : ahd left (rk key) (kx rk arr (base + (lo + (up - lo) / 2))) with
      | true =>
        dsimp only
        rw [if_pos rfl]
        refine wpS_pure ⟨rfl, _, _, rfl, by omega, b, by omega, fun i hi => ?_, e2⟩
        exact ahd_mono (hu _ _ (by omega) (by omega) (by omega)) em
      | false =>
        dsimp only
        rw [if_neg Bool.false_ne_true]
        refine wpS_pure ⟨rfl, _, _, rfl, by omega, by omega, by omega, e1, fun i hi hn => ?_⟩
        cases ei : ahd left (rk key) (kx rk arr (base + i)) with
        | false => rfl
        | true =>
          have := ahd_mono (hu (base + (lo + (up - lo) / 2)) (base + i) (by omega) (by omega) (by omega)) ei
          rw [em] at this
          cases this
theorem w_gallop (L : LtOk M A E s kd S rk) {st : SortSt} {left : Bool} {key : Keyed} {arr : Array Keyed} {base n hint : Nat} {Q : Option Nat → SortSt → Prop} (hk : kindOf st = kd) (hS : S key)
    (hp : ∀ i, i < n → ∃ p, arr[base + i]? = some p ∧ S p) (hu : Up rk arr base (base + n)) (hh : hint < n)
    (h : ∀ k, k ≤ n → (∀ i, i < k → ahd left (rk key) (kx rk arr (base + i)) = true) → (∀ i, k ≤ i → i < n → ahd left (rk key) (kx rk arr (base + i)) = false) → Q (some k) st) :
    wpS M A E s (gallopS left key arr base n hint) Q st := by
  have dn : ∀ i j, i ≤ j → j < n → ahd left (rk key) (kx rk arr (base + j)) = true → ahd left (rk key) (kx rk arr (base + i)) = true := fun i j a b e => ahd_mono (hu _ _ (by omega) (by omega) (by omega)) e
  have nu : ∀ i j, i ≤ j → j < n → ahd left (rk key) (kx rk arr (base + i)) = false → ahd left (rk key) (kx rk arr (base + j)) = false := fun i j a b e => by
    cases ej : ahd left (rk key) (kx rk arr (base + j)) with
    | false => rfl
    | true =>
      rw [dn i j a b ej] at e
      cases e
  rw [gallopS_eq]
  dsimp only
  refine wpS_bind (w_beyd L hk hS (hp hint hh) ?_)
  cases e0 : ahd left (rk key) (kx rk arr (base + hint)) with
  | true =>
    dsimp only
    rw [if_pos rfl]
    refine wpS_bind (wpS_mono (wpS_forRange (I := fun x c st' => st' = st ∧ ∃ bk fw, c = (none, bk, fw) ∧ bk < fw ∧ x + 1 ≤ fw ∧ hint + bk < n ∧ ahd left (rk key) (kx rk arr (base + (hint + bk))) = true)
      (Q := fun c st' => st' = st ∧ ∃ bk fw, c = (none, bk, fw) ∧ bk < fw ∧ hint + bk < n ∧ ahd left (rk key) (kx rk arr (base + (hint + bk))) = true ∧ (n - hint ≤ fw ∨ hint + fw < n ∧ ahd left (rk key) (kx rk arr (base + (hint + fw))) = false)) ?turn ?last ⟨rfl, 0, 1, rfl, by omega, by omega, by omega, e0⟩) ?after)
    case last =>
      rintro c st' ⟨rfl, bk, fw, rfl, a, b, d, e⟩
      exact ⟨rfl, bk, fw, rfl, a, d, e, .inl (by omega)⟩
    case turn =>
      rintro x c st' _ hx ⟨rfl, bk, fw, rfl, a, b, d, e⟩
      dsimp only
      by_cases hge : fw ≥ n - hint
      · rw [if_pos hge]
        exact wpS_pure ⟨rfl, bk, fw, rfl, a, d, e, .inl hge⟩
      · rw [if_neg hge]
        refine wpS_bind (w_beyd L hk hS (hp _ (by omega)) ?_)
        cases em : ahd left (rk key) (kx rk arr (base + (hint + fw))) with
        | true =>
          dsimp only
          rw [if_neg (by simp)]
          exact wpS_pure ⟨rfl, fw, _, rfl, by omega, by omega, by omega, em⟩
        | false =>
          dsimp only
          rw [if_pos (by simp)]
          exact wpS_pure ⟨rfl, bk, fw, rfl, a, d, e, .inr ⟨by omega, em⟩⟩
    case after =>
      rintro c st' ⟨rfl, bk, fw, rfl, a, d, e, f⟩
      dsimp only
      refine w_gBin L hk hS hp hu (lo := hint + bk + 1) (up := hint + min fw (n - hint)) (by omega) (by omega) (fun i hi => dn i (hint + bk) (by omega) d e) (fun i hi hn => ?_) h
      rcases f with f | ⟨f1, f2⟩
      · omega
      · exact nu (hint + fw) i (by omega) hn f2
  | false =>
    dsimp only
    rw [if_neg Bool.false_ne_true]
    refine wpS_bind (wpS_mono (wpS_forRange (I := fun x c st' => st' = st ∧ ∃ bk fw, c = (none, bk, fw) ∧ bk < fw ∧ x + 1 ≤ fw ∧ bk ≤ hint ∧ ahd left (rk key) (kx rk arr (base + (hint - bk))) = false)
      (Q := fun c st' => st' = st ∧ ∃ bk fw, c = (none, bk, fw) ∧ bk < fw ∧ bk ≤ hint ∧ ahd left (rk key) (kx rk arr (base + (hint - bk))) = false ∧ (hint + 1 ≤ fw ∨ fw ≤ hint ∧ ahd left (rk key) (kx rk arr (base + (hint - fw))) = true)) ?turn ?last ⟨rfl, 0, 1, rfl, by omega, by omega, by omega, e0⟩) ?after)
    case last =>
      rintro c st' ⟨rfl, bk, fw, rfl, a, b, d, e⟩
      exact ⟨rfl, bk, fw, rfl, a, d, e, .inl (by omega)⟩
    case turn =>
      rintro x c st' _ hx ⟨rfl, bk, fw, rfl, a, b, d, e⟩
      dsimp only
      by_cases hge : fw ≥ hint + 1
      · rw [if_pos hge]
        exact wpS_pure ⟨rfl, bk, fw, rfl, a, d, e, .inl hge⟩
      · rw [if_neg hge]
        refine wpS_bind (w_beyd L hk hS (hp _ (by omega)) ?_)
        cases em : ahd left (rk key) (kx rk arr (base + (hint - fw))) with
        | true =>
          dsimp only
          rw [if_pos rfl]
          exact wpS_pure ⟨rfl, bk, fw, rfl, a, d, e, .inr ⟨by omega, em⟩⟩
        | false =>
          dsimp only
          rw [if_neg Bool.false_ne_true]
          exact wpS_pure ⟨rfl, fw, _, rfl, by omega, by omega, by omega, em⟩
    case after =>
      rintro c st' ⟨rfl, bk, fw, rfl, a, d, e, f⟩
      dsimp only
      refine w_gBin L hk hS hp hu (lo := hint + 1 - min fw (hint + 1)) (up := hint - bk) (by omega) (by omega) (fun i hi => ?_) (fun i hi hn => nu (hint - bk) i hi hn e) h
      rcases f with f | ⟨f1, f2⟩
      · omega
      · exact dn i (hint - fw) (by omega) (by omega) f2
end
end Tim
namespace Tim
open PySem PyProof.Rows
def mergeLoS : Array Keyed → Array Keyed → StateT SortSt Sem (Array Keyed) := sortPriv% PySem.Builtin.mergeLo
abbrev setGal (st : SortSt) (g : Nat) : SortSt := SortSt.mk' (kindOf st) (arrOf st) (pendingOf st) g (failedOf st)
def restA (a b out : Array Keyed) (ia ib : Nat) : Array Keyed := out ++ a.extract ia a.size ++ b.extract ib b.size
def restB (a b out : Array Keyed) (ia ib : Nat) : Array Keyed := out ++ b.extract ib b.size ++ a.extract ia a.size
theorem mergeLoS_eq (a b : Array Keyed) : mergeLoS a b = (do
  rule "list.sort.merge-lo"
  let all := a.size + b.size
  let mut o : Array Keyed := #[← elem' b 0]
  let mut x := 0
  let mut y := 1
  if y == b.size then return restA a b o x y
  if x + 1 == a.size then return restB a b o x y
  let mut g := gallopOf (← get)
  for _ in [0:all] do
    let mut ca := 0
    let mut cb := 0
    for _ in [0:all] do
      let some won ← lt' (← elem' b y) (← elem' a x) | return restA a b o x y
      if won then
        o := o.push (← elem' b y); y := y + 1; cb := cb + 1; ca := 0
        if y == b.size then return restA a b o x y
        if cb ≥ g then break
      else
        o := o.push (← elem' a x); x := x + 1; ca := ca + 1; cb := 0
        if x + 1 == a.size then return restB a b o x y
        if ca ≥ g then break
    rule "list.sort.gallop"
    g := g + 1
    for _ in [0:all] do
      if g > 1 then g := g - 1
      modify fun st => setGal st g
      let some k ← gallopS false (← elem' b y) a x (a.size - x) 0 | return restA a b o x y
      ca := k
      if k > 0 then
        o := o ++ a.extract x (x + k); x := x + k
        if x + 1 == a.size then return restB a b o x y
        if x == a.size then return restA a b o x y
      o := o.push (← elem' b y); y := y + 1
      if y == b.size then return restA a b o x y
      let some k ← gallopS true (← elem' a x) b y (b.size - y) 0 | return restA a b o x y
      cb := k
      if k > 0 then
        o := o ++ b.extract y (y + k); y := y + k
        if y == b.size then return restA a b o x y
      o := o.push (← elem' a x); x := x + 1
      if x + 1 == a.size then return restB a b o x y
      if ca < 7 && cb < 7 then break
    g := g + 1
    modify fun st => setGal st g
  unsupported "internal:list.sort.merge-bound") := rfl
structure Gl (st st' : SortSt) : Prop where
  arr : arrOf st' = arrOf st
  kind : kindOf st' = kindOf st
  pend : pendingOf st' = pendingOf st
  failed : failedOf st' = failedOf st
theorem Gl.refl (st : SortSt) : Gl st st := ⟨rfl, rfl, rfl, rfl⟩
theorem Gl.set {st st' : SortSt} (h : Gl st st') (g : Nat) : Gl st (setGal st' g) := ⟨h.arr, h.kind, h.pend, h.failed⟩
section
variable {rk : Keyed → Int} {a b o : Array Keyed} {x y : Nat}
theorem kx_list (xs : Array Keyed) (i : Nat) {p : Keyed} (h : xs.toList[i]? = some p) : kx rk xs i = rk p := kx_of (by rw [← h, Array.getElem?_toList])
theorem mem_cut {l : List Keyed} {i k : Nat} {p : Keyed} (h : p ∈ (l.drop i).take k) : ∃ j, j < k ∧ l[i + j]? = some p := by
  obtain ⟨j, hj, e⟩ := List.mem_iff_getElem.mp h
  rw [List.length_take] at hj
  refine ⟨j, by omega, ?_⟩
  rw [← e, List.getElem_take, List.getElem_drop, List.getElem?_eq_getElem]
theorem mem_rest {l : List Keyed} {i : Nat} {p : Keyed} (h : p ∈ l.drop i) : ∃ j, i ≤ j ∧ j < l.length ∧ l[j]? = some p := by
  obtain ⟨j, hj, e⟩ := List.mem_iff_getElem.mp h
  rw [List.length_drop] at hj
  refine ⟨i + j, by omega, by omega, ?_⟩
  rw [← e, List.getElem_drop, List.getElem?_eq_getElem]
theorem up_asc {xs : Array Keyed} (h : Asc rk xs.toList) (lo hi : Nat) (hh : hi ≤ xs.size) : Up rk xs lo hi := by
  intro i j _ hij hj
  have hi' : i < xs.toList.length := by rw [Array.length_toList]; omega
  have hj' : j < xs.toList.length := by rw [Array.length_toList]; omega
  rw [kx_list xs i (List.getElem?_eq_getElem hi'), kx_list xs j (List.getElem?_eq_getElem hj')]
  rcases Nat.lt_or_ge i j with q | q
  · exact List.pairwise_iff_getElem.mp h i j hi' hj' q
  · have : i = j := by omega
    subst this
    exact Int.le_refl _
theorem ext_list (xs : Array Keyed) (i k : Nat) : (xs.extract i (i + k)).toList = (xs.toList.drop i).take k := by
  rw [Array.toList_extract, List.extract_eq_take_drop]
  congr 1
  omega
theorem ext_rest (xs : Array Keyed) (i : Nat) : (xs.extract i xs.size).toList = xs.toList.drop i := by
  rw [Array.toList_extract, List.extract_eq_take_drop, List.take_of_length_le]
  rw [List.length_drop, Array.length_toList]
  omega
theorem jn_pushA {p : Keyed} (h : Jn rk a.toList b.toList o.toList x y) (ha : Asc rk a.toList) (e : a[x]? = some p) (hle : ∀ q ∈ b.toList.drop y, rk p ≤ rk q) : Jn rk a.toList b.toList (o.push p).toList (x + 1) y := by
  have e' : a.toList[x]? = some p := by rw [Array.getElem?_toList]; exact e
  have := h.moreA ha 1 (by rw [take_one e']; intro z hz; rw [List.mem_singleton.mp hz]; exact hle)
  rwa [take_one e', ← Array.toList_push] at this
theorem jn_pushB {p : Keyed} (h : Jn rk a.toList b.toList o.toList x y) (hb : Asc rk b.toList) (e : b[y]? = some p) (hle : ∀ q ∈ a.toList.drop x, rk p ≤ rk q) : Jn rk a.toList b.toList (o.push p).toList x (y + 1) :=
  (jn_pushA h.swap hb e hle).swap
theorem jn_cutA (h : Jn rk a.toList b.toList o.toList x y) (ha : Asc rk a.toList) (k : Nat) (hx : ∀ p ∈ (a.toList.drop x).take k, ∀ q ∈ b.toList.drop y, rk p ≤ rk q) : Jn rk a.toList b.toList (o ++ a.extract x (x + k)).toList (x + k) y := by
  rw [Array.toList_append, ext_list]
  exact h.moreA ha k hx
theorem jn_cutB (h : Jn rk a.toList b.toList o.toList x y) (hb : Asc rk b.toList) (k : Nat) (hx : ∀ p ∈ (b.toList.drop y).take k, ∀ q ∈ a.toList.drop x, rk p ≤ rk q) : Jn rk a.toList b.toList (o ++ b.extract y (y + k)).toList x (y + k) :=
  (jn_cutA h.swap hb k hx).swap
def Good (rk : Keyed → Int) (a b r : Array Keyed) : Prop := r.toList.Perm (a.toList ++ b.toList) ∧ Asc rk r.toList
theorem good_restA (h : Jn rk a.toList b.toList o.toList x y) (ha : Asc rk a.toList) (hb : Asc rk b.toList) (hy : y = b.size) : Good rk a b (restA a b o x y) := by
  have hx : ∀ p ∈ a.toList.drop x, ∀ q ∈ b.toList.drop y, rk p ≤ rk q := fun p _ q hq => by
    rw [List.drop_of_length_le (by rw [Array.length_toList]; omega)] at hq
    cases hq
  have := h.done ha hb hx
  unfold Good restA
  rw [Array.toList_append, Array.toList_append, ext_rest, ext_rest]
  exact this
end
structure Mg (S : Keyed → Prop) (rk : Keyed → Int) (a b : Array Keyed) : Prop where
  sa : ∀ p ∈ a.toList, S p
  sb : ∀ p ∈ b.toList, S p
  aa : Asc rk a.toList
  ab : Asc rk b.toList
  na : 0 < a.size
  nb : 0 < b.size
  top : ∃ z, a[a.size - 1]? = some z ∧ ∀ p ∈ b.toList, rk p < rk z
  bot : ∃ z, b[0]? = some z ∧ ∀ p ∈ a.toList, rk z < rk p
section
variable {S : Keyed → Prop} {rk : Keyed → Int} {a b o : Array Keyed} {x y : Nat}
theorem Mg.atA (m : Mg S rk a b) {i : Nat} (h : i < a.size) : ∃ p, a[i]? = some p ∧ S p ∧ p ∈ a.toList :=
  ⟨a[i], getElem?_pos a i h, m.sa _ (by simp), by simp⟩
theorem Mg.atB (m : Mg S rk a b) {i : Nat} (h : i < b.size) : ∃ p, b[i]? = some p ∧ S p ∧ p ∈ b.toList :=
  ⟨b[i], getElem?_pos b i h, m.sb _ (by simp), by simp⟩
theorem good_restB (m : Mg S rk a b) (h : Jn rk a.toList b.toList o.toList x y) (hx : x + 1 = a.size) : Good rk a b (restB a b o x y) := by
  obtain ⟨z, ez, hz⟩ := m.top
  have hq : ∀ p ∈ b.toList.drop y, ∀ q ∈ a.toList.drop x, rk p ≤ rk q := fun p hp q hq => by
    obtain ⟨j, h1, h2, e⟩ := mem_rest hq
    rw [Array.length_toList] at h2
    have ej : j = a.size - 1 := by omega
    rw [Array.getElem?_toList, ej, ez] at e
    cases e
    exact Int.le_of_lt (hz p (List.mem_of_mem_drop hp))
  have := h.done2 m.aa m.ab hq
  unfold Good restB
  rw [Array.toList_append, Array.toList_append, ext_rest, ext_rest]
  exact this
theorem dropA_ge (m : Mg S rk a b) {i : Nat} {p : Keyed} (e : a[i]? = some p) : ∀ q ∈ a.toList.drop i, rk p ≤ rk q := drop_ge m.aa (by rw [Array.getElem?_toList]; exact e)
theorem dropB_ge (m : Mg S rk a b) {i : Nat} {p : Keyed} (e : b[i]? = some p) : ∀ q ∈ b.toList.drop i, rk p ≤ rk q := drop_ge m.ab (by rw [Array.getElem?_toList]; exact e)
end
abbrev LoSt := Option (Array Keyed) × Array Keyed × Nat × Nat × Nat × Nat × Nat
def loTail (a b : Array Keyed) (ca cb g : Nat) (o : Array Keyed) (x y : Nat) : StateT SortSt Sem (ForInStep LoSt) := do
  let p ← elem' a x
  if (x + 1 + 1 == a.size) = true then pure (ForInStep.done (some (restB a b (o.push p) (x + 1) y), o.push p, x + 1, y, g, ca, cb))
  else if (decide (ca < 7) && decide (cb < 7)) = true then pure (ForInStep.done (none, o.push p, x + 1, y, g, ca, cb))
  else pure (ForInStep.yield (none, o.push p, x + 1, y, g, ca, cb))
def loMid (a b : Array Keyed) (ca cb g : Nat) (o : Array Keyed) (x y : Nat) : StateT SortSt Sem (ForInStep LoSt) := do
  let p ← elem' b y
  if (y + 1 == b.size) = true then pure (ForInStep.done (some (restA a b (o.push p) x (y + 1)), o.push p, x, y + 1, g, ca, cb))
  else do
    let some k ← gallopS true (← elem' a x) b (y + 1) (b.size - (y + 1)) 0 | pure (ForInStep.done (some (restA a b (o.push p) x (y + 1)), o.push p, x, y + 1, g, ca, cb))
    if k > 0 then
      if (y + 1 + k == b.size) = true then pure (ForInStep.done (some (restA a b (o.push p ++ b.extract (y + 1) (y + 1 + k)) x (y + 1 + k)), o.push p ++ b.extract (y + 1) (y + 1 + k), x, y + 1 + k, g, ca, k))
      else loTail a b ca k g (o.push p ++ b.extract (y + 1) (y + 1 + k)) x (y + 1 + k)
    else loTail a b ca k g (o.push p) x (y + 1)
def loTop (a b : Array Keyed) (ca cb g : Nat) (o : Array Keyed) (x y : Nat) : StateT SortSt Sem (ForInStep LoSt) := do
  modify fun st => setGal st g
  let some k ← gallopS false (← elem' b y) a x (a.size - x) 0 | pure (ForInStep.done (some (restA a b o x y), o, x, y, g, ca, cb))
  if k > 0 then
    if (x + k + 1 == a.size) = true then pure (ForInStep.done (some (restB a b (o ++ a.extract x (x + k)) (x + k) y), o ++ a.extract x (x + k), x + k, y, g, k, cb))
    else if (x + k == a.size) = true then pure (ForInStep.done (some (restA a b (o ++ a.extract x (x + k)) (x + k) y), o ++ a.extract x (x + k), x + k, y, g, k, cb))
    else loMid a b k cb g (o ++ a.extract x (x + k)) (x + k) y
  else loMid a b k cb g o x y
section
variable {M : Model} {A : Around} {E : Value → Shared → Prop} {s : Shared} {kd : SortKind} {S : Keyed → Prop} {rk : Keyed → Int} {a b : Array Keyed} {st : SortSt}
structure Go (rk : Keyed → Int) (a b o : Array Keyed) (x y : Nat) : Prop where
  jn : Jn rk a.toList b.toList o.toList x y
  hx : x + 1 < a.size
  hy : y < b.size
def LoQ (rk : Keyed → Int) (a b : Array Keyed) (st : SortSt) (n : Nat) (r : ForInStep LoSt) (st' : SortSt) : Prop := Gl st st' ∧ match r with
  | .done c => (∃ r, c.1 = some r ∧ Good rk a b r) ∨ (c.1 = none ∧ Go rk a b c.2.1 c.2.2.1 c.2.2.2.1 ∧ n ≤ c.2.2.1 + c.2.2.2.1)
  | .yield c => c.1 = none ∧ Go rk a b c.2.1 c.2.2.1 c.2.2.2.1 ∧ n ≤ c.2.2.1 + c.2.2.2.1
theorem w_loTail (m : Mg S rk a b) {st' : SortSt} {n ca cb g x y : Nat} {o : Array Keyed} (hg : Gl st st') (J : Jn rk a.toList b.toList o.toList x y) (hx : x + 1 < a.size) (hy : y < b.size)
    (hle : ∀ p, a[x]? = some p → ∀ q ∈ b.toList.drop y, rk p ≤ rk q) (hn : n ≤ x + y) : wpS M A E s (loTail a b ca cb g o x y) (LoQ rk a b st (n + 1)) st' := by
  obtain ⟨p, e, _, _⟩ := m.atA (i := x) (by omega)
  have J' := jn_pushA J m.aa e (hle p e)
  unfold loTail
  refine wpS_bind (w_elem e ?_)
  by_cases c1 : x + 1 + 1 = a.size
  · rw [if_pos (by simpa using c1)]
    exact wpS_pure ⟨hg, .inl ⟨_, rfl, good_restB m J' c1⟩⟩
  · rw [if_neg (by simpa using c1)]
    by_cases c2 : (decide (ca < 7) && decide (cb < 7)) = true
    · rw [if_pos c2]
      exact wpS_pure ⟨hg, .inr ⟨rfl, ⟨J', by show x + 1 + 1 < a.size; omega, hy⟩, by show n + 1 ≤ x + 1 + y; omega⟩⟩
    · rw [if_neg c2]
      exact wpS_pure ⟨hg, rfl, ⟨J', by show x + 1 + 1 < a.size; omega, hy⟩, by show n + 1 ≤ x + 1 + y; omega⟩
theorem w_loMid (L : LtOk M A E s kd S rk) (hk : kindOf st = kd) (m : Mg S rk a b) {st' : SortSt} {n ca cb g x y : Nat} {o : Array Keyed} (hg : Gl st st') (J : Jn rk a.toList b.toList o.toList x y) (hx : x + 1 < a.size) (hy : y < b.size)
    (hle : ∀ p, b[y]? = some p → ∀ q ∈ a.toList.drop x, rk p ≤ rk q) (hn : n ≤ x + y) : wpS M A E s (loMid a b ca cb g o x y) (LoQ rk a b st (n + 1)) st' := by
  obtain ⟨p, e, _, _⟩ := m.atB hy
  have J' := jn_pushB J m.ab e (hle p e)
  unfold loMid
  refine wpS_bind (w_elem e ?_)
  by_cases c1 : y + 1 = b.size
  · rw [if_pos (by simpa using c1)]
    exact wpS_pure ⟨hg, .inl ⟨_, rfl, good_restA J' m.aa m.ab c1⟩⟩
  · rw [if_neg (by simpa using c1)]
    obtain ⟨q, eq, sq, _⟩ := m.atA (i := x) (by omega)
    refine wpS_bind (w_elem eq ?_)
    refine wpS_bind (w_gallop L (hg.kind.trans hk) sq (fun i hi => ?_) (up_asc m.ab _ _ (by omega)) (by omega) fun k k1 k2 k3 => ?_)
    · obtain ⟨p, e, sp, _⟩ := m.atB (i := y + 1 + i) (by omega)
      exact ⟨p, e, sp⟩
    dsimp only
    have after : ∀ p', a[x]? = some p' → ∀ z ∈ b.toList.drop (y + 1 + k), rk p' ≤ rk z := fun p' ep z hz => by
      rw [eq] at ep
      cases ep
      obtain ⟨j, h1, h2, ez⟩ := mem_rest hz
      rw [Array.length_toList] at h2
      have := k3 (j - (y + 1)) (by omega) (by omega)
      rw [show y + 1 + (j - (y + 1)) = j by omega, kx_list b j ez] at this
      simp [ahd] at this
      omega
    by_cases c2 : k > 0
    · rw [if_pos c2]
      have J2 := jn_cutB J' m.ab k fun z hz w hw => by
        obtain ⟨j, h1, ez⟩ := mem_cut hz
        have := k2 j h1
        rw [kx_list b _ ez] at this
        simp [ahd] at this
        have := dropA_ge m eq w hw
        omega
      by_cases c3 : y + 1 + k = b.size
      · rw [if_pos (by simpa using c3)]
        exact wpS_pure ⟨hg, .inl ⟨_, rfl, good_restA J2 m.aa m.ab c3⟩⟩
      · rw [if_neg (by simpa using c3)]
        exact w_loTail m hg J2 hx (by omega) after (by omega)
    · rw [if_neg c2]
      have k0 : k = 0 := by omega
      subst k0
      exact w_loTail m hg J' hx (by omega) after (by omega)
theorem w_loTop (L : LtOk M A E s kd S rk) (hk : kindOf st = kd) (m : Mg S rk a b) {st' : SortSt} {n ca cb g x y : Nat} {o : Array Keyed} (hg : Gl st st') (G : Go rk a b o x y) (hn : n ≤ x + y) :
    wpS M A E s (loTop a b ca cb g o x y) (LoQ rk a b st (n + 1)) st' := by
  obtain ⟨J, hx, hy⟩ := G
  unfold loTop
  refine wpS_bind (wpS_modify ?_)
  have hg' := hg.set g
  obtain ⟨q, eq, sq, mq⟩ := m.atB hy
  refine wpS_bind (w_elem eq ?_)
  refine wpS_bind (w_gallop L (hg'.kind.trans hk) sq (fun i hi => ?_) (up_asc m.aa _ _ (by omega)) (by omega) fun k k1 k2 k3 => ?_)
  · obtain ⟨p, e, sp, _⟩ := m.atA (i := x + i) (by omega)
    exact ⟨p, e, sp⟩
  dsimp only
  have after : ∀ p', b[y]? = some p' → ∀ z ∈ a.toList.drop (x + k), rk p' ≤ rk z := fun p' ep z hz => by
    rw [eq] at ep
    cases ep
    obtain ⟨j, h1, h2, ez⟩ := mem_rest hz
    rw [Array.length_toList] at h2
    have := k3 (j - x) (by omega) (by omega)
    rw [show x + (j - x) = j by omega, kx_list a j ez] at this
    simp [ahd] at this
    omega
  by_cases c2 : k > 0
  · rw [if_pos c2]
    have J2 := jn_cutA J m.aa k fun z hz w hw => by
      obtain ⟨j, h1, ez⟩ := mem_cut hz
      have := k2 j h1
      rw [kx_list a _ ez] at this
      simp [ahd] at this
      have := dropB_ge m eq w hw
      omega
    by_cases c3 : x + k + 1 = a.size
    · rw [if_pos (by simpa using c3)]
      exact wpS_pure ⟨hg', .inl ⟨_, rfl, good_restB m J2 c3⟩⟩
    · rw [if_neg (by simpa using c3)]
      have c4 : ¬ x + k = a.size := fun c4 => by
        obtain ⟨z, ez, hz⟩ := m.top
        have := k2 (a.size - 1 - x) (by omega)
        rw [show x + (a.size - 1 - x) = a.size - 1 by omega, kx_of ez] at this
        simp [ahd] at this
        have := hz q mq
        omega
      rw [if_neg (by simpa using c4)]
      exact w_loMid L hk m hg' J2 (by omega) hy after (by omega)
  · rw [if_neg c2]
    have k0 : k = 0 := by omega
    subst k0
    exact w_loMid L hk m hg' J hx hy after hn
theorem w_mergeLo (L : LtOk M A E s kd S rk) (hk : kindOf st = kd) (m : Mg S rk a b) {Q : Array Keyed → SortSt → Prop} (h : ∀ r st', Gl st st' → Good rk a b r → Q r st') : wpS M A E s (mergeLoS a b) Q st := by
  rw [mergeLoS_eq]
  refine wpS_bind (wpS_lift (wpAny_rule ⟨rfl, ?_⟩))
  obtain ⟨q, eq, sq, mq⟩ := m.atB m.nb
  refine wpS_bind (w_elem eq ?_)
  have J1 : Jn rk a.toList b.toList (#[q] : Array Keyed).toList 0 1 := by
    obtain ⟨z, ez, hz⟩ := m.bot
    rw [eq] at ez
    cases ez
    exact jn_pushB (o := #[]) Jn.start m.ab eq fun w hw => Int.le_of_lt (hz w (List.mem_of_mem_drop hw))
  by_cases c1 : 1 = b.size
  · rw [if_pos (by simpa using c1)]
    exact wpS_pure (h _ _ (Gl.refl _) (good_restA J1 m.aa m.ab c1))
  · rw [if_neg (by simpa using c1)]
    by_cases c2 : 0 + 1 = a.size
    · rw [if_pos (by simpa using c2)]
      exact wpS_pure (h _ _ (Gl.refl _) (good_restB m J1 c2))
    · rw [if_neg (by simpa using c2)]
      refine wpS_bind (wpS_get ?_)
      have na := m.na
      have nb := m.nb
      have G1 : Go rk a b #[q] 0 1 := ⟨J1, by omega, by omega⟩
      refine wpS_bind (wpS_mono (wpS_forRange (I := fun i c st' => Gl st st' ∧ ∃ o x y g, c = (none, o, x, y, g) ∧ Go rk a b o x y ∧ i + 1 ≤ x + y)
        (Q := fun c st' => Gl st st' ∧ ∃ r o x y g, c = (some r, o, x, y, g) ∧ Good rk a b r) ?turn ?last ⟨Gl.refl _, #[q], 0, 1, _, rfl, G1, by omega⟩) ?after)
      case after =>
        rintro c st' ⟨hg, r, o, x, y, g, rfl, hr⟩
        exact wpS_pure (h r st' hg hr)
      case last =>
        rintro c st' ⟨hg, o, x, y, g, rfl, G, hi⟩
        have := G.hx
        have := G.hy
        exfalso
        omega
      case turn =>
        rintro i c st' _ hi ⟨hg, o, x, y, g, rfl, G, hxy⟩
        dsimp only
        refine wpS_bind (wpS_mono (wpS_forRange (I := fun j c st2 => Gl st st2 ∧ ∃ o x y ca cb, c = (none, o, x, y, ca, cb) ∧ Go rk a b o x y ∧ i + 1 + j ≤ x + y)
          (Q := fun c st2 => Gl st st2 ∧ ∃ r o x y ca cb, c = (r, o, x, y, ca, cb) ∧ match r with
            | some r => Good rk a b r
            | none => Go rk a b o x y ∧ i + 2 ≤ x + y) ?iturn ?ilast ⟨hg, o, x, y, 0, 0, rfl, G, by omega⟩) ?iafter)
        case ilast =>
          rintro c st2 ⟨hg2, o, x, y, ca, cb, rfl, G, hj⟩
          have := G.hx
          have := G.hy
          exfalso
          omega
        case iturn =>
          rintro j c st2 _ hj ⟨hg2, o, x, y, ca, cb, rfl, G, hxy2⟩
          dsimp only
          obtain ⟨pb, eb, sb, mb⟩ := m.atB G.hy
          obtain ⟨pa, ea, sa, ma⟩ := m.atA (i := x) (by have := G.hx; omega)
          refine wpS_bind (w_elem eb (wpS_bind (w_elem ea (wpS_bind (L pb pa st2 _ sb sa (hg2.kind.trans hk) ?_)))))
          by_cases hw : rk pb < rk pa
          · simp only [hw, decide_true, if_true]
            refine wpS_bind (w_elem eb ?_)
            have J2 := jn_pushB G.jn m.ab eb fun z hz => Int.le_trans (Int.le_of_lt hw) (dropA_ge m ea z hz)
            by_cases c3 : y + 1 = b.size
            · rw [if_pos (by simpa using c3)]
              exact wpS_pure ⟨hg2, _, _, _, _, _, _, rfl, good_restA J2 m.aa m.ab c3⟩
            · rw [if_neg (by simpa using c3)]
              have G2 : Go rk a b (o.push pb) x (y + 1) := ⟨J2, G.hx, by have := G.hy; omega⟩
              split
              · exact wpS_pure ⟨hg2, _, _, _, _, _, _, rfl, G2, by omega⟩
              · exact wpS_pure ⟨hg2, _, _, _, _, _, rfl, G2, by omega⟩
          · simp only [hw, decide_false, Bool.false_eq_true, if_false]
            refine wpS_bind (w_elem ea ?_)
            have J2 := jn_pushA G.jn m.aa ea fun z hz => Int.le_trans (by omega) (dropB_ge m eb z hz)
            by_cases c3 : x + 1 + 1 = a.size
            · rw [if_pos (by simpa using c3)]
              exact wpS_pure ⟨hg2, _, _, _, _, _, _, rfl, good_restB m J2 c3⟩
            · rw [if_neg (by simpa using c3)]
              have G2 : Go rk a b (o.push pa) (x + 1) y := ⟨J2, by have := G.hx; omega, G.hy⟩
              split
              · exact wpS_pure ⟨hg2, _, _, _, _, _, _, rfl, G2, by omega⟩
              · exact wpS_pure ⟨hg2, _, _, _, _, _, rfl, G2, by omega⟩
        case iafter =>
          rintro c st2 ⟨hg2, r, o2, x2, y2, ca, cb, rfl, hr⟩
          cases r with
          | some r => exact wpS_pure ⟨hg2, r, _, _, _, _, rfl, hr⟩
          | none =>
            obtain ⟨G2, hxy2⟩ := hr
            dsimp only
            refine wpS_bind (wpS_lift (wpAny_rule ⟨rfl, ?_⟩))
            refine wpS_bind (wpS_mono (wpS_forRange (I := fun j c st3 => Gl st st3 ∧ ∃ o x y g ca cb, c = (none, o, x, y, g, ca, cb) ∧ Go rk a b o x y ∧ i + 2 + j ≤ x + y)
              (Q := fun c st3 => Gl st st3 ∧ ∃ r o x y g ca cb, c = (r, o, x, y, g, ca, cb) ∧ match r with
                | some r => Good rk a b r
                | none => Go rk a b o x y ∧ i + 2 ≤ x + y) ?gturn ?glast ⟨hg2, o2, x2, y2, _, _, _, rfl, G2, by omega⟩) ?gafter)
            case glast =>
              rintro c st3 ⟨hg3, o, x, y, g, ca, cb, rfl, G, hj⟩
              have := G.hx
              have := G.hy
              exfalso
              omega
            case gturn =>
              rintro j c st3 _ hj ⟨hg3, o, x, y, g, ca, cb, rfl, G, hxy3⟩
              have go : ∀ g', wpS M A E s (loTop a b ca cb g' o x y) (LoQ rk a b st (i + 2 + j + 1)) st3 := fun g' => w_loTop L hk m hg3 G hxy3
              dsimp only
              by_cases hgt : g > 1
              case' pos =>
                rw [if_pos hgt]
                refine wpS_mono (go (g - 1)) ?_
              case' neg =>
                rw [if_neg hgt]
                refine wpS_mono (go g) ?_
              all_goals
                intro r st4 q
                obtain ⟨hg4, q⟩ := q
                cases r with
                | done c' =>
                  obtain ⟨r, o, x, y, g, ca, cb⟩ := c'
                  rcases q with ⟨r', e, q⟩ | ⟨e, q, q'⟩
                  · simp only at e
                    subst e
                    exact ⟨hg4, _, _, _, _, _, _, _, rfl, q⟩
                  · simp only at e q q'
                    subst e
                    exact ⟨hg4, _, _, _, _, _, _, _, rfl, q, by omega⟩
                | yield c' =>
                  obtain ⟨r, o, x, y, g, ca, cb⟩ := c'
                  obtain ⟨e, q, q'⟩ := q
                  simp only at e q q'
                  subst e
                  exact ⟨hg4, _, _, _, _, _, _, rfl, q, by omega⟩
            case gafter =>
              rintro c st3 ⟨hg3, r, o3, x3, y3, g3, ca3, cb3, rfl, hr⟩
              cases r with
              | some r => exact wpS_pure ⟨hg3, r, _, _, _, _, rfl, hr⟩
              | none =>
                obtain ⟨G3, hxy3⟩ := hr
                dsimp only
                exact wpS_bind (wpS_modify (wpS_pure ⟨hg3.set _, _, _, _, _, rfl, G3, by omega⟩))
end
end Tim
namespace Tim
open PySem PyProof.Rows
def mergeHiS : Array Keyed → Array Keyed → StateT SortSt Sem (Array Keyed) := sortPriv% PySem.Builtin.mergeHi
def headA (a b out : Array Keyed) (na nb : Nat) : Array Keyed := a.extract 0 na ++ b.extract 0 nb ++ out.reverse
def headB (a b out : Array Keyed) (na nb : Nat) : Array Keyed := b.extract 0 nb ++ a.extract 0 na ++ out.reverse
theorem mergeHiS_eq (a b : Array Keyed) : mergeHiS a b = (do
  rule "list.sort.merge-hi"
  let all := a.size + b.size
  let mut x := a.size - 1
  let mut y := b.size
  let mut o : Array Keyed := #[← elem' a x]
  if x == 0 then return headA a b o x y
  if y == 1 then return headB a b o x y
  let mut g := gallopOf (← get)
  for _ in [0:all] do
    let mut ca := 0
    let mut cb := 0
    for _ in [0:all] do
      let some won ← lt' (← elem' b (y - 1)) (← elem' a (x - 1)) | return headA a b o x y
      if won then
        x := x - 1; o := o.push (← elem' a x); ca := ca + 1; cb := 0
        if x == 0 then return headA a b o x y
        if ca ≥ g then break
      else
        y := y - 1; o := o.push (← elem' b y); cb := cb + 1; ca := 0
        if y == 1 then return headB a b o x y
        if cb ≥ g then break
    rule "list.sort.gallop"
    g := g + 1
    for _ in [0:all] do
      if g > 1 then g := g - 1
      modify fun st => setGal st g
      let some j ← gallopS false (← elem' b (y - 1)) a 0 x (x - 1) | return headA a b o x y
      let k := x - j
      ca := k
      if k > 0 then
        o := o ++ (a.extract j x).reverse; x := j
        if x == 0 then return headA a b o x y
      y := y - 1; o := o.push (← elem' b y)
      if y == 1 then return headB a b o x y
      let some j ← gallopS true (← elem' a (x - 1)) b 0 y (y - 1) | return headA a b o x y
      let k := y - j
      cb := k
      if k > 0 then
        o := o ++ (b.extract j y).reverse; y := j
        if y == 1 then return headB a b o x y
        if y == 0 then return headA a b o x y
      x := x - 1; o := o.push (← elem' a x)
      if x == 0 then return headA a b o x y
      if ca < 7 && cb < 7 then break
    g := g + 1
    modify fun st => setGal st g
  unsupported "internal:list.sort.merge-bound") := rfl
section
variable {rk : Keyed → Int} {a b o : Array Keyed} {x y : Nat}
def JH (rk : Keyed → Int) (a b o : Array Keyed) (x y : Nat) : Prop := Jn (fun p => - rk p) a.toList.reverse b.toList.reverse o.toList (a.size - x) (b.size - y) ∧ x ≤ a.size ∧ y ≤ b.size
theorem JH.swap (h : JH rk a b o x y) : JH rk b a o y x := ⟨h.1.swap, h.2.2, h.2.1⟩
theorem rdrop (xs : Array Keyed) {k : Nat} (h : k ≤ xs.size) : xs.toList.reverse.drop (xs.size - k) = (xs.toList.take k).reverse := by
  have := rev_drop xs.toList k (by rw [Array.length_toList]; exact h)
  rwa [Array.length_toList] at this
theorem rcut (xs : Array Keyed) {i k : Nat} (hi : i ≤ k) (h : k ≤ xs.size) : (xs.toList.reverse.drop (xs.size - k)).take (k - i) = ((xs.toList.drop i).take (k - i)).reverse := by
  have := rev_cut xs.toList i k hi (by rw [Array.length_toList]; exact h)
  rwa [Array.length_toList] at this
theorem jh_cutA (h : JH rk a b o x y) (ha : Asc rk a.toList) {j : Nat} (hj : j ≤ x) (hx : ∀ p ∈ (a.toList.drop j).take (x - j), ∀ q ∈ b.toList.take y, rk q ≤ rk p) : JH rk a b (o ++ (a.extract j x).reverse) j y := by
  obtain ⟨J, h1, h2⟩ := h
  refine ⟨?_, by omega, h2⟩
  have := J.moreA (asc_rev ha) (x - j) (fun p hp q hq => by
    rw [rcut a hj h1] at hp
    rw [rdrop b h2] at hq
    have := hx p (List.mem_reverse.mp hp) q (List.mem_reverse.mp hq)
    show - rk p ≤ - rk q
    omega)
  rw [rcut a hj h1, show a.size - x + (x - j) = a.size - j by omega] at this
  rw [Array.toList_append, Array.toList_reverse, Array.toList_extract, List.extract_eq_take_drop]
  exact this
theorem jh_pushA {p : Keyed} (h : JH rk a b o x y) (ha : Asc rk a.toList) (h1 : 1 ≤ x) (e : a[x - 1]? = some p) (hle : ∀ q ∈ b.toList.take y, rk q ≤ rk p) : JH rk a b (o.push p) (x - 1) y := by
  have e' : a.toList[x - 1]? = some p := by rw [Array.getElem?_toList]; exact e
  have t1 : (a.toList.drop (x - 1)).take (x - (x - 1)) = [p] := by
    rw [show x - (x - 1) = 1 by omega]
    exact take_one e'
  have := jh_cutA h ha (j := x - 1) (by omega) (by rw [t1]; intro z hz; rw [List.mem_singleton.mp hz]; exact hle)
  have e2 : (o ++ (a.extract (x - 1) x).reverse) = o.push p := by
    apply Array.toList_inj.mp
    rw [Array.toList_append, Array.toList_reverse, Array.toList_extract, List.extract_eq_take_drop, t1, Array.toList_push]
    rfl
  rwa [e2] at this
theorem jh_cutB (h : JH rk a b o x y) (hb : Asc rk b.toList) {j : Nat} (hj : j ≤ y) (hx : ∀ p ∈ (b.toList.drop j).take (y - j), ∀ q ∈ a.toList.take x, rk q ≤ rk p) : JH rk a b (o ++ (b.extract j y).reverse) x j := (jh_cutA h.swap hb hj hx).swap
theorem jh_pushB {p : Keyed} (h : JH rk a b o x y) (hb : Asc rk b.toList) (h1 : 1 ≤ y) (e : b[y - 1]? = some p) (hle : ∀ q ∈ a.toList.take x, rk q ≤ rk p) : JH rk a b (o.push p) x (y - 1) := (jh_pushA h.swap hb h1 e hle).swap
theorem ext_head (xs : Array Keyed) (k : Nat) : (xs.extract 0 k).toList = xs.toList.take k := by
  rw [Array.toList_extract, List.extract_eq_take_drop, List.drop_zero, Nat.sub_zero]
theorem good_headB' (h : JH rk a b o x y) (ha : Asc rk a.toList) (hb : Asc rk b.toList) (hq : ∀ p ∈ a.toList.take x, ∀ q ∈ b.toList.take y, rk q ≤ rk p) : Good rk a b (headB a b o x y) := by
  obtain ⟨J, h1, h2⟩ := h
  have := J.done (asc_rev ha) (asc_rev hb) (fun p hp q hq' => by
    rw [rdrop a h1] at hp
    rw [rdrop b h2] at hq'
    have := hq p (List.mem_reverse.mp hp) q (List.mem_reverse.mp hq')
    show - rk p ≤ - rk q
    omega)
  rw [rdrop a h1, rdrop b h2] at this
  have e : (headB a b o x y).toList = (o.toList ++ (a.toList.take x).reverse ++ (b.toList.take y).reverse).reverse := by
    unfold headB
    rw [Array.toList_append, Array.toList_append, ext_head, ext_head, Array.toList_reverse]
    simp
  unfold Good
  rw [e]
  exact ⟨(List.reverse_perm _).trans (this.1.trans ((List.reverse_perm _).append (List.reverse_perm _))), asc_rev' this.2⟩
theorem good_headA' (h : JH rk a b o x y) (ha : Asc rk a.toList) (hb : Asc rk b.toList) (hq : ∀ p ∈ b.toList.take y, ∀ q ∈ a.toList.take x, rk q ≤ rk p) : Good rk a b (headA a b o x y) := by
  obtain ⟨p, q⟩ := good_headB' h.swap hb ha hq
  exact ⟨p.trans List.perm_append_comm, q⟩
theorem good_headA (h : JH rk a b o x y) (ha : Asc rk a.toList) (hb : Asc rk b.toList) (hx : x = 0) : Good rk a b (headA a b o x y) := by
  refine good_headA' h ha hb fun p _ q hq => ?_
  rw [hx, List.take_zero] at hq
  cases hq
end
section
variable {S : Keyed → Prop} {rk : Keyed → Int} {a b o : Array Keyed} {x y : Nat}
theorem good_headB (m : Mg S rk a b) (h : JH rk a b o x y) (hy : y = 1) : Good rk a b (headB a b o x y) := by
  obtain ⟨z, ez, hz⟩ := m.bot
  refine good_headB' h m.aa m.ab fun p hp q hq => ?_
  subst hy
  obtain ⟨j, hj, e⟩ := List.mem_iff_getElem.mp hq
  rw [List.length_take] at hj
  have j0 : j = 0 := by omega
  subst j0
  rw [List.getElem_take] at e
  have : b.toList[0]? = some q := by rw [← e, List.getElem?_eq_getElem]
  rw [Array.getElem?_toList, ez] at this
  cases this
  exact Int.le_of_lt (hz p (List.mem_of_mem_take hp))
theorem takeA_le (m : Mg S rk a b) {i : Nat} {p : Keyed} (h1 : 1 ≤ i) (e : a[i - 1]? = some p) : ∀ q ∈ a.toList.take i, rk q ≤ rk p := by
  have := take_le m.aa (i := i - 1) (x := p) (by rw [Array.getElem?_toList]; exact e)
  rwa [show i - 1 + 1 = i by omega] at this
theorem takeB_le (m : Mg S rk a b) {i : Nat} {p : Keyed} (h1 : 1 ≤ i) (e : b[i - 1]? = some p) : ∀ q ∈ b.toList.take i, rk q ≤ rk p := by
  have := take_le m.ab (i := i - 1) (x := p) (by rw [Array.getElem?_toList]; exact e)
  rwa [show i - 1 + 1 = i by omega] at this
theorem mem_head {l : List Keyed} {k : Nat} {p : Keyed} (h : p ∈ l.take k) : ∃ j, j < k ∧ l[j]? = some p := by
  have := mem_cut (l := l) (i := 0) (k := k) (p := p) (by simpa using h)
  obtain ⟨j, a, b⟩ := this
  exact ⟨j, a, by rwa [Nat.zero_add] at b⟩
end
abbrev HiSt := Option (Array Keyed) × Nat × Nat × Array Keyed × Nat × Nat × Nat
def hiTail (a b : Array Keyed) (ca cb g : Nat) (o : Array Keyed) (x y : Nat) : StateT SortSt Sem (ForInStep HiSt) := do
  let p ← elem' a (x - 1)
  if (x - 1 == 0) = true then pure (ForInStep.done (some (headA a b (o.push p) (x - 1) y), x - 1, y, o.push p, g, ca, cb))
  else if (decide (ca < 7) && decide (cb < 7)) = true then pure (ForInStep.done (none, x - 1, y, o.push p, g, ca, cb))
  else pure (ForInStep.yield (none, x - 1, y, o.push p, g, ca, cb))
def hiMid (a b : Array Keyed) (ca cb g : Nat) (o : Array Keyed) (x y : Nat) : StateT SortSt Sem (ForInStep HiSt) := do
  let p ← elem' b (y - 1)
  if (y - 1 == 1) = true then pure (ForInStep.done (some (headB a b (o.push p) x (y - 1)), x, y - 1, o.push p, g, ca, cb))
  else do
    let some j ← gallopS true (← elem' a (x - 1)) b 0 (y - 1) (y - 1 - 1) | pure (ForInStep.done (some (headA a b (o.push p) x (y - 1)), x, y - 1, o.push p, g, ca, cb))
    if y - 1 - j > 0 then
      if (j == 1) = true then pure (ForInStep.done (some (headB a b (o.push p ++ (b.extract j (y - 1)).reverse) x j), x, j, o.push p ++ (b.extract j (y - 1)).reverse, g, ca, y - 1 - j))
      else if (j == 0) = true then pure (ForInStep.done (some (headA a b (o.push p ++ (b.extract j (y - 1)).reverse) x j), x, j, o.push p ++ (b.extract j (y - 1)).reverse, g, ca, y - 1 - j))
      else hiTail a b ca (y - 1 - j) g (o.push p ++ (b.extract j (y - 1)).reverse) x j
    else hiTail a b ca (y - 1 - j) g (o.push p) x (y - 1)
def hiTop (a b : Array Keyed) (ca cb g : Nat) (o : Array Keyed) (x y : Nat) : StateT SortSt Sem (ForInStep HiSt) := do
  modify fun st => setGal st g
  let some j ← gallopS false (← elem' b (y - 1)) a 0 x (x - 1) | pure (ForInStep.done (some (headA a b o x y), x, y, o, g, ca, cb))
  if x - j > 0 then
    if (j == 0) = true then pure (ForInStep.done (some (headA a b (o ++ (a.extract j x).reverse) j y), j, y, o ++ (a.extract j x).reverse, g, x - j, cb))
    else hiMid a b (x - j) cb g (o ++ (a.extract j x).reverse) j y
  else hiMid a b (x - j) cb g o x y
section
variable {M : Model} {A : Around} {E : Value → Shared → Prop} {s : Shared} {kd : SortKind} {S : Keyed → Prop} {rk : Keyed → Int} {a b : Array Keyed} {st : SortSt}
structure GoH (rk : Keyed → Int) (a b o : Array Keyed) (x y : Nat) : Prop where
  jn : JH rk a b o x y
  hx : 1 ≤ x
  hy : 2 ≤ y
def HiQ (rk : Keyed → Int) (a b : Array Keyed) (st : SortSt) (n : Nat) (r : ForInStep HiSt) (st' : SortSt) : Prop := Gl st st' ∧ match r with
  | .done c => (∃ r, c.1 = some r ∧ Good rk a b r) ∨ (c.1 = none ∧ GoH rk a b c.2.2.2.1 c.2.1 c.2.2.1 ∧ c.2.1 + c.2.2.1 ≤ n)
  | .yield c => c.1 = none ∧ GoH rk a b c.2.2.2.1 c.2.1 c.2.2.1 ∧ c.2.1 + c.2.2.1 ≤ n
theorem w_hiTail (m : Mg S rk a b) {st' : SortSt} {n ca cb g x y : Nat} {o : Array Keyed} (hg : Gl st st') (J : JH rk a b o x y) (hx : 1 ≤ x) (hy : 2 ≤ y)
    (hle : ∀ p, a[x - 1]? = some p → ∀ q ∈ b.toList.take y, rk q ≤ rk p) (hn : x + y ≤ n + 1) : wpS M A E s (hiTail a b ca cb g o x y) (HiQ rk a b st n) st' := by
  have hz := J.2.1
  obtain ⟨p, e, _, _⟩ := m.atA (i := x - 1) (by omega)
  have J' := jh_pushA J m.aa hx e (hle p e)
  unfold hiTail
  refine wpS_bind (w_elem e ?_)
  by_cases c1 : x - 1 = 0
  · rw [if_pos (by simpa using c1)]
    exact wpS_pure ⟨hg, .inl ⟨_, rfl, good_headA J' m.aa m.ab c1⟩⟩
  · rw [if_neg (by simpa using c1)]
    by_cases c2 : (decide (ca < 7) && decide (cb < 7)) = true
    · rw [if_pos c2]
      exact wpS_pure ⟨hg, .inr ⟨rfl, ⟨J', by show 1 ≤ x - 1; omega, hy⟩, by show x - 1 + y ≤ n; omega⟩⟩
    · rw [if_neg c2]
      exact wpS_pure ⟨hg, rfl, ⟨J', by show 1 ≤ x - 1; omega, hy⟩, by show x - 1 + y ≤ n; omega⟩
theorem w_hiMid (L : LtOk M A E s kd S rk) (hk : kindOf st = kd) (m : Mg S rk a b) {st' : SortSt} {n ca cb g x y : Nat} {o : Array Keyed} (hg : Gl st st') (J : JH rk a b o x y) (hx : 1 ≤ x) (hy : 2 ≤ y)
    (hle : ∀ p, b[y - 1]? = some p → ∀ q ∈ a.toList.take x, rk q ≤ rk p) (hn : x + y ≤ n + 1) : wpS M A E s (hiMid a b ca cb g o x y) (HiQ rk a b st n) st' := by
  have hz1 := J.2.1
  have hz2 := J.2.2
  obtain ⟨p, e, _, _⟩ := m.atB (i := y - 1) (by omega)
  have J' := jh_pushB J m.ab (by omega) e (hle p e)
  unfold hiMid
  refine wpS_bind (w_elem e ?_)
  by_cases c1 : y - 1 = 1
  · rw [if_pos (by simpa using c1)]
    exact wpS_pure ⟨hg, .inl ⟨_, rfl, good_headB m J' c1⟩⟩
  · rw [if_neg (by simpa using c1)]
    obtain ⟨q, eq, sq, mq⟩ := m.atA (i := x - 1) (by omega)
    refine wpS_bind (w_elem eq ?_)
    refine wpS_bind (w_gallop L (hg.kind.trans hk) sq (fun i hi => ?_) (up_asc m.ab _ _ (by omega)) (by omega) fun j j1 j2 j3 => ?_)
    · obtain ⟨p, e, sp, _⟩ := m.atB (i := 0 + i) (by omega)
      exact ⟨p, e, sp⟩
    dsimp only
    have after : ∀ p', a[x - 1]? = some p' → ∀ z ∈ b.toList.take j, rk z ≤ rk p' := fun p' ep z hz => by
      rw [eq] at ep
      cases ep
      obtain ⟨i, h1, ez⟩ := mem_head hz
      have := j2 i h1
      rw [Nat.zero_add, kx_list b i ez] at this
      simp [ahd] at this
      omega
    by_cases c2 : y - 1 - j > 0
    · rw [if_pos c2]
      have J2 := jh_cutB J' m.ab (j := j) (by omega) fun z hz w hw => by
        obtain ⟨i, h1, ez⟩ := mem_cut hz
        have := j3 (j + i) (by omega) (by omega)
        rw [Nat.zero_add, kx_list b _ ez] at this
        simp [ahd] at this
        have := takeA_le m hx eq w hw
        omega
      by_cases c3 : j = 1
      · rw [if_pos (by simpa using c3)]
        exact wpS_pure ⟨hg, .inl ⟨_, rfl, good_headB m J2 c3⟩⟩
      · rw [if_neg (by simpa using c3)]
        have c4 : ¬ j = 0 := fun c4 => by
          obtain ⟨z, ez, hz⟩ := m.bot
          have := j3 0 (by omega) (by omega)
          rw [Nat.zero_add, kx_of ez] at this
          simp [ahd] at this
          have := hz q mq
          omega
        rw [if_neg (by simpa using c4)]
        exact w_hiTail m hg J2 hx (by omega) after (by omega)
    · rw [if_neg c2]
      have ej : j = y - 1 := by omega
      subst ej
      exact w_hiTail m hg J' hx (by omega) after (by omega)
theorem w_hiTop (L : LtOk M A E s kd S rk) (hk : kindOf st = kd) (m : Mg S rk a b) {st' : SortSt} {n ca cb g x y : Nat} {o : Array Keyed} (hg : Gl st st') (G : GoH rk a b o x y) (hn : x + y ≤ n + 1) :
    wpS M A E s (hiTop a b ca cb g o x y) (HiQ rk a b st n) st' := by
  obtain ⟨J, hx, hy⟩ := G
  have hz1 := J.2.1
  have hz2 := J.2.2
  unfold hiTop
  refine wpS_bind (wpS_modify ?_)
  have hg' := hg.set g
  obtain ⟨q, eq, sq, mq⟩ := m.atB (i := y - 1) (by omega)
  refine wpS_bind (w_elem eq ?_)
  refine wpS_bind (w_gallop L (hg'.kind.trans hk) sq (fun i hi => ?_) (up_asc m.aa _ _ (by omega)) (by omega) fun j j1 j2 j3 => ?_)
  · obtain ⟨p, e, sp, _⟩ := m.atA (i := 0 + i) (by omega)
    exact ⟨p, e, sp⟩
  dsimp only
  have after : ∀ p', b[y - 1]? = some p' → ∀ z ∈ a.toList.take j, rk z ≤ rk p' := fun p' ep z hz => by
    rw [eq] at ep
    cases ep
    obtain ⟨i, h1, ez⟩ := mem_head hz
    have := j2 i h1
    rw [Nat.zero_add, kx_list a i ez] at this
    simp [ahd] at this
    omega
  by_cases c2 : x - j > 0
  · rw [if_pos c2]
    have J2 := jh_cutA J m.aa (j := j) (by omega) fun z hz w hw => by
      obtain ⟨i, h1, ez⟩ := mem_cut hz
      have := j3 (j + i) (by omega) (by omega)
      rw [Nat.zero_add, kx_list a _ ez] at this
      simp [ahd] at this
      have := takeB_le m (by omega) eq w hw
      omega
    by_cases c3 : j = 0
    · rw [if_pos (by simpa using c3)]
      exact wpS_pure ⟨hg', .inl ⟨_, rfl, good_headA J2 m.aa m.ab c3⟩⟩
    · rw [if_neg (by simpa using c3)]
      exact w_hiMid L hk m hg' J2 (by omega) hy after (by omega)
  · rw [if_neg c2]
    have ej : j = x := by omega
    subst ej
    exact w_hiMid L hk m hg' J hx hy after hn
theorem w_mergeHi (L : LtOk M A E s kd S rk) (hk : kindOf st = kd) (m : Mg S rk a b) {Q : Array Keyed → SortSt → Prop} (h : ∀ r st', Gl st st' → Good rk a b r → Q r st') : wpS M A E s (mergeHiS a b) Q st := by
  rw [mergeHiS_eq]
  refine wpS_bind (wpS_lift (wpAny_rule ⟨rfl, ?_⟩))
  have na := m.na
  have nb := m.nb
  obtain ⟨q, eq, sq, mq⟩ := m.atA (i := a.size - 1) (by omega)
  refine wpS_bind (w_elem eq ?_)
  have J1 : JH rk a b #[q] (a.size - 1) b.size := by
    obtain ⟨z, ez, hz⟩ := m.top
    rw [eq] at ez
    cases ez
    have J0 : JH rk a b #[] a.size b.size := ⟨by rw [Nat.sub_self, Nat.sub_self]; exact Jn.start, Nat.le_refl _, Nat.le_refl _⟩
    exact jh_pushA (o := #[]) J0 m.aa na eq fun w hw => Int.le_of_lt (hz w (List.mem_of_mem_take hw))
  by_cases c1 : a.size - 1 = 0
  · rw [if_pos (by simpa using c1)]
    exact wpS_pure (h _ _ (Gl.refl _) (good_headA J1 m.aa m.ab c1))
  · rw [if_neg (by simpa using c1)]
    by_cases c2 : b.size = 1
    · rw [if_pos (by simpa using c2)]
      exact wpS_pure (h _ _ (Gl.refl _) (good_headB m J1 c2))
    · rw [if_neg (by simpa using c2)]
      refine wpS_bind (wpS_get ?_)
      have G1 : GoH rk a b #[q] (a.size - 1) b.size := ⟨J1, by omega, by omega⟩
      refine wpS_bind (wpS_mono (wpS_forRange (I := fun i c st' => Gl st st' ∧ ∃ x y o g, c = (none, x, y, o, g) ∧ GoH rk a b o x y ∧ x + y + i + 1 ≤ a.size + b.size)
        (Q := fun c st' => Gl st st' ∧ ∃ r x y o g, c = (some r, x, y, o, g) ∧ Good rk a b r) ?turn ?last ⟨Gl.refl _, _, _, #[q], _, rfl, G1, by omega⟩) ?after)
      case after =>
        rintro c st' ⟨hg, r, x, y, o, g, rfl, hr⟩
        exact wpS_pure (h r st' hg hr)
      case last =>
        rintro c st' ⟨hg, x, y, o, g, rfl, G, hi⟩
        have := G.hx
        have := G.hy
        exfalso
        omega
      case turn =>
        rintro i c st' _ hi ⟨hg, x, y, o, g, rfl, G, hxy⟩
        dsimp only
        refine wpS_bind (wpS_mono (wpS_forRange (I := fun j c st2 => Gl st st2 ∧ ∃ x y o ca cb, c = (none, x, y, o, ca, cb) ∧ GoH rk a b o x y ∧ x + y + i + 1 + j ≤ a.size + b.size)
          (Q := fun c st2 => Gl st st2 ∧ ∃ r x y o ca cb, c = (r, x, y, o, ca, cb) ∧ match r with
            | some r => Good rk a b r
            | none => GoH rk a b o x y ∧ x + y + i + 2 ≤ a.size + b.size) ?iturn ?ilast ⟨hg, x, y, o, 0, 0, rfl, G, by omega⟩) ?iafter)
        case ilast =>
          rintro c st2 ⟨hg2, x, y, o, ca, cb, rfl, G, hj⟩
          have := G.hx
          have := G.hy
          exfalso
          omega
        case iturn =>
          rintro j c st2 _ hj ⟨hg2, x, y, o, ca, cb, rfl, G, hxy2⟩
          dsimp only
          have g1 := G.hx
          have g2 := G.hy
          have z1 := G.jn.2.1
          have z2 := G.jn.2.2
          obtain ⟨pb, eb, sb, mb⟩ := m.atB (i := y - 1) (by omega)
          obtain ⟨pa, ea, sa, ma⟩ := m.atA (i := x - 1) (by omega)
          refine wpS_bind (w_elem eb (wpS_bind (w_elem ea (wpS_bind (L pb pa st2 _ sb sa (hg2.kind.trans hk) ?_)))))
          by_cases hw : rk pb < rk pa
          · simp only [hw, decide_true, if_true]
            refine wpS_bind (w_elem ea ?_)
            have J2 := jh_pushA G.jn m.aa g1 ea fun z hz => Int.le_trans (takeB_le m (by omega) eb z hz) (Int.le_of_lt hw)
            by_cases c3 : x - 1 = 0
            · rw [if_pos (by simpa using c3)]
              exact wpS_pure ⟨hg2, _, _, _, _, _, _, rfl, good_headA J2 m.aa m.ab c3⟩
            · rw [if_neg (by simpa using c3)]
              have G2 : GoH rk a b (o.push pa) (x - 1) y := ⟨J2, by omega, g2⟩
              split
              · exact wpS_pure ⟨hg2, _, _, _, _, _, _, rfl, G2, by omega⟩
              · exact wpS_pure ⟨hg2, _, _, _, _, _, rfl, G2, by omega⟩
          · simp only [hw, decide_false, Bool.false_eq_true, if_false]
            refine wpS_bind (w_elem eb ?_)
            have J2 := jh_pushB G.jn m.ab (by omega) eb fun z hz => Int.le_trans (takeA_le m g1 ea z hz) (by omega)
            by_cases c3 : y - 1 = 1
            · rw [if_pos (by simpa using c3)]
              exact wpS_pure ⟨hg2, _, _, _, _, _, _, rfl, good_headB m J2 c3⟩
            · rw [if_neg (by simpa using c3)]
              have G2 : GoH rk a b (o.push pb) x (y - 1) := ⟨J2, g1, by omega⟩
              split
              · exact wpS_pure ⟨hg2, _, _, _, _, _, _, rfl, G2, by omega⟩
              · exact wpS_pure ⟨hg2, _, _, _, _, _, rfl, G2, by omega⟩
        case iafter =>
          rintro c st2 ⟨hg2, r, x2, y2, o2, ca, cb, rfl, hr⟩
          cases r with
          | some r => exact wpS_pure ⟨hg2, r, _, _, _, _, rfl, hr⟩
          | none =>
            obtain ⟨G2, hxy2⟩ := hr
            dsimp only
            refine wpS_bind (wpS_lift (wpAny_rule ⟨rfl, ?_⟩))
            refine wpS_bind (wpS_mono (wpS_forRange (I := fun j c st3 => Gl st st3 ∧ ∃ x y o g ca cb, c = (none, x, y, o, g, ca, cb) ∧ GoH rk a b o x y ∧ x + y + i + 2 + j ≤ a.size + b.size)
              (Q := fun c st3 => Gl st st3 ∧ ∃ r x y o g ca cb, c = (r, x, y, o, g, ca, cb) ∧ match r with
                | some r => Good rk a b r
                | none => GoH rk a b o x y ∧ x + y + i + 2 ≤ a.size + b.size) ?gturn ?glast ⟨hg2, x2, y2, o2, _, _, _, rfl, G2, by omega⟩) ?gafter)
            case glast =>
              rintro c st3 ⟨hg3, x, y, o, g, ca, cb, rfl, G, hj⟩
              have := G.hx
              have := G.hy
              exfalso
              omega
            case gturn =>
              rintro j c st3 _ hj ⟨hg3, x, y, o, g, ca, cb, rfl, G, hxy3⟩
              have go : ∀ g', wpS M A E s (hiTop a b ca cb g' o x y) (HiQ rk a b st (x + y - 1)) st3 := fun g' => w_hiTop L hk m hg3 G (by omega)
              have g1 := G.hx
              dsimp only
              by_cases hgt : g > 1
              case' pos =>
                rw [if_pos hgt]
                refine wpS_mono (go (g - 1)) ?_
              case' neg =>
                rw [if_neg hgt]
                refine wpS_mono (go g) ?_
              all_goals
                intro r st4 q
                obtain ⟨hg4, q⟩ := q
                cases r with
                | done c' =>
                  obtain ⟨r, x', y', o', g', ca', cb'⟩ := c'
                  rcases q with ⟨r', e, q⟩ | ⟨e, q, q'⟩
                  · simp only at e
                    subst e
                    exact ⟨hg4, _, _, _, _, _, _, _, rfl, q⟩
                  · simp only at e q q'
                    subst e
                    exact ⟨hg4, _, _, _, _, _, _, _, rfl, q, by omega⟩
                | yield c' =>
                  obtain ⟨r, x', y', o', g', ca', cb'⟩ := c'
                  obtain ⟨e, q, q'⟩ := q
                  simp only at e q q'
                  subst e
                  exact ⟨hg4, _, _, _, _, _, _, rfl, q, by omega⟩
            case gafter =>
              rintro c st3 ⟨hg3, r, x3, y3, o3, g3, ca3, cb3, rfl, hr⟩
              cases r with
              | some r => exact wpS_pure ⟨hg3, r, _, _, _, _, rfl, hr⟩
              | none =>
                obtain ⟨G3, hxy3⟩ := hr
                dsimp only
                exact wpS_bind (wpS_modify (wpS_pure ⟨hg3.set _, _, _, _, _, rfl, G3, by omega⟩))
end
end Tim
namespace Tim
open PySem PyProof.Rows
theorem wpS_set {M : Model} {A : Around} {E : Value → Shared → Prop} {s : Shared} {σ : Type} {v : σ} {Q : PUnit → σ → Prop} {st : σ} (h : Q ⟨⟩ v) : wpS M A E s (set v : StateT σ Sem PUnit) Q st := by
  unfold wpS
  rw [StateT.run_set]
  exact wpAny_pure ⟨rfl, h⟩
def wrt (base : Nat) (l : List (Keyed × Nat)) (xs : Array Keyed) : Array Keyed := l.foldl (fun a q => a.setIfInBounds (base + q.2) q.1) xs
theorem mergeAt_eq (i : Nat) : mergeAt' i = (do
  let c ← get
  let (some (sa, na, pw), some (sb, nb, _)) := ((pendingOf c)[i]?, (pendingOf c)[i + 1]?) | unsupported "internal:list.sort.pending"
  set (setPending c (((pendingOf c).setIfInBounds i (sa, na + nb, pw)).eraseIdxIfInBounds (i + 1)))
  let some k ← gallopS false (← elem' (arrOf c) sb) (arrOf c) sa na 0 | return false
  let (sa, na) := (sa + k, na - k)
  if na == 0 then return true
  let some nb ← gallopS true (← elem' (arrOf c) (sa + na - 1)) (arrOf c) sb nb (nb - 1) | return false
  if nb == 0 then return true
  let x := (arrOf c).extract sa sb
  let y := (arrOf c).extract sb (sb + nb)
  let r ← if na ≤ nb then mergeLoS x y else mergeHiS x y
  modify fun c => setArr c (wrt sa r.toList.zipIdx (arrOf c))
  return (failedOf (← get)).isNone) := rfl
theorem wrt_at (base : Nat) : ∀ (l : List Keyed) (k : Nat) (xs : Array Keyed), base + k + l.length ≤ xs.size → ∀ j, (wrt base (l.zipIdx k) xs)[j]? = if base + k ≤ j ∧ j < base + k + l.length then l[j - (base + k)]? else xs[j]?
  | [], k, xs, _, j => by
    rw [if_neg (by simp)]
    rfl
  | p :: r, k, xs, h, j => by
    have h' : base + k + (r.length + 1) ≤ xs.size := h
    have ih := wrt_at base r (k + 1) (xs.setIfInBounds (base + k) p) (by rw [Array.size_setIfInBounds]; omega) j
    rw [List.zipIdx_cons]
    show (wrt base (r.zipIdx (k + 1)) (xs.setIfInBounds (base + k) p))[j]? = _
    rw [ih, List.length_cons]
    by_cases c1 : base + (k + 1) ≤ j ∧ j < base + (k + 1) + r.length
    · rw [if_pos c1, if_pos (by omega), show j - (base + k) = j - (base + (k + 1)) + 1 by omega, List.getElem?_cons_succ]
    · rw [if_neg c1, Array.getElem?_setIfInBounds]
      by_cases c2 : base + k = j
      · rw [if_pos c2, if_pos (by omega), if_pos (by omega), show j - (base + k) = 0 by omega]
        rfl
      · rw [if_neg c2, if_neg (by omega)]
theorem wrt_list (base : Nat) (l : List Keyed) (xs : Array Keyed) (h : base + l.length ≤ xs.size) : (wrt base l.zipIdx xs).toList = xs.toList.take base ++ l ++ xs.toList.drop (base + l.length) := by
  apply List.ext_getElem?
  intro j
  have := wrt_at base l 0 xs (by omega) j
  rw [Array.getElem?_toList]
  rw [this]
  have e1 : (xs.toList.take base).length = base := by rw [List.length_take, Array.length_toList]; omega
  by_cases c1 : j < base
  · rw [if_neg (by omega), List.append_assoc, List.getElem?_append_left (by omega), List.getElem?_take_of_lt c1, Array.getElem?_toList]
  · rw [List.append_assoc, List.getElem?_append_right (by omega), e1]
    by_cases c2 : j < base + l.length
    · rw [if_pos (by omega), List.getElem?_append_left (by omega)]
      rfl
    · rw [if_neg (by omega), List.getElem?_append_right (by omega), List.getElem?_drop, ← Array.getElem?_toList]
      congr 1
      omega
def Runs (rk : Keyed → Int) (xs : Array Keyed) : Nat → List (Nat × Nat × Nat) → Nat → Prop
  | u, [], v => u = v
  | u, r :: l, v => r.1 = u ∧ 1 ≤ r.2.1 ∧ Up rk xs u (u + r.2.1) ∧ Runs rk xs (u + r.2.1) l v
section
variable {rk : Keyed → Int} {xs ys : Array Keyed}
theorem Runs.split : ∀ {l1 l2 : List (Nat × Nat × Nat)} {u v : Nat}, Runs rk xs u (l1 ++ l2) v ↔ ∃ w, Runs rk xs u l1 w ∧ Runs rk xs w l2 v
  | [], l2, u, v => ⟨fun h => ⟨u, rfl, h⟩, fun ⟨w, e, h⟩ => by cases e; exact h⟩
  | r :: l1, l2, u, v => by
    constructor
    · rintro ⟨a, b, c, d⟩
      obtain ⟨w, h1, h2⟩ := Runs.split.mp d
      exact ⟨w, ⟨a, b, c, h1⟩, h2⟩
    · rintro ⟨w, ⟨a, b, c, d⟩, h2⟩
      exact ⟨a, b, c, Runs.split.mpr ⟨w, d, h2⟩⟩
theorem Runs.le : ∀ {l : List (Nat × Nat × Nat)} {u v : Nat}, Runs rk xs u l v → u + l.length ≤ v
  | [], u, v, h => by cases h; simp
  | r :: l, u, v, ⟨_, b, _, d⟩ => by
    have := Runs.le d
    rw [List.length_cons]
    omega
theorem Up.same {lo hi : Nat} (h : Up rk xs lo hi) (e : ∀ k, lo ≤ k → k < hi → ys[k]? = xs[k]?) : Up rk ys lo hi := fun i j a b c => by
  rw [kx_same (e i a (by omega)), kx_same (e j (by omega) c)]
  exact h i j a b c
theorem Runs.same : ∀ {l : List (Nat × Nat × Nat)} {u v : Nat}, Runs rk xs u l v → (∀ k, u ≤ k → k < v → ys[k]? = xs[k]?) → Runs rk ys u l v
  | [], u, v, h, _ => h
  | r :: l, u, v, ⟨a, b, c, d⟩, e => by
    have := Runs.le d
    exact ⟨a, b, c.same fun k h1 h2 => e k h1 (by omega), d.same fun k h1 h2 => e k (by omega) h2⟩
theorem Runs.pow : ∀ {l l' : List (Nat × Nat × Nat)} {u v : Nat}, Runs rk xs u l v → l'.map (fun r => (r.1, r.2.1)) = l.map (fun r => (r.1, r.2.1)) → Runs rk xs u l' v
  | [], l', u, v, h, e => by
    have : l' = [] := by simpa using e
    subst this
    exact h
  | r :: l, l', u, v, ⟨a, b, c, d⟩, e => by
    cases l' with
    | nil => simp at e
    | cons r' l' =>
      simp only [List.map_cons, List.cons.injEq, Prod.mk.injEq] at e
      obtain ⟨⟨e1, e2⟩, e3⟩ := e
      exact ⟨e1.trans a, by omega, by rw [e2]; exact c, by rw [e2]; exact d.pow e3⟩
end
section
variable {M : Model} {A : Around} {E : Value → Shared → Prop} {s : Shared} {kd : SortKind} {S : Keyed → Prop} {rk : Keyed → Int} {n : Nat}
theorem asc_cut {xs : Array Keyed} {i j : Nat} (hj : j ≤ xs.size) (h : Up rk xs i j) : Asc rk (xs.extract i j).toList := by
  unfold Asc
  rw [List.pairwise_iff_getElem]
  intro p q hp hq hpq
  have hl : (xs.extract i j).toList.length = j - i := by rw [Array.length_toList, Array.size_extract]; omega
  have e : ∀ p (hp : p < (xs.extract i j).toList.length), rk (xs.extract i j).toList[p] = kx rk xs (i + p) := fun p hp => by
    refine (kx_of ?_).symm
    have h1 : (xs.extract i j)[p]? = some (xs.extract i j).toList[p] := by rw [← Array.getElem?_toList, List.getElem?_eq_getElem]
    rw [← h1, Array.getElem?_extract, if_pos (by omega)]
  rw [e p hp, e q hq]
  exact h _ _ (by omega) (by omega) (by omega)
theorem mem_ext {xs : Array Keyed} {i j : Nat} (hj : j ≤ xs.size) {p : Keyed} (h : p ∈ (xs.extract i j).toList) : ∃ k, i ≤ k ∧ k < j ∧ xs[k]? = some p := by
  obtain ⟨q, hq, e⟩ := List.mem_iff_getElem.mp h
  have hl : (xs.extract i j).toList.length = j - i := by rw [Array.length_toList, Array.size_extract]; omega
  refine ⟨i + q, by omega, by omega, ?_⟩
  have h1 : (xs.extract i j)[q]? = some p := by rw [← Array.getElem?_toList, List.getElem?_eq_getElem hq, e]
  rw [← h1, Array.getElem?_extract, if_pos (by omega)]
theorem cut_at {xs : Array Keyed} {i j k : Nat} (h : i + k < j) (hj : j ≤ xs.size) : (xs.extract i j)[k]? = xs[i + k]? := by
  rw [Array.getElem?_extract, if_pos (by omega)]
theorem Mv.wrote {st : SortSt} {a m b : Nat} {r : Array Keyed} (h1 : a ≤ m) (h2 : m ≤ b) (hb : b ≤ (arrOf st).size) (hr : r.toList.Perm (((arrOf st).extract a m).toList ++ ((arrOf st).extract m b).toList)) :
    Mv a b st (setArr st (wrt a r.toList.zipIdx (arrOf st))) ∧ (∀ j, a ≤ j → j < b → ∃ p, (wrt a r.toList.zipIdx (arrOf st))[j]? = some p ∧ p ∈ r.toList ∧ r.toList[j - a]? = some p) := by
  have hl : r.toList.length = b - a := by
    rw [hr.length_eq, List.length_append, Array.length_toList, Array.length_toList, Array.size_extract, Array.size_extract]
    omega
  have hw := wrt_list a r.toList (arrOf st) (by omega)
  have hat := wrt_at a r.toList 0 (arrOf st) (by omega)
  refine ⟨⟨?_, fun k hk => ?_, rfl, rfl, rfl⟩, fun j ha hb' => ?_⟩
  · rw [Array.perm_iff_toList_perm]
    show (wrt a r.toList.zipIdx (arrOf st)).toList.Perm (arrOf st).toList
    rw [hw, hl, show a + (b - a) = b by omega]
    have e : (arrOf st).toList = (arrOf st).toList.take a ++ (((arrOf st).extract a m).toList ++ ((arrOf st).extract m b).toList) ++ (arrOf st).toList.drop b := by
      rw [Array.toList_extract, Array.toList_extract, List.extract_eq_take_drop, List.extract_eq_take_drop]
      have e1 : (arrOf st).toList.drop a = ((arrOf st).toList.drop a).take (m - a) ++ (arrOf st).toList.drop m := by
        have := drop_split (arrOf st).toList a (m - a)
        rwa [show a + (m - a) = m by omega] at this
      have e2 : (arrOf st).toList.drop m = ((arrOf st).toList.drop m).take (b - m) ++ (arrOf st).toList.drop b := by
        have := drop_split (arrOf st).toList m (b - m)
        rwa [show m + (b - m) = b by omega] at this
      rw [List.append_assoc, List.append_assoc, ← e2, ← e1, List.take_append_drop]
    refine List.Perm.trans ?_ (List.Perm.of_eq e.symm)
    exact (hr.append_left _).append_right _
  · show (wrt a r.toList.zipIdx (arrOf st))[k]? = _
    rw [hat k, if_neg (by omega)]
  · have hlt : j - a < r.toList.length := by omega
    refine ⟨r.toList[j - a], ?_, by simp, List.getElem?_eq_getElem hlt⟩
    rw [hat j, if_pos (by omega), Nat.add_zero, List.getElem?_eq_getElem hlt]
structure Merged (rk : Keyed → Int) (lo hi : Nat) (p : Array (Nat × Nat × Nat)) (st st' : SortSt) : Prop where
  perm : (arrOf st').Perm (arrOf st)
  out : ∀ k, k < lo ∨ hi ≤ k → (arrOf st')[k]? = (arrOf st)[k]?
  kind : kindOf st' = kindOf st
  failed : failedOf st' = failedOf st
  pend : pendingOf st' = p
  up : Up rk (arrOf st') lo hi
theorem w_mergeAt (L : LtOk M A E s kd S rk) {st : SortSt} (B : Sane kd S n st) {i sa na pw nb p2 : Nat} (e1 : (pendingOf st)[i]? = some (sa, na, pw)) (e2 : (pendingOf st)[i + 1]? = some (sa + na, nb, p2)) (ha : 1 ≤ na) (hb : 1 ≤ nb) (hn : sa + na + nb ≤ n)
    (u1 : Up rk (arrOf st) sa (sa + na)) (u2 : Up rk (arrOf st) (sa + na) (sa + na + nb)) {Q : Bool → SortSt → Prop}
    (h : ∀ st', Merged rk sa (sa + na + nb) (((pendingOf st).setIfInBounds i (sa, na + nb, pw)).eraseIdxIfInBounds (i + 1)) st st' → Q true st') : wpS M A E s (mergeAt' i) Q st := by
  rw [mergeAt_eq]
  refine wpS_bind (wpS_get ?_)
  rw [e1, e2]
  dsimp only
  refine wpS_bind (wpS_set ?_)
  have hall : ∀ j, j < n → ∃ p, (arrOf st)[j]? = some p ∧ S p := fun j hj => by
    obtain ⟨p, a, b, _⟩ := B.at rk hj
    exact ⟨p, a, b⟩
  have hz := B.size
  obtain ⟨q, eq, sq⟩ := hall (sa + na) (by omega)
  have kq : kx rk (arrOf st) (sa + na) = rk q := kx_of eq
  refine wpS_bind (w_elem eq ?_)
  refine wpS_bind (w_gallop L B.kind sq (fun j hj => hall (sa + j) (by omega)) u1 (by omega) fun k k1 k2 k3 => ?_)
  dsimp only
  have low : ∀ j, sa ≤ j → j < sa + k → kx rk (arrOf st) j ≤ kx rk (arrOf st) (sa + na) := fun j a b => by
    have := k2 (j - sa) (by omega)
    rw [show sa + (j - sa) = j by omega] at this
    simp [ahd] at this
    rw [kq]
    exact this
  have high : ∀ j, sa + k ≤ j → j < sa + na → kx rk (arrOf st) (sa + na) < kx rk (arrOf st) j := fun j a b => by
    have := k3 (j - sa) (by omega) (by omega)
    rw [show sa + (j - sa) = j by omega] at this
    simp [ahd] at this
    rw [kq]
    omega
  have joined : kx rk (arrOf st) (sa + na - 1) ≤ kx rk (arrOf st) (sa + na) → Up rk (arrOf st) sa (sa + na + nb) := fun hle i j a b c => by
    by_cases c1 : j < sa + na
    · exact u1 i j a b c1
    · by_cases c2 : sa + na ≤ i
      · exact u2 i j c2 b c
      · have h1 := u1 i (sa + na - 1) a (by omega) (by omega)
        have h2 := u2 (sa + na) j (Nat.le_refl _) (by omega) c
        omega
  by_cases c0 : na - k = 0
  · rw [if_pos (by simpa using c0)]
    exact wpS_pure (h _ ⟨Array.Perm.refl _, fun _ _ => rfl, rfl, rfl, rfl, joined (low _ (by omega) (by omega))⟩)
  · rw [if_neg (by simpa using c0)]
    have el : sa + k + (na - k) - 1 = sa + na - 1 := by omega
    rw [el]
    obtain ⟨z, ez, sz⟩ := hall (sa + na - 1) (by omega)
    have kz : kx rk (arrOf st) (sa + na - 1) = rk z := kx_of ez
    refine wpS_bind (w_elem ez ?_)
    refine wpS_bind (w_gallop L B.kind sz (fun j hj => hall (sa + na + j) (by omega)) u2 (by omega) fun k' k1' k2' k3' => ?_)
    dsimp only
    have low' : ∀ j, sa + na ≤ j → j < sa + na + k' → kx rk (arrOf st) j < kx rk (arrOf st) (sa + na - 1) := fun j a b => by
      have := k2' (j - (sa + na)) (by omega)
      rw [show sa + na + (j - (sa + na)) = j by omega] at this
      simp [ahd] at this
      rw [kz]
      exact this
    have high' : ∀ j, sa + na + k' ≤ j → j < sa + na + nb → kx rk (arrOf st) (sa + na - 1) ≤ kx rk (arrOf st) j := fun j a b => by
      have := k3' (j - (sa + na)) (by omega) (by omega)
      rw [show sa + na + (j - (sa + na)) = j by omega] at this
      simp [ahd] at this
      rw [kz]
      omega
    by_cases c1 : k' = 0
    · rw [if_pos (by simpa using c1)]
      exact wpS_pure (h _ ⟨Array.Perm.refl _, fun _ _ => rfl, rfl, rfl, rfl, joined (high' _ (by omega) (by omega))⟩)
    · rw [if_neg (by simpa using c1)]
      have m : Mg S rk ((arrOf st).extract (sa + k) (sa + na)) ((arrOf st).extract (sa + na) (sa + na + k')) := by
        refine ⟨fun p hp => ?_, fun p hp => ?_, asc_cut (by omega) fun i j a b c => u1 i j (by omega) b c, asc_cut (by omega) fun i j a b c => u2 i j a b (by omega), by rw [Array.size_extract]; omega, by rw [Array.size_extract]; omega, ⟨z, ?_, fun p hp => ?_⟩, ⟨q, ?_, fun p hp => ?_⟩⟩
        · obtain ⟨j, h1, h2, e⟩ := mem_ext (by omega) hp
          obtain ⟨p', e', sp⟩ := hall j (by omega)
          rw [e] at e'
          cases e'
          exact sp
        · obtain ⟨j, h1, h2, e⟩ := mem_ext (by omega) hp
          obtain ⟨p', e', sp⟩ := hall j (by omega)
          rw [e] at e'
          cases e'
          exact sp
        · rw [Array.size_extract, cut_at (by omega) (by omega), ← ez]
          congr 1
          omega
        · obtain ⟨j, h1, h2, e⟩ := mem_ext (by omega) hp
          have := low' j h1 h2
          rwa [kz, kx_of e] at this
        · rw [cut_at (by omega) (by omega), ← eq]
          rfl
        · obtain ⟨j, h1, h2, e⟩ := mem_ext (by omega) hp
          have := high j h1 h2
          rwa [kq, kx_of e] at this
      have fin : ∀ (r : Array Keyed) (st' : SortSt), Gl (setPending st (((pendingOf st).setIfInBounds i (sa, na + nb, pw)).eraseIdxIfInBounds (i + 1))) st' → Good rk ((arrOf st).extract (sa + k) (sa + na)) ((arrOf st).extract (sa + na) (sa + na + k')) r →
          wpS M A E s ((modify fun c => setArr c (wrt (sa + k) r.toList.zipIdx (arrOf c)) : StateT SortSt Sem PUnit) >>= fun _ => get >>= fun c => pure (failedOf c).isNone) Q st' := by
        intro r st' hg hr
        have ha' : arrOf st' = arrOf st := hg.arr
        refine wpS_bind (wpS_modify (wpS_bind (wpS_get (wpS_pure ?_))))
        have hf : failedOf st' = none := hg.failed.trans B.failed
        show Q (failedOf st').isNone _
        rw [hf]
        have hw := Mv.wrote (st := st) (a := sa + k) (m := sa + na) (b := sa + na + k') (r := r) (by omega) (by omega) (by omega) hr.1
        obtain ⟨v, at'⟩ := hw
        have ascr := List.pairwise_iff_getElem.mp hr.2
        have mid : ∀ j, sa + k ≤ j → j < sa + na + k' → kx rk (arrOf st) (sa + na) ≤ kx rk (wrt (sa + k) r.toList.zipIdx (arrOf st)) j ∧ kx rk (wrt (sa + k) r.toList.zipIdx (arrOf st)) j ≤ kx rk (arrOf st) (sa + na - 1) := fun j a b => by
          obtain ⟨p, e, hp, _⟩ := at' j a b
          rw [kx_of e]
          rcases List.mem_append.mp (hr.1.mem_iff.mp hp) with hp | hp
          · obtain ⟨j', h1, h2, e'⟩ := mem_ext (by omega) hp
            rw [← kx_of (rk := rk) e']
            exact ⟨Int.le_of_lt (high j' h1 h2), u1 j' (sa + na - 1) (by omega) (by omega) (by omega)⟩
          · obtain ⟨j', h1, h2, e'⟩ := mem_ext (by omega) hp
            rw [← kx_of (rk := rk) e']
            exact ⟨u2 _ j' (Nat.le_refl _) h1 (by omega), Int.le_of_lt (low' j' h1 h2)⟩
        have out : ∀ j, j < sa + k ∨ sa + na + k' ≤ j → kx rk (wrt (sa + k) r.toList.zipIdx (arrOf st)) j = kx rk (arrOf st) j := fun j hj => kx_same (v.out j hj)
        rw [show (setArr st' (wrt (sa + k) r.toList.zipIdx (arrOf st'))) = setArr st' (wrt (sa + k) r.toList.zipIdx (arrOf st)) by rw [ha']]
        refine h _ ⟨v.perm, fun j hj => v.out j (by omega), hg.kind, hg.failed, hg.pend, fun i j a b c => ?_⟩
        show kx rk (wrt (sa + k) r.toList.zipIdx (arrOf st)) i ≤ kx rk (wrt (sa + k) r.toList.zipIdx (arrOf st)) j
        by_cases i1 : i < sa + k
        · rw [out i (.inl i1)]
          have li := low i a i1
          by_cases j1 : j < sa + k
          · rw [out j (.inl j1)]
            exact u1 i j a b (by omega)
          · by_cases j2 : j < sa + na + k'
            · have := (mid j (by omega) j2).1
              omega
            · rw [out j (.inr (by omega))]
              have := u2 (sa + na) j (Nat.le_refl _) (by omega) c
              omega
        · by_cases i2 : i < sa + na + k'
          · by_cases j2 : j < sa + na + k'
            · obtain ⟨p, ep, _, gp⟩ := at' i (by omega) i2
              obtain ⟨p', ep', _, gp'⟩ := at' j (by omega) j2
              rw [kx_of ep, kx_of ep']
              obtain ⟨l1, x1⟩ := List.getElem?_eq_some_iff.mp gp
              obtain ⟨l2, x2⟩ := List.getElem?_eq_some_iff.mp gp'
              rcases Nat.lt_or_ge i j with hij | hij
              · have := ascr (i - (sa + k)) (j - (sa + k)) l1 l2 (by omega)
                rwa [x1, x2] at this
              · have eij : i = j := by omega
                subst eij
                rw [gp] at gp'
                cases gp'
                exact Int.le_refl _
            · rw [out j (.inr (by omega))]
              have h1 := (mid i (by omega) i2).2
              have h2 := high' j (by omega) c
              omega
          · rw [out i (.inr (by omega)), out j (.inr (by omega))]
            exact u2 i j (by omega) b c
      by_cases c2 : na - k ≤ k'
      · rw [if_pos c2]
        exact wpS_bind (w_mergeLo (st := setPending st (((pendingOf st).setIfInBounds i (sa, na + nb, pw)).eraseIdxIfInBounds (i + 1))) L B.kind m fun r st' hg hr => fin r st' hg hr)
      · rw [if_neg c2]
        exact wpS_bind (w_mergeHi (st := setPending st (((pendingOf st).setIfInBounds i (sa, na + nb, pw)).eraseIdxIfInBounds (i + 1))) L B.kind m fun r st' hg hr => fin r st' hg hr)
end
end Tim
namespace Tim
open PySem PyProof.Rows
theorem pend_list {p : Array (Nat × Nat × Nat)} {l1 l2 : List (Nat × Nat × Nat)} {r1 r2 r : Nat × Nat × Nat} {i : Nat} (h : p.toList = l1 ++ r1 :: r2 :: l2) (hi : l1.length = i) :
    ((p.setIfInBounds i r).eraseIdxIfInBounds (i + 1)).toList = l1 ++ r :: l2 := by
  have hs : i + 1 < (p.setIfInBounds i r).size := by
    rw [Array.size_setIfInBounds, ← Array.length_toList, h]
    simp
    omega
  rw [Array.eraseIdxIfInBounds, dif_pos hs, Array.toList_eraseIdx, Array.toList_setIfInBounds, h, ← hi, List.set_append_right _ _ (Nat.le_refl _), Nat.sub_self, List.set_cons_zero,
    List.eraseIdx_append_of_length_le (by omega)]
  congr 1
  rw [show l1.length + 1 - l1.length = 1 by omega]
  rfl
theorem list_two {α : Type} {l : List α} {i : Nat} (h : i + 1 < l.length) : ∃ l1 r1 r2 l2, l = l1 ++ r1 :: r2 :: l2 ∧ l1.length = i := by
  refine ⟨l.take i, l[i], l[i + 1], l.drop (i + 2), ?_, by rw [List.length_take]; omega⟩
  rw [← List.drop_eq_getElem_cons h, ← List.drop_eq_getElem_cons (by omega), List.take_append_drop]
section
variable {M : Model} {A : Around} {E : Value → Shared → Prop} {s : Shared} {kd : SortKind} {S : Keyed → Prop} {rk : Keyed → Int} {n : Nat}
structure Sr (rk : Keyed → Int) (kd : SortKind) (S : Keyed → Prop) (n : Nat) (st : SortSt) (lo : Nat) (st' : SortSt) : Prop where
  perm : (arrOf st').Perm (arrOf st)
  sane : Sane kd S n st'
  runs : Runs rk (arrOf st') 0 (pendingOf st').toList lo
theorem Sr.merge {st st' : SortSt} {lo i : Nat} (h : Sr rk kd S n st lo st') (hi : i + 1 < (pendingOf st').size) :
    ∃ sa na pw nb p2, (pendingOf st')[i]? = some (sa, na, pw) ∧ (pendingOf st')[i + 1]? = some (sa + na, nb, p2) ∧ 1 ≤ na ∧ 1 ≤ nb ∧ sa + na + nb ≤ lo ∧ Up rk (arrOf st') sa (sa + na) ∧ Up rk (arrOf st') (sa + na) (sa + na + nb) ∧
      ∀ st4, Merged rk sa (sa + na + nb) (((pendingOf st').setIfInBounds i (sa, na + nb, pw)).eraseIdxIfInBounds (i + 1)) st' st4 →
        Sr rk kd S n st lo st4 ∧ (pendingOf st4).size + 1 = (pendingOf st').size ∧ ∀ k, lo ≤ k → (arrOf st4)[k]? = (arrOf st')[k]? := by
  obtain ⟨l1, ⟨a1, n1, q1⟩, ⟨a2, n2, q2⟩, l2, e, el⟩ := list_two (l := (pendingOf st').toList) (i := i) (by rw [Array.length_toList]; exact hi)
  have R := h.runs
  rw [e] at R
  obtain ⟨w, R1, R2⟩ := Runs.split.mp R
  obtain ⟨x1, x2, x3, x4, x5, x6, x7⟩ := R2
  simp only at x1 x2 x3 x4 x5 x6 x7
  subst x1 x4
  have le := Runs.le x7
  have g1 : (pendingOf st')[i]? = some (a1, n1, q1) := by
    rw [← Array.getElem?_toList, e, List.getElem?_append_right (by omega), ← el, Nat.sub_self]
    rfl
  have g2 : (pendingOf st')[i + 1]? = some (a1 + n1, n2, q2) := by
    rw [← Array.getElem?_toList, e, List.getElem?_append_right (by omega), show i + 1 - l1.length = 1 by omega]
    rfl
  refine ⟨a1, n1, q1, n2, q2, g1, g2, x2, x5, by omega, x3, x6, fun st4 m => ⟨⟨m.perm.trans h.perm, ?_, ?_⟩, ?_, fun k hk => m.out k (by omega)⟩⟩
  · exact ⟨m.perm.size_eq.trans h.sane.size, fun p hp => h.sane.all p ((Array.perm_iff_toList_perm.mp m.perm).mem_iff.mp hp), m.kind.trans h.sane.kind, m.failed.trans h.sane.failed⟩
  · rw [m.pend, pend_list e el]
    refine Runs.split.mpr ⟨a1, R1.same fun k _ hk => m.out k (.inl hk), rfl, by show 1 ≤ n1 + n2; omega, ?_, ?_⟩
    · show Up rk (arrOf st4) a1 (a1 + (n1 + n2))
      rw [← Nat.add_assoc]
      exact m.up
    · show Runs rk (arrOf st4) (a1 + (n1 + n2)) l2 lo
      rw [← Nat.add_assoc]
      exact x7.same fun k hk _ => m.out k (.inr hk)
  · rw [m.pend, ← Array.length_toList, pend_list e el, ← Array.length_toList, e]
    simp
    omega
theorem Sr.mv {st st' st2 : SortSt} {lo hi : Nat} (h : Sr rk kd S n st lo st') (v : Mv lo hi st' st2) : Sr rk kd S n st lo st2 :=
  ⟨v.perm.trans h.perm, v.sane h.sane, by rw [v.pend]; exact h.runs.same fun k _ hk => v.out k (.inl hk)⟩
theorem Sr.setP {st st' : SortSt} {lo hi : Nat} {p : Array (Nat × Nat × Nat)} (h : Sr rk kd S n st lo st') (r : Runs rk (arrOf st') 0 p.toList hi) : Sr rk kd S n st hi (setPending st' p) :=
  ⟨h.perm, ⟨h.sane.size, h.sane.all, h.sane.kind, h.sane.failed⟩, r⟩
theorem mod_last (p : Array (Nat × Nat × Nat)) (pw : Nat) : (p.modify (p.size - 1) fun (x : Nat × Nat × Nat) => (x.1, x.2.1, pw)).toList.map (fun r => (r.1, r.2.1)) = p.toList.map (fun r => (r.1, r.2.1)) := by
  apply List.ext_getElem?
  intro j
  rw [List.getElem?_map, List.getElem?_map, Array.getElem?_toList, Array.getElem?_toList, Array.getElem?_modify]
  split
  · cases p[j]? <;> rfl
  · rfl
theorem w_sortRuns (L : LtOk M A E s kd S rk) {st : SortSt} (B : Sane kd S n st) (h2 : 2 ≤ n) (hp : pendingOf st = #[]) {Q : Unit → SortSt → Prop}
    (h : ∀ st', (arrOf st').Perm (arrOf st) → failedOf st' = none → Up rk (arrOf st') 0 n → Q () st') : wpS M A E s sortRuns' Q st := by
  rw [sortRuns'_eq]
  refine wpS_bind (wpS_get ?_)
  dsimp only
  simp only [B.size]
  have start : Sr rk kd S n st 0 st := ⟨Array.Perm.refl _, B, by rw [hp]; rfl⟩
  refine wpS_bind (wpS_mono (wpS_forRange (I := fun x c st' => ∃ lo, c = (none, lo) ∧ Sr rk kd S n st lo st' ∧ lo ≤ n ∧ min x n ≤ lo)
    (Q := fun c st' => c = (none, n) ∧ Sr rk kd S n st n st') ?turn ?last ⟨0, rfl, start, by omega, by omega⟩) ?after)
  case last =>
    rintro c st' ⟨lo, rfl, R, h1, h3⟩
    have e : lo = n := by omega
    subst e
    exact ⟨rfl, R⟩
  case turn =>
    rintro x c st' _ hx ⟨lo, rfl, R, hlo, hxl⟩
    dsimp only
    by_cases hge : lo ≥ n
    · rw [if_pos hge]
      have e : lo = n := by omega
      subst e
      exact wpS_pure ⟨rfl, R⟩
    rw [if_neg hge]
    refine wpS_bind (w_countRun L R.sane (by omega) (by omega) fun k st2 v2 k1 k2 u2 => ?_)
    have R2 := R.mv v2
    dsimp only
    by_cases hlt : k < minRun' n n 0
    case' pos =>
      rw [if_pos hlt]
      refine wpS_bind (wpS_lift (wpAny_rule ⟨rfl, ?_⟩))
      refine wpS_bind (w_binarySort L R2.sane (by omega) (by omega) u2 fun st3 v3 u3 => ?_)
      have R3 := R2.mv v3
      simp only [Bool.not_true, Bool.false_eq_true, if_false]
      have m1 : 1 ≤ min (n - lo) (minRun' n n 0) := by omega
      have m2 : min (n - lo) (minRun' n n 0) ≤ n - lo := by omega
      clear hlt v3
      generalize min (n - lo) (minRun' n n 0) = m at *
    case' neg =>
      rw [if_neg hlt]
      have R3 := R2
      have u3 := u2
      have m1 := k1
      have m2 := k2
      clear hlt
      generalize st2 = st3 at *
      generalize k = m at *
    all_goals
      refine wpS_bind (wpS_get ?_)
      have fin : ∀ (st5 : SortSt) (p : Array (Nat × Nat × Nat)), Sr rk kd S n st lo st5 → Up rk (arrOf st5) lo (lo + m) → Runs rk (arrOf st5) 0 p.toList lo →
          Sr rk kd S n st (lo + m) (setPending (setPending st5 p) ((pendingOf (setPending st5 p)).push (lo, m, 0))) := fun st5 p R5 u5 rp => by
        refine (R5.setP rp).setP ?_
        show Runs rk (arrOf st5) 0 (p.push (lo, m, 0)).toList (lo + m)
        rw [Array.toList_push]
        exact Runs.split.mpr ⟨lo, rp, rfl, m1, u5, rfl⟩
      cases hb : (pendingOf st3).back? with
      | none =>
        dsimp only
        exact wpS_bind (wpS_modify (wpS_pure ⟨lo + m, rfl, fin st3 (pendingOf st3) R3 u3 R3.runs, by omega, by omega⟩))
      | some q =>
        obtain ⟨s1, n1, q1⟩ := q
        dsimp only
        refine wpS_bind (wpS_mono (wpS_forRange (I := fun _ c st4 => c = (none, ()) ∧ Sr rk kd S n st lo st4 ∧ Up rk (arrOf st4) lo (lo + m))
          (Q := fun c st4 => c = (none, ()) ∧ Sr rk kd S n st lo st4 ∧ Up rk (arrOf st4) lo (lo + m)) ?mturn (fun _ _ z => z) ⟨rfl, R3, u3⟩) ?mafter)
        case mturn =>
          rintro j c st4 _ hj ⟨rfl, R4, u4⟩
          refine wpS_bind (wpS_get ?_)
          by_cases c1 : (pendingOf st4).size > 1
          · obtain ⟨sa, na, pw, nb, p2, g1, g2, a1, a2, a3, a4, a5, a6⟩ := R4.merge (i := (pendingOf st4).size - 2) (by omega)
            rw [if_pos c1, g1]
            dsimp only
            split
            · exact wpS_pure ⟨rfl, R4, u4⟩
            · refine wpS_bind (w_mergeAt L R4.sane g1 g2 a1 a2 (by omega) a4 a5 fun st5 mm => ?_)
              obtain ⟨R5, _, o5⟩ := a6 st5 mm
              simp only [Bool.not_true, Bool.false_eq_true, if_false]
              exact wpS_pure ⟨rfl, R5, u4.same fun k hk _ => o5 k hk⟩
          · rw [if_neg c1]
            exact wpS_pure ⟨rfl, R4, u4⟩
        case mafter =>
          rintro c st4 ⟨rfl, R4, u4⟩
          dsimp only
          refine wpS_bind (wpS_modify (wpS_bind (wpS_modify (wpS_pure ⟨lo + m, rfl, ?_, by omega, by omega⟩))))
          exact fin st4 _ R4 u4 (R4.runs.pow (mod_last _ _))
  case after =>
    rintro c st' ⟨rfl, R⟩
    dsimp only
    refine wpS_bind (wpS_mono (wpS_forRange (I := fun x c st4 => c = (none, ()) ∧ Sr rk kd S n st n st4 ∧ (pendingOf st4).size ≤ max 1 (n - x))
      (Q := fun c st4 => c = (none, ()) ∧ Sr rk kd S n st n st4 ∧ (pendingOf st4).size ≤ 1) ?fturn ?flast ⟨rfl, R, ?ffirst⟩) ?fafter)
    case ffirst =>
      have := Runs.le R.runs
      rw [Array.length_toList] at this
      omega
    case flast =>
      rintro c st4 ⟨hc, R4, h4⟩
      exact ⟨hc, R4, by omega⟩
    case fturn =>
      rintro j c st4 _ hj ⟨rfl, R4, h4⟩
      refine wpS_bind (wpS_get ?_)
      by_cases c1 : (pendingOf st4).size ≤ 1
      · rw [if_pos c1]
        exact wpS_pure ⟨rfl, R4, c1⟩
      · rw [if_neg c1]
        have go : ∀ i, i + 1 < (pendingOf st4).size → wpS M A E s (mergeAt' i) (fun b st5 => b = true ∧ Sr rk kd S n st n st5 ∧ (pendingOf st5).size ≤ max 1 (n - (j + 1))) st4 := fun i hi => by
          obtain ⟨sa, na, pw, nb, p2, g1, g2, a1, a2, a3, a4, a5, a6⟩ := R4.merge hi
          refine w_mergeAt L R4.sane g1 g2 a1 a2 (by omega) a4 a5 fun st5 mm => ?_
          obtain ⟨R5, z5, _⟩ := a6 st5 mm
          exact ⟨rfl, R5, by omega⟩
        refine wpS_bind (wpS_mono (go _ ?_) ?_)
        · repeat' split
          all_goals omega
        · rintro b st5 ⟨rfl, R5, z5⟩
          simp only [Bool.not_true, Bool.false_eq_true, if_false]
          exact wpS_pure ⟨rfl, R5, z5⟩
    case fafter =>
      rintro c st4 ⟨rfl, R4, h4⟩
      refine wpS_pure (h st4 R4.perm R4.sane.failed ?_)
      have hr := R4.runs
      have hl : (pendingOf st4).toList.length ≤ 1 := by rw [Array.length_toList]; exact h4
      cases e : (pendingOf st4).toList with
      | nil =>
        rw [e] at hr
        have : 0 = n := hr
        omega
      | cons r l =>
        rw [e] at hr hl
        have : l = [] := by simpa using hl
        subst this
        obtain ⟨_, _, u, z⟩ := hr
        have z' : 0 + r.2.1 = n := z
        rwa [z'] at u
end
end Tim
namespace Tim
open PySem PyProof.Rows
def KLt (prog : Program) (w : World) (A : Around) (s : Shared) (kd : SortKind) (x y : Value) (r : Bool) : Prop :=
  ∀ (E : Value → Shared → Prop) (Q : Bool → Shared → Prop), Q r s → wpAny (model prog w) A (keyLt' kd x y) Q E s
theorem ltOk_of {prog : Program} {w : World} {A : Around} {E : Value → Shared → Prop} {s : Shared} {kd : SortKind} {S : Keyed → Prop} {rk : Keyed → Int} (h : ∀ x y, S x → S y → KLt prog w A s kd x.1 y.1 (decide (rk x < rk y))) :
    LtOk (model prog w) A E s kd S rk := by
  intro x y st Q sx sy hk q
  rw [lt'_eq]
  refine wpS_bind (wpS_get ?_)
  rw [hk]
  refine wpS_bind (wpS_lift (wpAny_attempt (h x y sx sy _ _ ⟨rfl, ?_⟩)))
  exact wpS_pure q
section
variable {α : Type}
theorem count_le {p q : α → Bool} : ∀ (l : List α), (∀ z ∈ l, p z = true → q z = true) → (l.filter p).length ≤ (l.filter q).length
  | [], _ => Nat.le_refl _
  | z :: l, h => by
    have ih := count_le (p := p) (q := q) l fun y hy => h y (List.mem_cons_of_mem _ hy)
    rw [List.filter_cons, List.filter_cons]
    cases e : p z with
    | true =>
      rw [h z (List.mem_cons_self ..) e]
      simp only [if_true, List.length_cons]
      omega
    | false =>
      cases q z with
      | true => simp only [Bool.false_eq_true, if_false, if_true, List.length_cons]; omega
      | false => simpa using ih
theorem count_lt {p q : α → Bool} {y : α} : ∀ (l : List α), (∀ z ∈ l, p z = true → q z = true) → y ∈ l → p y = false → q y = true → (l.filter p).length < (l.filter q).length
  | [], _, hy, _, _ => nomatch hy
  | z :: l, h, hy, h1, h2 => by
    have hl : ∀ w ∈ l, p w = true → q w = true := fun w hw => h w (List.mem_cons_of_mem _ hw)
    rw [List.filter_cons, List.filter_cons]
    rcases List.mem_cons.mp hy with rfl | hy
    · rw [h1, h2]
      have := count_le l hl
      simp only [Bool.false_eq_true, if_false, if_true, List.length_cons]
      omega
    · have ih := count_lt l hl hy h1 h2
      cases e : p z with
      | true =>
        rw [h z (List.mem_cons_self ..) e]
        simp only [if_true, List.length_cons]
        omega
      | false =>
        cases q z with
        | true => simp only [Bool.false_eq_true, if_false, if_true, List.length_cons]; omega
        | false => simpa using ih
def rank (lt : α → α → Bool) (l : List α) (x : α) : Int := ((l.filter fun y => lt y x).length : Nat)
theorem rank_lt {lt : α → α → Bool} {l : List α} (irr : ∀ x ∈ l, lt x x = false) (tr : ∀ x ∈ l, ∀ y ∈ l, ∀ z ∈ l, lt x y = true → lt y z = true → lt x z = true)
    (nt : ∀ x ∈ l, ∀ y ∈ l, ∀ z ∈ l, lt x z = true → lt x y = true ∨ lt y z = true) {x y : α} (hx : x ∈ l) (hy : y ∈ l) : lt x y = decide (rank lt l x < rank lt l y) := by
  unfold rank
  cases e : lt x y with
  | true =>
    have := count_lt (p := fun z => lt z x) (q := fun z => lt z y) l (fun z hz h => tr z hz x hx y hy h e) hx (irr x hx) e
    exact (decide_eq_true (by omega)).symm
  | false =>
    have := count_le (p := fun z => lt z y) (q := fun z => lt z x) l (fun z hz h => (nt z hz x hx y hy h).resolve_right (by rw [e]; exact Bool.false_ne_true))
    exact (decide_eq_false (by omega)).symm
end
structure Sorted (rk : Value → Int) (vs out : List Value) : Prop where
  perm : out.Perm vs
  asc : out.Pairwise fun x y => rk x ≤ rk y
theorem sorted_pairs {rk : Value → Int} {vs : List Value} {xs : Array Keyed} (hp : xs.Perm (pairsOf vs)) (hu : Up (fun p => rk p.1) xs 0 vs.length) : Sorted rk vs (xs.map (·.2)).toList := by
  have hl : xs.toList.Perm (vs.zip vs) := by
    rw [← pairsOf_toList]
    exact Array.perm_iff_toList_perm.mp hp
  have hsz : xs.size = vs.length := by
    rw [hp.size_eq, pairsOf_size]
  have same : ∀ p, p ∈ xs.toList → p.1 = p.2 := fun p h => (mem_zip_self (hl.mem_iff.mp h)).1
  refine ⟨?_, ?_⟩
  · rw [Array.toList_map]
    have := hl.map Prod.snd
    rwa [List.map_snd_zip (Nat.le_refl _)] at this
  · rw [Array.toList_map, List.pairwise_iff_getElem]
    intro i j hi hj hij
    rw [List.getElem_map, List.getElem_map]
    have hi' : i < xs.toList.length := by simpa using hi
    have hj' : j < xs.toList.length := by simpa using hj
    have := hu i j (Nat.zero_le _) (Nat.le_of_lt hij) (by rw [Array.length_toList] at hj'; omega)
    rw [kx_list xs i (List.getElem?_eq_getElem hi'), kx_list xs j (List.getElem?_eq_getElem hj')] at this
    rw [← same _ (List.getElem_mem hi'), ← same _ (List.getElem_mem hj')]
    exact this
section
variable {prog : Program} {w : World} {A : Around} {E : Value → Shared → Prop} {s : Shared}
def Keys (prog : Program) (w : World) (A : Around) (s : Shared) (a : Addr) (vs : List Value) (rk : Value → Int) : Prop := 2 ≤ vs.length → ∀ s' : Shared, (∀ b o, b ≠ a → s.heap.get? b = some o → s'.heap.get? b = some o) →
  ∃ kd : SortKind, (∀ (E : Value → Shared → Prop) (Q : SortKind → Shared → Prop), Q kd s' → wpAny (model prog w) A (keyKind' vs.toArray) Q E s') ∧ ∀ x ∈ vs, ∀ y ∈ vs, KLt prog w A s' kd x y (decide (rk x < rk y))
theorem list_sort_any {a : Addr} {vs : List Value} {n : Nat} {rk : Value → Int} {P : PySem.Fin → Shared → Prop} (ho : s.heap.get? a = some (seqObj "list" vs.toArray n)) (hz : vs.length ≤ sizeLine) (hk : Keys prog w A s a vs rk)
    (h : ∀ out : Array Value, Sorted rk vs out.toList → P (.done (.ret .none)) { s with heap := sortedHeap s.heap a vs out }) : wpAny (model prog w) A (Builtin.«list.sort» ⟨[.ref a], []⟩) P E s := by
  rw [list_sort_plain]
  have ha : a < s.heap.objs.size := Heap.lt_size ho
  have hvs : vs.toArray.size = vs.length := List.size_toArray
  refine wpAny_bind (listItems_at ho rfl (wpAny_bind (listUpdate_at ho rfl ?_ (by rw [hvs]; exact hz) (Nat.zero_le _))))
  obtain ⟨e1, ho1⟩ : ∃ e1, (s.heap.update a (Obj.mapSeq fun _ => #[])).get? a = some (seqObj "list" #[] e1) := ⟨_, get?_update_seq ho (fun _ => #[])⟩
  refine wpAny_bind (seqEpoch_at ho1 rfl (wpAny_bind (wpAny_newTuple (wpAny_bind (wpAny_newList (wpAny_holding ?_))))))
  have s1 := Heap.SameBut.update s.heap a (Obj.mapSeq fun _ => (#[] : Array Value))
  have keep : ∀ b o, (s.heap.update a (Obj.mapSeq fun _ => #[])).get? b = some o → (((s.heap.update a (Obj.mapSeq fun _ => #[])).push (seqObj "tuple" vs.toArray 0)).push (seqObj "list" #[] 0)).get? b = some o :=
    fun b o e => Heap.get?_push_of_some _ (Heap.get?_push_of_some _ e)
  have ho6 := keep a _ ho1
  have others : ∀ b o, b ≠ a → s.heap.get? b = some o → (((s.heap.update a (Obj.mapSeq fun _ => #[])).push (seqObj "tuple" vs.toArray 0)).push (seqObj "list" #[] 0)).get? b = some o :=
    fun b o hb e => keep b o ((s1.2 b hb).trans e)
  show wpAny (model prog w) A _ P E { s with heap := ((s.heap.update a (Obj.mapSeq fun _ => #[])).push (seqObj "tuple" vs.toArray 0)).push (seqObj "list" #[] 0) }
  dsimp only
  by_cases h2 : vs.toArray.size < 2
  · rw [if_pos h2, if_pos h2]
    refine wpAny_bind (wpAny_pure ?_)
    rw [StateT.run_pure]
    refine wpAny_bind (wpAny_pure ?_)
    dsimp only
    have es : ((vs.toArray.zip vs.toArray).map (·.2)).toList = vs := by
      rw [Array.toList_map]
      show (pairsOf vs).toList.map _ = _
      rw [pairsOf_toList, List.map_snd_zip (Nat.le_refl _)]
    refine wpAny_bind (seqEpoch_at ho6 rfl (wpAny_bind (listUpdate_at ho6 rfl ?_ (Nat.zero_le _) (by rw [← Array.length_toList, es]; omega))))
    simp only [bne_self_eq_false, Bool.false_eq_true, if_false]
    refine wpAny_pure (h _ ?_)
    rw [es]
    refine ⟨List.Perm.refl _, ?_⟩
    rw [hvs] at h2
    match vs, h2 with
    | [], _ => exact .nil
    | [_], _ => exact List.pairwise_singleton ..
  · rw [if_neg h2, if_neg h2]
    obtain ⟨kd, kk, kl⟩ := hk (by omega) { s with heap := ((s.heap.update a (Obj.mapSeq fun _ => #[])).push (seqObj "tuple" vs.toArray 0)).push (seqObj "list" #[] 0) } others
    refine wpAny_bind (kk _ _ ?_)
    have hS : ∀ p ∈ (vs.toArray.zip vs.toArray).toList, p.1 ∈ vs := fun p hp => by
      have hp' : p ∈ (pairsOf vs).toList := hp
      rw [pairsOf_toList] at hp'
      exact (mem_zip_self hp').2
    refine wpAny_bind (wpAny_mono (w_sortRuns (S := fun p => p.1 ∈ vs) (rk := fun p => rk p.1) (n := vs.length) (st := SortSt.mk' kd (vs.toArray.zip vs.toArray) #[] 7 none)
      (Q := fun _ st' => (arrOf st').Perm (pairsOf vs) ∧ failedOf st' = none ∧ Up (fun p => rk p.1) (arrOf st') 0 vs.length)
      (ltOk_of fun x y hx hy => kl x.1 hx y.1 hy) ⟨pairsOf_size vs, hS, rfl, rfl⟩ (by omega) rfl fun st' a1 a2 a3 => ⟨a1, a2, a3⟩) ?_ fun _ _ e => e)
    rintro ⟨⟨⟩, st'⟩ s' ⟨rfl, hp, hf, hu⟩
    dsimp only
    have so := sorted_pairs hp hu
    refine wpAny_bind (seqEpoch_at ho6 rfl (wpAny_bind (listUpdate_at ho6 rfl ?_ (Nat.zero_le _) (by rw [← Array.length_toList, so.perm.length_eq]; omega))))
    rw [hf]
    simp only [bne_self_eq_false, Bool.false_eq_true, if_false]
    exact wpAny_pure (h _ so)
end
end Tim
namespace Tim
structure STO {α : Type} (lt : α → α → Bool) : Prop where
  irr : ∀ a, lt a a = false
  tr : ∀ a b c, lt a b = true → lt b c = true → lt a c = true
  tri : ∀ a b, lt a b = false → lt b a = false → a = b
section
variable {α β : Type}
theorem STO.asym {lt : α → α → Bool} (h : STO lt) {a b : α} (x : lt a b = true) : lt b a = false := by
  cases e : lt b a with
  | false => rfl
  | true =>
    have := h.tr a b a x e
    rw [h.irr] at this
    cases this
theorem STO.nt {lt : α → α → Bool} (h : STO lt) {a c : α} (b : α) (x : lt a c = true) : lt a b = true ∨ lt b c = true := by
  cases e : lt a b with
  | true => exact .inl rfl
  | false =>
    cases f : lt b a with
    | true => exact .inr (h.tr b a c f x)
    | false =>
      have := h.tri a b e f
      subst this
      exact .inr x
theorem STO.map {lt : α → α → Bool} (h : STO lt) (f : β → α) (inj : ∀ a b, f a = f b → a = b) : STO fun a b => lt (f a) (f b) :=
  ⟨fun a => h.irr _, fun a b c => h.tr _ _ _, fun a b x y => inj a b (h.tri _ _ x y)⟩
def lexB [DecidableEq α] (lt : α → α → Bool) : List α → List α → Bool
  | [], [] => false
  | [], _ :: _ => true
  | _ :: _, [] => false
  | a :: as, b :: bs => if a = b then lexB lt as bs else lt a b
theorem STO.lex [DecidableEq α] {lt : α → α → Bool} (h : STO lt) : STO (lexB lt) := by
  refine ⟨fun a => ?_, fun a => ?_, fun a => ?_⟩
  · induction a with
    | nil => rfl
    | cons x a ih => rw [lexB, if_pos rfl]; exact ih
  · induction a with
    | nil =>
      intro b c h1 h2
      cases c with
      | nil => cases b with
        | nil => exact h1
        | cons y b => cases h2
      | cons z c => rfl
    | cons x a ih =>
      intro b c h1 h2
      cases b with
      | nil => cases h1
      | cons y b =>
        cases c with
        | nil => cases h2
        | cons z c =>
          rw [lexB] at h1 h2 ⊢
          by_cases xy : x = y
          · subst xy
            rw [if_pos rfl] at h1
            by_cases xz : x = z
            · subst xz
              rw [if_pos rfl] at h2 ⊢
              exact ih b c h1 h2
            · rw [if_neg xz] at h2 ⊢
              exact h2
          · rw [if_neg xy] at h1
            by_cases yz : y = z
            · subst yz
              rw [if_neg xy]
              exact h1
            · rw [if_neg yz] at h2
              have hxz := h.tr x y z h1 h2
              have : ¬ x = z := fun e => by
                subst e
                rw [h.irr] at hxz
                cases hxz
              rw [if_neg this]
              exact hxz
  · induction a with
    | nil =>
      intro b h1 h2
      cases b with
      | nil => rfl
      | cons y b => cases h1
    | cons x a ih =>
      intro b h1 h2
      cases b with
      | nil => cases h2
      | cons y b =>
        rw [lexB] at h1 h2
        by_cases xy : x = y
        · subst xy
          rw [if_pos rfl] at h1 h2
          rw [ih b h1 h2]
        · rw [if_neg xy] at h1
          rw [if_neg (Ne.symm xy)] at h2
          exact absurd (h.tri x y h1 h2) xy
theorem sto_nat : STO (fun a b : Nat => decide (a < b)) :=
  ⟨fun a => by simp, fun a b c h1 h2 => by simp at *; omega, fun a b h1 h2 => by simp at *; omega⟩
theorem lex_nat : ∀ (a b : List Nat), decide (a < b) = lexB (fun x y : Nat => decide (x < y)) a b
  | [], [] => rfl
  | [], _ :: _ => by simp [lexB]
  | _ :: _, [] => by simp [lexB]
  | x :: a, y :: b => by
    rw [lexB, ← lex_nat a b]
    by_cases e : x = y
    · subst e
      rw [if_pos rfl]
      simp
    · rw [if_neg e]
      have : (x :: a < y :: b) ↔ x < y := by
        rw [List.cons_lt_cons_iff]
        constructor
        · rintro (h | h)
          · exact h
          · exact absurd h.1 e
        · exact .inl
      simp [this]
theorem STO.uniq {lt : α → α → Bool} (h : STO lt) : ∀ {a b : List α}, a.Perm b → a.Pairwise (fun x y => lt y x = false) → b.Pairwise (fun x y => lt y x = false) → a = b
  | [], b, p, _, _ => (List.nil_perm.mp p).symm ▸ rfl
  | x :: a, [], p, _, _ => by have := p.length_eq; simp at this
  | x :: a, y :: b, p, pa, pb => by
    obtain ⟨pa1, pa2⟩ := List.pairwise_cons.mp pa
    obtain ⟨pb1, pb2⟩ := List.pairwise_cons.mp pb
    have e : x = y := by
      have hx : x ∈ y :: b := p.mem_iff.mp (List.mem_cons_self ..)
      have hy : y ∈ x :: a := p.mem_iff.mpr (List.mem_cons_self ..)
      rcases List.mem_cons.mp hx with e | hx
      · exact e
      · rcases List.mem_cons.mp hy with e | hy
        · exact e.symm
        · exact h.tri x y (pb1 x hx) (pa1 y hy)
    subst e
    rw [h.uniq (List.Perm.cons_inv p) pa2 pb2]
end
end Tim
namespace L2
open PySem PySem.Spec PyProof.Rows
abbrev Key := Sum Int Str
def keyIs : Key → Value → Bool
  | .inl k, v => Value.isInt k v
  | .inr x, v => Value.isStrOf x v
def keyH (w : World) : Key → Int
  | .inl k => hashInt k
  | .inr x => hashStr w x
theorem keyIs_shape : ∀ {k : Key} {v : Value}, keyIs k v = true → (∃ i t, k = Sum.inl i ∧ v = Value.int i t) ∨ (∃ x t, k = Sum.inr x ∧ v = Value.str x t)
  | .inl i, v, h => by
    obtain ⟨t, e⟩ := Value.isInt_shape (k := i) (v := v) h
    exact .inl ⟨i, t, rfl, e⟩
  | .inr x, v, h => by
    obtain ⟨t, e⟩ := Value.isStrOf_shape (x := x) (v := v) h
    exact .inr ⟨x, t, rfl, e⟩
theorem key_ll (a b : Int) : decide ((Sum.inl a : Key) = Sum.inl b) = (a == b) := by
  by_cases e : a = b
  · subst e; simp
  · have h : ¬ (Sum.inl a : Key) = Sum.inl b := fun q => e (Sum.inl.inj q)
    rw [decide_eq_false h]
    exact (beq_eq_false_iff_ne.mpr e).symm
theorem key_rr (a b : Str) : decide ((Sum.inr a : Key) = Sum.inr b) = decide (a = b) := by
  by_cases e : a = b
  · subst e; simp
  · have h : ¬ (Sum.inr a : Key) = Sum.inr b := fun q => e (Sum.inr.inj q)
    rw [decide_eq_false h, decide_eq_false e]
theorem key_lr (a : Int) (b : Str) : decide ((Sum.inl a : Key) = Sum.inr b) = false := decide_eq_false (fun q => nomatch q)
theorem key_rl (a : Str) (b : Int) : decide ((Sum.inr a : Key) = Sum.inl b) = false := decide_eq_false (fun q => nomatch q)
def mixKind (prog : Program) (w : World) : PySem.KeyKind prog w Key where
  is := keyIs
  hash := keyH w
  inj := fun v a b ha hb => by
    rcases keyIs_shape ha with ⟨i, t, rfl, rfl⟩ | ⟨x, t, rfl, rfl⟩
    · rcases keyIs_shape hb with ⟨j, u, rfl, e⟩ | ⟨y, u, rfl, e⟩
      · injection e with e1 _; rw [e1]
      · exact nomatch e
    · rcases keyIs_shape hb with ⟨j, u, rfl, e⟩ | ⟨y, u, rfl, e⟩
      · exact nomatch e
      · injection e with e1 _; rw [e1]
  byValue := fun k v h => by
    rcases keyIs_shape h with ⟨i, t, rfl, rfl⟩ | ⟨x, t, rfl, rfl⟩ <;> rfl
  pyHash := fun hv h => by
    rcases keyIs_shape hv with ⟨i, t, rfl, rfl⟩ | ⟨x, t, rfl, rfl⟩
    · exact wpAny_pyHash_int h
    · exact wpAny_pyHash_str h
  eqBool := fun hu hv h => by
    rcases keyIs_shape hu with ⟨i, t, rfl, rfl⟩ | ⟨x, t, rfl, rfl⟩
    · rcases keyIs_shape hv with ⟨j, u, rfl, rfl⟩ | ⟨y, u, rfl, rfl⟩
      · rw [key_ll] at h; exact wpAny_eqBool_int h
      · rw [key_lr] at h; exact SeqAt.EqAt.int_str i t y u _ _ _ _ h
    · rcases keyIs_shape hv with ⟨j, u, rfl, rfl⟩ | ⟨y, u, rfl, rfl⟩
      · rw [key_rl] at h; exact SeqAt.EqAt.str_int x t j u _ _ _ _ h
      · rw [key_rr] at h; exact wpAny_eqBool_str h
  «strs» := fun k x t v h => by
    rcases keyIs_shape h with ⟨i, u, rfl, e⟩ | ⟨y, u, rfl, e⟩
    · exact nomatch e
    · injection e with e1 _
      subst e1
      cases v <;> rfl
end L2
namespace L2
open PySem PySem.Spec PyProof.Rows
inductive V where
  | non | bl (b : Bool) | int (i : Int) | str (x : Str) | byt (b : Array UInt8) | flt (b : UInt64) | ref (a : Addr) | ty (n : String)
  deriving DecidableEq
def RelV : V → Value → Prop
  | .non, u => u = Value.none
  | .bl b, u => u = Value.bool b
  | .int i, u => ∃ t, u = Value.int i t
  | .str x, u => ∃ t, u = Value.str x t
  | .byt b, u => ∃ t, u = Value.bytes b t
  | .flt b, u => ∃ t, u = Value.float b t
  | .ref a, u => u = Value.ref a
  | .ty n, u => u = Value.type n
abbrev Vals : List V → List Value → Prop := Paired RelV
theorem Vals.length {xs : List V} {us : List Value} (r : Vals xs us) : xs.length = us.length := Paired.length r
theorem Vals.get : ∀ {xs : List V} {us : List Value} {i : Nat} {x : V}, Vals xs us → xs[i]? = some x → ∃ u, us[i]? = some u ∧ RelV x u
  | _, _, _, _, .nil, e => by simp at e
  | _, _, 0, _, .cons r _, e => by simp at e; subst e; exact ⟨_, rfl, r⟩
  | _, _, i + 1, x, .cons _ t, e => by
    obtain ⟨u, h1, h2⟩ := Vals.get (i := i) (x := x) t (by simpa using e)
    exact ⟨u, by simpa using h1, h2⟩
theorem Vals.set {x : V} {u : Value} (r : RelV x u) : ∀ {xs : List V} {us : List Value} (i : Nat), Vals xs us → Vals (xs.set i x) (us.set i u)
  | _, _, _, .nil => .nil
  | _, _, 0, .cons _ t => .cons r t
  | _, _, i + 1, .cons q t => .cons q (Vals.set r i t)
theorem Vals.append : ∀ {xs ys : List V} {us ws : List Value}, Vals xs us → Vals ys ws → Vals (xs ++ ys) (us ++ ws)
  | _, _, _, _, .nil, s => s
  | _, _, _, _, .cons r t, s => .cons r (Vals.append t s)
theorem Vals.take : ∀ {xs : List V} {us : List Value} (n : Nat), Vals xs us → Vals (xs.take n) (us.take n)
  | _, _, 0, _ => .nil
  | _, _, _ + 1, .nil => .nil
  | _, _, n + 1, .cons r t => .cons r (Vals.take n t)
theorem Vals.drop : ∀ {xs : List V} {us : List Value} (n : Nat), Vals xs us → Vals (xs.drop n) (us.drop n)
  | _, _, 0, r => r
  | _, _, _ + 1, .nil => .nil
  | _, _, n + 1, .cons _ t => Vals.drop n t
def RelO : Option V → Option Value → Prop
  | some v, some u => RelV v u
  | none, none => True
  | _, _ => False
def KV {κ : Type} : List (κ × V) → List (κ × Value) → Prop := Paired fun (p : κ × V) (q : κ × Value) => p.1 = q.1 ∧ RelV p.2 q.2
def kV : Key → V
  | .inl i => .int i
  | .inr x => .str x
inductive HO where
  /-- a list -/
  | lst (xs : List V)
  /-- a tuple (never changes) -/
  | tup (xs : List V)
  /-- a dict whose keys are ints and texts; one whose keys are tuples of ints and texts (the empty one is both) -/
  | dK (kvs : List (Key × V)) | dT (kvs : List (List Key × V))
  /-- a set of ints: its members, its size -/
  | set (S : Int → Bool) (n : Nat)
  /-- an instance of the class at C, its dict at dx, its attributes -/
  | ins (C dx : Addr) (fs : List (Str × V))
  /-- the dict of the instance at x -/
  | own (x : Addr)
  /-- the dict of an exception -/
  | xd (fs : List (Str × V))
  /-- a bound method, f of x -/
  | met (f x : Addr)
  /-- a range object lo, lo + 1, .. below hi -/
  | rng (lo hi : Int)
  /-- a thing that is known to the object (the script; a dict while a loop walks it): read, never written while it is so -/
  | frz (o : Obj) (u : HO)
  /-- a code object's table -/
  | tbl (ps : Array Value)
  /-- any other thing, by what is true of its one object (a def of one's own: SetO a S n := HO.ext fun h => ..) -/
  | ext (φ : Heap → Prop)
abbrev Hp := Addr → Option HO
def upd (H : Hp) (a : Addr) (o : HO) : Hp := fun b => if b = a then some o else H b
theorem upd_same {H : Hp} {a : Addr} {o : HO} : upd H a o a = some o := by unfold upd; rw [if_pos rfl]
theorem upd_ne {H : Hp} {a b : Addr} {o : HO} (h : b ≠ a) : upd H a o b = H b := by unfold upd; rw [if_neg h]
theorem upd_upd {H : Hp} {a : Addr} {o u : HO} : upd (upd H a o) a u = upd H a u := by
  funext b; unfold upd; split <;> rfl
theorem ne_of_none {H : Hp} {a b : Addr} {o : HO} (h : H a = some o) (h' : H b = none) : a ≠ b := by
  intro e; subst e; rw [h] at h'; cases h'
section
variable (P : Program) (w : World)
def ObjOk (H : Hp) (h : Heap) (a : Addr) : HO → Prop
  | .lst xs => xs.length ≤ sizeLine ∧ ∃ (its : List Value) (n : Nat), Vals xs its ∧ h.get? a = some { cls := .type "list", data := .seq its.toArray n }
  | .tup xs => xs.length ≤ sizeLine ∧ ∃ its : List Value, Vals xs its ∧ IsTup h a its.toArray
  | .dK kvs => kvs.length ≤ sizeLine ∧ (a == sysModules) = false ∧ ∃ vs, KV kvs vs ∧ h.DictOf (mixKind P w) a vs
  | .dT kvs => kvs.length ≤ sizeLine ∧ (a == sysModules) = false ∧ ∃ xs : List (List Key × Addr × Value),
      Paired (fun (p : List Key × V) (q : List Key × Addr × Value) => p.1 = q.1 ∧ H q.2.1 = some (.tup (p.1.map kV)) ∧ RelV p.2 q.2.2) kvs xs ∧
      ∃ o es ep, h.get? a = some o ∧ o.ExactDict ∧ o.data = .dict es ep ∧ es.toList = xs.map (entryOfKey (tupleKind (mixKind P w))) ∧ (xs.map (·.1)).Nodup
  | .set S n => h.SetOf (intKind P w) a S n
  | .ins C dx fs => H dx = some (.own a) ∧ fs.length ≤ 1000 ∧ dx ≠ a ∧ h.get? a = some (PySem.W.instObj C dx) ∧
      ∃ mA, h.Ns1 dx mA ∧ (∀ f, RelO (fs.lookup f) (mA f)) ∧ PySem.Within mA (fs.map (·.1))
  | .own _ => ∃ o, h.get? a = some o
  | .xd fs => ∃ mA, h.Ns1 a mA ∧ ∀ f, RelO (fs.lookup f) (mA f)
  | .rng lo hi => ∃ t u v, h.get? a = some { cls := .type "range", data := .fields #[.int lo t, .int hi u, .int 1 v] }
  | .frz o u => h.get? a = some o ∧ ObjOk H h a u
  | .tbl ps => h.get? a = some { cls := .none, data := .fields ps }
  | .met f x => h.get? a = some (PySem.W.methodObj (.ref f) (.ref x))
  | .ext φ => φ h ∧ (∃ o, h.get? a = some o) ∧ ∀ h1 h2 : Heap, φ h1 → (∀ o, h1.get? a = some o → h2.get? a = some o) → φ h2
def HOk (H : Hp) (h : Heap) : Prop := ∀ a o, H a = some o → ObjOk P w H h a o
end
section
variable {P : Program} {w : World} {H H' : Hp} {h h' : Heap} {a : Addr} {o : HO}
theorem ObjOk.lt (x : ObjOk P w H h a o) : a < h.objs.size := by
  cases o with
  | lst xs => obtain ⟨_, _, _, _, e⟩ := x; exact Heap.lt_size e
  | tup xs => obtain ⟨_, _, _, p⟩ := x; exact p.lt
  | dK kvs => obtain ⟨_, _, _, _, o, _, _, e, _⟩ := x; exact Heap.lt_size e
  | dT kvs => obtain ⟨_, _, _, _, o, _, _, e, _⟩ := x; exact Heap.lt_size e
  | set S n => obtain ⟨o, _, _, _, e, _⟩ := x; exact Heap.lt_size e
  | ins C dx fs => obtain ⟨_, _, _, e, _⟩ := x; exact Heap.lt_size e
  | own y => obtain ⟨_, e⟩ := x; exact Heap.lt_size e
  | xd fs => obtain ⟨_, ⟨_, _, _, e, _⟩, _⟩ := x; exact Heap.lt_size e
  | rng lo hi => obtain ⟨_, _, _, e⟩ := x; exact Heap.lt_size e
  | frz ob u => obtain ⟨e, _⟩ := x; exact Heap.lt_size e
  | tbl ps => exact Heap.lt_size (show h.get? a = some _ from x)
  | met f y => exact Heap.lt_size (show h.get? a = some _ from x)
  | ext φ => obtain ⟨_, ⟨_, e⟩, _⟩ := x; exact Heap.lt_size e
theorem Paired.mapP {α β : Type} {F G : α → β → Prop} : ∀ {l₁ : List α} {l₂ : List β}, Paired F l₁ l₂ → (∀ a b, F a b → G a b) → Paired G l₁ l₂
  | _, _, .nil, _ => .nil
  | _, _, .cons r t, f => .cons (f _ _ r) (Paired.mapP t f)
theorem ObjOk.stay (x : ObjOk P w H h a o) (k : ∀ b u, (b = a ∨ H b = some (.own a)) → h.get? b = some u → h'.get? b = some u)
    (ho : ∀ b, H b = some (.own a) → H' b = some (.own a)) (ht : ∀ b xs, H b = some (.tup xs) → H' b = some (.tup xs)) : ObjOk P w H' h' a o := by
  induction o with
  | lst xs => obtain ⟨z, its, n, r, e⟩ := x; exact ⟨z, its, n, r, k _ _ (.inl rfl) e⟩
  | tup xs => obtain ⟨z, its, r, ob, e, c⟩ := x; exact ⟨z, its, r, ob, k _ _ (.inl rfl) e, c⟩
  | dK kvs => obtain ⟨z, y, vs, r, ob, es, ep, e, c⟩ := x; exact ⟨z, y, vs, r, ob, es, ep, k _ _ (.inl rfl) e, c⟩
  | dT kvs =>
    obtain ⟨z, y, xs, r, ob, es, ep, e, c⟩ := x
    exact ⟨z, y, xs, Paired.mapP r fun p q z => ⟨z.1, ht _ _ z.2.1, z.2.2⟩, ob, es, ep, k _ _ (.inl rfl) e, c⟩
  | set S n => obtain ⟨ob, es, ep, t, e, c⟩ := x; exact ⟨ob, es, ep, t, k _ _ (.inl rfl) e, c⟩
  | ins C dx fs =>
    obtain ⟨d, z, ne, e, mA, ⟨od, es, ep, e2, c⟩, r⟩ := x
    exact ⟨ho _ d, z, ne, k _ _ (.inl rfl) e, mA, ⟨od, es, ep, k _ _ (.inr d) e2, c⟩, r⟩
  | own y => obtain ⟨ob, e⟩ := x; exact ⟨ob, k _ _ (.inl rfl) e⟩
  | xd fs => obtain ⟨mA, ⟨od, es, ep, e, c⟩, r⟩ := x; exact ⟨mA, ⟨od, es, ep, k _ _ (.inl rfl) e, c⟩, r⟩
  | rng lo hi => obtain ⟨t, u, v, e⟩ := x; exact ⟨t, u, v, k _ _ (.inl rfl) e⟩
  | frz ob u ih => obtain ⟨e, q⟩ := x; exact ⟨k _ _ (.inl rfl) e, ih q⟩
  | tbl ps =>
    have e : h.get? a = some { cls := .none, data := .fields ps } := x
    show h'.get? a = some { cls := .none, data := .fields ps }
    exact k a _ (.inl rfl) e
  | met f y =>
    have e : h.get? a = some (PySem.W.methodObj (.ref f) (.ref y)) := x
    show h'.get? a = some (PySem.W.methodObj (.ref f) (.ref y))
    exact k a _ (.inl rfl) e
  | ext φ => obtain ⟨p, ⟨o, e⟩, st⟩ := x; exact ⟨st _ _ p fun o q => k _ _ (.inl rfl) q, ⟨o, k _ _ (.inl rfl) e⟩, st⟩
theorem HOk.lt (x : HOk P w H h) (e : H a = some o) : a < h.objs.size := (x a o e).lt
theorem HOk.fresh (x : HOk P w H h) (e : h.objs.size ≤ a) : H a = none := by
  cases q : H a with
  | none => rfl
  | some u => exact absurd (Nat.lt_of_lt_of_le (x.lt q) e) (Nat.lt_irrefl _)
theorem HOk.kept (x : HOk P w H h) (k : ∀ b u, h.get? b = some u → h'.get? b = some u) : HOk P w H h' := fun a o e =>
  (x a o e).stay (fun b u _ q => k b u q) (fun _ q => q) fun _ _ q => q
theorem HOk.laid (x : HOk P w H h) (k : ∀ b u, h.get? b = some u → h'.get? b = some u) (hp : h.objs.size ≤ a) (new : ObjOk P w (upd H a o) h' a o) : HOk P w (upd H a o) h' := fun b u e => by
  have hn := x.fresh hp
  by_cases hb : b = a
  · subst hb; rw [upd_same] at e; cases e; exact new
  · rw [upd_ne hb] at e
    exact (x b u e).stay (fun c v _ q => k c v q) (fun c q => by rw [upd_ne (ne_of_none q hn)]; exact q) fun c xs q => by rw [upd_ne (ne_of_none q hn)]; exact q
end
def Rd (H : Hp) (a : Addr) (u : HO) : Prop := H a = some u ∨ ∃ o, H a = some (.frz o u)
theorem Rd.of {H : Hp} {a : Addr} {u : HO} (h : H a = some u) : Rd H a u := .inl h
theorem Rd.ok {P : Program} {w : World} {H : Hp} {h : Heap} {a : Addr} {u : HO} (r : Rd H a u) (x : HOk P w H h) : ObjOk P w H h a u := by
  rcases r with r | ⟨o, r⟩
  · exact x a u r
  · obtain ⟨_, q⟩ := x a _ r
    exact q
def Mut : Option HO → Prop
  | some (.lst _) => True
  | some (.dK _) => True
  | some (.dT _) => True
  | some (.set _ _) => True
  | some (.ins _ _ _) => True
  | some (.ext _) => True
  | _ => False
section
variable {P : Program} {w : World} {H : Hp} {h h' : Heap} {x e : Addr} {o' : HO}
theorem HOk.write (ok : HOk P w H h) (mu : Mut (H x)) (he : e = x ∨ H e = some (.own x)) (k : ∀ b u, b ≠ e → h.get? b = some u → h'.get? b = some u) (heo : ∃ u, h'.get? e = some u)
    (new : ObjOk P w (upd H x o') h' x o') : HOk P w (upd H x o') h' := fun b u q => by
  have nown : ∀ c y, H c = some (.own y) → c ≠ x := fun c y r z => by subst z; rw [r] at mu; exact mu
  have ntup : ∀ c xs, H c = some (.tup xs) → c ≠ x := fun c xs r z => by subst z; rw [r] at mu; exact mu
  by_cases hb : b = x
  · subst hb; rw [upd_same] at q; cases q; exact new
  · rw [upd_ne hb] at q
    by_cases hbe : b = e
    · have q' : H b = some (.own x) := by
        rcases he with z | z
        · exact absurd (hbe.trans z) hb
        · rw [hbe]; exact z
      rw [q] at q'; cases q'
      obtain ⟨v, hv⟩ := heo
      exact ⟨v, by rw [hbe]; exact hv⟩
    · refine (ok b u q).stay (fun c v hc r => k c v ?_ r) (fun c r => by rw [upd_ne (nown c b r)]; exact r) fun c xs r => by rw [upd_ne (ntup c xs r)]; exact r
      rcases hc with rfl | hc
      · exact hbe
      · rintro rfl
        rcases he with z | z
        · exact nown c b hc z
        · rw [hc] at z; cases z; exact hb rfl
end
structure Un (fs ex : List Addr) (H H' : Hp) (h h' : Heap) : Prop where
  keep : ∀ b o, h.get? b = some o → H b = none → b ∉ fs → b ∉ ex → h'.get? b = some o
  slot : ∀ b o, h.get? b = some o → H b = none → b ∈ fs → b ∉ ex → ∃ sl, h'.get? b = some { o with slots := sl }
  free : ∀ b o, h.get? b = some o → H b = none → b ∉ ex → H' b = none
  there : ∀ b o, h.get? b = some o → b ∉ ex → ∃ o', h'.get? b = some o'
  tups : ∀ b xs, H b = some (.tup xs) → H' b = some (.tup xs)
  frzs : ∀ b o u, H b = some (.frz o u) → H' b = some (.frz o u)
  tbls : ∀ b ps, H b = some (.tbl ps) → ∃ more, H' b = some (.tbl (ps ++ more))
section
variable {fs fs' ex ex' : List Addr} {H H1 H2 : Hp} {h h1 h2 h' : Heap} {a x e : Addr} {o : HO}
theorem Un.any (u : Un fs ex H H1 h h1) {b : Addr} {ob : Obj} (q : h.get? b = some ob) (n : H b = none) (hx : b ∉ ex) : ∃ sl, h1.get? b = some { ob with slots := sl } := by
  by_cases hb : b ∈ fs
  · exact u.slot b ob q n hb hx
  · exact ⟨ob.slots, u.keep b ob q n hb hx⟩
theorem Un.trans (a : Un fs ex H H1 h h1) (b : Un fs ex H1 H2 h1 h2) : Un fs ex H H2 h h2 where
  keep := fun c ob q n hc hx => b.keep c ob (a.keep c ob q n hc hx) (a.free c ob q n hx) hc hx
  slot := fun c ob q n hc hx => by
    obtain ⟨sl, e1⟩ := a.slot c ob q n hc hx
    obtain ⟨sl', e2⟩ := b.slot c _ e1 (a.free c ob q n hx) hc hx
    exact ⟨sl', e2⟩
  free := fun c ob q n hx => by
    obtain ⟨o', e1⟩ := a.there c ob q hx
    exact b.free c o' e1 (a.free c ob q n hx) hx
  there := fun c ob q hx => by
    obtain ⟨o', e1⟩ := a.there c ob q hx
    exact b.there c o' e1 hx
  tups := fun c xs q => b.tups c xs (a.tups c xs q)
  frzs := fun c ob xs q => b.frzs c ob xs (a.frzs c ob xs q)
  tbls := fun c ps q => by
    obtain ⟨m1, e1⟩ := a.tbls c ps q
    obtain ⟨m2, e2⟩ := b.tbls c _ e1
    exact ⟨m1 ++ m2, by rw [e2, Array.append_assoc]⟩
theorem Un.kept (k : ∀ b u, h.get? b = some u → h'.get? b = some u) : Un fs ex H H h h' :=
  ⟨fun b ob q _ _ _ => k b ob q, fun b ob q _ _ _ => ⟨ob.slots, k b ob q⟩, fun _ _ _ n _ => n, fun b ob q _ => ⟨ob, k b ob q⟩, fun _ _ q => q, fun _ _ _ q => q, fun _ ps q => ⟨#[], by rw [q]; simp⟩⟩
theorem Un.refl : Un fs ex H H h h := Un.kept fun _ _ q => q
theorem Un.laid (k : ∀ b u, h.get? b = some u → h'.get? b = some u) (hp : h.objs.size ≤ a) (hn : H a = none) : Un fs ex H (upd H a o) h h' where
  keep := fun b u q _ _ _ => k b u q
  slot := fun b u q _ _ _ => ⟨u.slots, k b u q⟩
  free := fun b u q n _ => by rw [upd_ne (Nat.ne_of_lt (Nat.lt_of_lt_of_le (Heap.lt_size q) hp))]; exact n
  there := fun b u q _ => ⟨u, k b u q⟩
  tups := fun b xs q => by rw [upd_ne (ne_of_none q hn)]; exact q
  frzs := fun b u xs q => by rw [upd_ne (ne_of_none q hn)]; exact q
  tbls := fun b ps q => ⟨#[], by rw [upd_ne (ne_of_none q hn), q]; simp⟩
theorem Un.write (mu : Mut (H x)) (he : e = x ∨ H e = some (.own x)) (k : ∀ b u, b ≠ e → h.get? b = some u → h'.get? b = some u) (heo : ∃ u, h'.get? e = some u) : Un fs ex H (upd H x o) h h' := by
  have hx : ∀ b, H b = none → b ≠ x := fun b n z => by subst z; rw [n] at mu; exact mu
  have hb : ∀ b, H b = none → b ≠ e := fun b n z => by
    subst z
    rcases he with r | r
    · exact hx b n r
    · rw [n] at r; cases r
  have hm : ∀ b u, H b = some u → ¬ Mut (some u) → b ≠ x := fun b u q nm z => by subst z; rw [q] at mu; exact nm mu
  refine ⟨fun b u q n _ _ => k b u (hb b n) q, fun b u q n _ _ => ⟨u.slots, k b u (hb b n) q⟩, fun b u q n _ => by rw [upd_ne (hx b n)]; exact n, fun b u q _ => ?_,
    fun b xs q => by rw [upd_ne (hm b _ q fun z => z)]; exact q, fun b u xs q => by rw [upd_ne (hm b _ q fun z => z)]; exact q, fun b ps q => ⟨#[], by rw [upd_ne (hm b _ q fun z => z), q]; simp⟩⟩
  by_cases hbe : b = e
  · subst hbe; exact heo
  · exact ⟨u, k b u hbe q⟩
theorem Un.mono (u : Un fs ex H H1 h h1) (hs : ∀ b ∈ fs, b ∈ fs') (hx : ∀ b ∈ ex, b ∈ ex') : Un fs' ex' H H1 h h1 :=
  ⟨fun b ob q n hb he => u.keep b ob q n (fun z => hb (hs b z)) fun z => he (hx b z), fun _ _ q n _ he => u.any q n fun z => he (hx _ z), fun b ob q n he => u.free b ob q n fun z => he (hx b z), fun b ob q he => u.there b ob q fun z => he (hx b z), u.tups, u.frzs, u.tbls⟩
end
def trk (h : Heap) (H : Hp) : List Addr := (List.range h.objs.size).filter fun a => (H a).isSome
def hidT (h : Heap) (H : Hp) : Heap := PySem.W.hideAll h (trk h H)
theorem hidT_size (h : Heap) (H : Hp) : (hidT h H).objs.size = h.objs.size := PySem.W.hideAll_size _ _
theorem hidT_get {h : Heap} {H : Hp} {b : Addr} {o : Obj} (e : h.get? b = some o) (n : H b = none) : (hidT h H).get? b = some o :=
  PySem.W.hideAll_get _ e fun hm => by
    have q : (H b).isSome = true := (List.mem_filter.mp hm).2
    rw [n] at q; simp at q
theorem of_hidT {h : Heap} {H : Hp} {b : Addr} {o : Obj} (e : (hidT h H).get? b = some o) : h.get? b = some o ∧ H b = none := by
  have e' : h.get? b = some o := PySem.W.of_hideAll (trk h H) e
  refine ⟨e', ?_⟩
  cases q : H b with
  | none => rfl
  | some x =>
    have hm : b ∈ trk h H := List.mem_filter.mpr ⟨List.mem_range.mpr (Heap.lt_size e'), by simp [q]⟩
    have z : (hidT h H).get? b = none := PySem.W.hideAll_none (trk h H) hm
    rw [z] at e; cases e
def allNews (g h : Heap) (L : Addr) : List (Addr × Obj) := (List.range h.objs.size).filterMap fun a => if a = L ∨ (g.get? a).isSome = true then none else (h.get? a).map fun o => (a, o)
theorem mem_allNews {g h : Heap} {L a : Addr} {o : Obj} (h1 : a ≠ L) (h2 : g.get? a = none) (h3 : h.get? a = some o) : (a, o) ∈ allNews g h L :=
  List.mem_filterMap.mpr ⟨a, List.mem_range.mpr (Heap.lt_size h3), by simp [h1, h2, h3]⟩
def rest (g h : Heap) (L d : Addr) : List (Addr × Obj) := (allNews g h L).filter fun p => decide (p.1 ≠ d)
theorem mem_rest {g h : Heap} {L d a : Addr} {o : Obj} (h1 : a ≠ L) (h2 : g.get? a = none) (h3 : h.get? a = some o) (h4 : a ≠ d) : (a, o) ∈ rest g h L d :=
  List.mem_filter.mpr ⟨mem_allNews h1 h2 h3, decide_eq_true h4⟩
end L2
namespace L2
open PySem PySem.Spec PyProof.Rows
structure Mod (K : PySem.W.Frag) (mg : Str → Option Value) (base : Heap) : Prop where
  kin : K.In base
  glob : base.Ns mainGlobals mg
  blt : ∃ mb, base.Ns builtinsNs mb ∧ ∀ x : Str, x ≠ "__name__" → mb x = bootBuiltins x
  nolimit : base.NoLimit
structure Cx where
  prog : Program
  w : World
  K : PySem.W.Frag
  mg : Str → Option Value
  base : Heap
  A : Around
  N : List Str
  s₀ : Shared
  H₀ : Hp
  env : Env
  outer : List Env
  stack : List Env
  ex : List Addr
  fn : Str → Bool
  calm : Bool
  pn : List (Addr × Obj)
  xe : Value → Shared → Prop
def frs (l : List Env) : List Addr := l.filterMap (·.frame)
abbrev Cx.fs (X : Cx) : List Addr := frs X.outer
def Vis (sc : Scope) (x : Str) : Prop := sc.names.lookup x = some .local ∨ sc.names.lookup x = some .cell ∨ sc.names.lookup x = some .free
def Loc (sc : Scope) (x : Str) : Prop := sc.names.lookup x = some .local ∨ sc.names.lookup x = some .cell
def Look (env : Env) (h : Heap) (m : Str → Option Value) (x : Str) (u : Value) : Prop :=
  (env.kindOf x = some .local ∧ m x = some u) ∨ ((env.kindOf x = some .cell ∨ env.kindOf x = some .free) ∧ ∃ c, env.cells.lookup x = some c ∧ h.IsCell c (some u))
structure Cx.Ok (X : Cx) : Prop where
  mod : Mod X.K X.mg X.base
  kind : X.env.scope.kind = .function
  glob : X.env.globals = mainGlobals
  blt : X.env.builtins = builtinsNs
  above : X.s₀.heap.objs.size ≤ X.env.locals
  inj : ∀ x y c, X.env.cells.lookup x = some c → X.env.cells.lookup y = some c → x = y
  has : ∀ x, (X.env.kindOf x = some .cell ∨ X.env.kindOf x = some .free) → ∃ c, X.env.cells.lookup x = some c
  cab : ∀ x c, X.fn x = true → X.env.cells.lookup x = some c → X.s₀.heap.objs.size ≤ c
  hd : X.calm = true → X.A.handled = none
  frames : X.A.frames = some X.stack
  stk : X.stack = X.outer ∨ (X.stack = X.env :: X.outer ∧ X.env.frame = some X.env.locals)
  exf : ∀ b ∈ X.ex, b ≠ X.env.locals ∧ ∀ x c, X.env.cells.lookup x = some c → c ≠ b
  bs : ∀ b o, X.base.get? b = some o → X.s₀.heap.get? b = some o ∧ X.H₀ b = none
  bsz : X.base.objs.size ≤ X.s₀.heap.objs.size
  noex : ∀ b o, X.base.get? b = some o → b ∉ X.ex
  exfs : ∀ b ∈ X.ex, b ∉ X.fs
  funs : X.s₀.heap.FunFrames X.base X.outer
  frf : ∀ b ∈ X.fs, X.H₀ b = none
structure Inv (X : Cx) (pins : List (Addr × Obj)) (σ : List (Option V)) (H : Hp) (s : Shared) : Prop where
  ok : X.Ok
  os : s.os = X.s₀.os
  bare : AllBare s.gens
  base : Un X.fs X.ex X.H₀ H X.s₀.heap s.heap
  loc : ∃ m, s.heap.Ns X.env.locals m ∧ ∀ (i : Nat) (x : Str) (v : V), X.N[i]? = some x → σ[i]? = some (some v) → Vis X.env.scope x → ∃ u, RelV v u ∧ Look X.env s.heap m x u
  cell : ∀ x c, X.env.cells.lookup x = some c → ∃ v, s.heap.IsCell c v
  free : H X.env.locals = none
  freeC : ∀ x c, X.env.cells.lookup x = some c → H c = none
  pin : ∀ p ∈ X.pn ++ pins, s.heap.get? p.1 = some p.2 ∧ H p.1 = none ∧ p.1 ≠ X.env.locals ∧ p.1 ∉ X.fs ∧ ∀ v, p.2.data ≠ .cell v
  hok : HOk X.prog X.w H s.heap
  len : σ.length = X.N.length
section
variable {X : Cx} {pins : List (Addr × Obj)} {σ : List (Option V)} {H H' : Hp} {s : Shared} {h' : Heap}
theorem Cx.Ok.nofr (ok : X.Ok) {b : Addr} {o : Obj} (e : X.base.get? b = some o) : b ∉ X.fs := fun hb => by
  have := (ok.funs.mem hb).1
  rw [e] at this; cases this
theorem Inv.bs (I : Inv X pins σ H s) : ∀ b o, X.base.get? b = some o → s.heap.get? b = some o ∧ H b = none := fun b o e =>
  ⟨I.base.keep b o (I.ok.bs b o e).1 (I.ok.bs b o e).2 (I.ok.nofr e) (I.ok.noex b o e), I.base.free b o (I.ok.bs b o e).1 (I.ok.bs b o e).2 (I.ok.noex b o e)⟩
theorem Inv.bk (I : Inv X pins σ H s) : ∀ b o, X.base.get? b = some o → s.heap.get? b = some o := fun b o e => (I.bs b o e).1
theorem Inv.mod (I : Inv X pins σ H s) : Mod X.K X.mg X.base := I.ok.mod
theorem Inv.kIn (I : Inv X pins σ H s) : X.K.In s.heap := I.ok.mod.kin.keeps I.bk
theorem Inv.nolimit (I : Inv X pins σ H s) : s.heap.NoLimit := I.ok.mod.nolimit.keeps I.bk
theorem Inv.fr (I : Inv X pins σ H s) : ∃ m, Fr X.base X.env.locals s.heap m :=
  let ⟨m, hn, _⟩ := I.loc
  ⟨m, hn, I.bk, Nat.le_trans I.ok.bsz I.ok.above⟩
theorem Inv.lt (I : Inv X pins σ H s) : X.env.locals < s.heap.objs.size := let ⟨_, hn, _⟩ := I.loc; hn.lt
theorem Inv.sz (I : Inv X pins σ H s) : X.s₀.heap.objs.size ≤ s.heap.objs.size := Nat.le_trans I.ok.above (Nat.le_of_lt I.lt)
theorem Inv.nofs (I : Inv X pins σ H s) {a : Addr} (h : s.heap.objs.size ≤ a) : a ∉ X.fs := fun hb => by
  obtain ⟨_, o, ho, _⟩ := I.ok.funs.mem hb
  exact absurd (Nat.lt_of_lt_of_le (Heap.lt_size ho) (Nat.le_trans I.sz h)) (Nat.lt_irrefl _)
theorem Inv.cne (I : Inv X pins σ H s) : ∀ x c, X.env.cells.lookup x = some c → c ≠ X.env.locals := fun x c e z => by
  obtain ⟨v, o, ho, hd⟩ := I.cell x c e
  obtain ⟨m, ⟨o', es, ep, ho', hd', _⟩, _⟩ := I.loc
  rw [z, ho'] at ho; cases ho; rw [hd'] at hd; cases hd
theorem Inv.funs (I : Inv X pins σ H s) : s.heap.FunFrames X.base X.outer := by
  have all : ∀ (l : List Env), (∀ b ∈ frs l, b ∈ X.fs) → X.s₀.heap.FunFrames X.base l → s.heap.FunFrames X.base l := by
    intro l
    induction l with
    | nil => intro _ _; trivial
    | cons env r ih =>
      intro hs hl
      obtain ⟨hk, ⟨L, o, hf, hn, ho, hd⟩, hr⟩ := hl
      have hL : L ∈ X.fs := hs L (by unfold frs; rw [List.filterMap_cons, hf]; exact List.mem_cons_self)
      obtain ⟨sl, e⟩ := I.base.slot L o ho (I.ok.frf L hL) hL fun z => I.ok.exfs L z hL
      exact ⟨hk, ⟨L, _, hf, hn, e, hd⟩, ih (fun b hb => hs b (by unfold frs; rw [List.filterMap_cons, hf]; exact List.mem_cons_of_mem _ hb)) hr⟩
  exact all X.outer (fun _ hb => hb) I.ok.funs
theorem Inv.stack (I : Inv X pins σ H s) : s.heap.FunFrames X.base X.stack := by
  rcases I.ok.stk with e | ⟨e, hf⟩
  · rw [e]; exact I.funs
  · rw [e]
    obtain ⟨m, hn, _⟩ := I.loc
    refine .cons (by rw [I.ok.kind]; decide) hf hn ?_ I.funs
    exact Heap.get?_none_of_le (Nat.le_trans I.ok.bsz I.ok.above)
theorem Inv.stkSub (I : Inv X pins σ H s) : ∀ b ∈ frs X.stack, b ∈ X.env.locals :: X.fs := fun b hb => by
  rcases I.ok.stk with e | ⟨e, hf⟩
  · rw [e] at hb; exact List.mem_cons_of_mem _ hb
  · rw [e] at hb
    unfold frs at hb
    rw [List.filterMap_cons, hf] at hb
    exact hb
theorem Inv.stkFree (I : Inv X pins σ H s) : ∀ b ∈ frs X.stack, H b = none := fun b hb => by
  rcases List.mem_cons.mp (I.stkSub b hb) with e | hb
  · rw [e]; exact I.free
  · obtain ⟨_, o, ho, _⟩ := I.ok.funs.mem hb
    exact I.base.free b o ho (I.ok.frf b hb) fun z => I.ok.exfs b z hb
theorem Inv.step {g' : Array GenState} {t' : Nat} {d' : Drawn} {ch : List Addr} (I : Inv X pins σ H s)
    (hch : ∀ b ∈ ch, (b ∈ X.ex ∨ X.s₀.heap.objs.size ≤ b) ∧ b ≠ X.env.locals ∧ (∀ x c, X.env.cells.lookup x = some c → c ≠ b) ∧ ∀ p ∈ X.pn ++ pins, p.1 ≠ b)
    (keep : ∀ b o, b ≠ X.env.locals → b ∉ X.fs → b ∉ ch → s.heap.get? b = some o → H b = none → h'.get? b = some o)
    (slot : ∀ b o, b ≠ X.env.locals → b ∈ X.fs → b ∉ ch → s.heap.get? b = some o → H b = none → ∃ sl, h'.get? b = some { o with slots := sl }) (free : ∀ b o, b ∉ ch → s.heap.get? b = some o → H b = none → H' b = none)
    (there : ∀ b o, b ∉ ch → s.heap.get? b = some o → ∃ o', h'.get? b = some o')
    (tups : ∀ b xs, H b = some (.tup xs) → H' b = some (.tup xs)) (frzs : ∀ b o u, H b = some (.frz o u) → H' b = some (.frz o u)) (tbls : ∀ b ps, H b = some (.tbl ps) → ∃ more, H' b = some (.tbl (ps ++ more)))
    (ns : ∀ m, s.heap.Ns X.env.locals m → h'.Ns X.env.locals m) (hok : HOk X.prog X.w H' h') (hg : AllBare g') :
    Inv X pins σ H' { s with heap := h', gens := g', drawn := d', toks := t' } := by
  have neL : ∀ b o, X.s₀.heap.get? b = some o → b ≠ X.env.locals := fun b o e => Nat.ne_of_lt (Nat.lt_of_lt_of_le (Heap.lt_size e) I.ok.above)
  have neC : ∀ b o, X.s₀.heap.get? b = some o → b ∉ X.ex → b ∉ ch := fun b o e hx hb => by
    rcases (hch b hb).1 with z | z
    · exact hx z
    · exact absurd (Nat.lt_of_lt_of_le (Heap.lt_size e) z) (Nat.lt_irrefl _)
  have cellK : ∀ x c, X.env.cells.lookup x = some c → ∀ v, s.heap.IsCell c v → h'.IsCell c v := fun x c e v ⟨o, ho, hd⟩ => by
    have nch : c ∉ ch := fun z => (hch c z).2.2.1 x c e rfl
    by_cases hc : c ∈ X.fs
    · obtain ⟨sl, q⟩ := slot c o (I.cne x c e) hc nch ho (I.freeC x c e)
      exact ⟨_, q, hd⟩
    · exact ⟨o, keep c o (I.cne x c e) hc nch ho (I.freeC x c e), hd⟩
  refine ⟨I.ok, I.os, hg, ⟨fun b o e n hb hx => ?_, fun b o e n hb hx => ?_, fun b o e n hx => ?_, fun b o e hx => ?_, fun b xs e => tups b xs (I.base.tups b xs e), fun b o xs e => frzs b o xs (I.base.frzs b o xs e), fun b ps e => ?_⟩, ?_, fun x c e => ?_, ?_, fun x c e => ?_, fun p hp => ?_, hok, I.len⟩
  · exact keep b o (neL b o e) hb (neC b o e hx) (I.base.keep b o e n hb hx) (I.base.free b o e n hx)
  · obtain ⟨sl, e1⟩ := I.base.slot b o e n hb hx
    obtain ⟨sl', e2⟩ := slot b _ (neL b o e) hb (neC b o e hx) e1 (I.base.free b o e n hx)
    exact ⟨sl', e2⟩
  · obtain ⟨o', e1⟩ := I.base.there b o e hx
    exact free b o' (neC b o e hx) e1 (I.base.free b o e n hx)
  · obtain ⟨o', e1⟩ := I.base.there b o e hx
    exact there b o' (neC b o e hx) e1
  · obtain ⟨m1, e1⟩ := I.base.tbls b ps e
    obtain ⟨m2, e2⟩ := tbls b _ e1
    exact ⟨m1 ++ m2, by rw [e2, Array.append_assoc]⟩
  · obtain ⟨m, hn, hl⟩ := I.loc
    refine ⟨m, ns m hn, fun i x v e1 e2 e3 => ?_⟩
    obtain ⟨u, r, l⟩ := hl i x v e1 e2 e3
    refine ⟨u, r, ?_⟩
    rcases l with l | ⟨k, c, e, z⟩
    · exact .inl l
    · exact .inr ⟨k, c, e, cellK x c e _ z⟩
  · obtain ⟨v, z⟩ := I.cell x c e
    exact ⟨v, cellK x c e v z⟩
  · obtain ⟨m, ⟨o, _, _, ho, _⟩, _⟩ := I.loc
    exact free _ o (fun z => (hch _ z).2.1 rfl) ho I.free
  · obtain ⟨v, o, ho, hd⟩ := I.cell x c e
    exact free c o (fun z => (hch c z).2.2.1 x c e rfl) ho (I.freeC x c e)
  · obtain ⟨e, n, ne, nf, d⟩ := I.pin p hp
    have nch : p.1 ∉ ch := fun z => (hch p.1 z).2.2.2 p hp rfl
    exact ⟨keep p.1 p.2 ne nf nch e n, free p.1 p.2 nch e n, ne, nf, d⟩
theorem Inv.un {t' : Nat} (I : Inv X pins σ H s) (u : Un X.fs [] H H' s.heap h') (hok : HOk X.prog X.w H' h') : Inv X pins σ H' { s with heap := h', toks := t' } := by
  obtain ⟨m, ⟨o, es, ep, ho, r⟩, _⟩ := id I.loc
  obtain ⟨sl, hL⟩ := u.any ho I.free (by simp)
  exact I.step (g' := s.gens) (d' := s.drawn) (ch := []) (fun _ z => nomatch z) (fun b o _ hb _ e n => u.keep b o e n hb (by simp)) (fun b o _ hb _ e n => u.slot b o e n hb (by simp)) (fun b o _ e n => u.free b o e n (by simp)) (fun b o _ e => u.there b o e (by simp)) u.tups u.frzs u.tbls (fun m' hm => by
    obtain ⟨o', es', ep', ho', r'⟩ := hm
    rw [ho] at ho'; cases ho'
    exact ⟨_, es', ep', hL, r'⟩) hok I.bare
theorem Inv.call {g' : Array GenState} {t' : Nat} {d' : Drawn} {ch : List Addr} (I : Inv X pins σ H s) (u : Un (frs X.stack) ch H H' s.heap h') (hok : HOk X.prog X.w H' h') (hg : AllBare g')
    (hch : ∀ b ∈ ch, (b ∈ X.ex ∨ X.s₀.heap.objs.size ≤ b) ∧ b ≠ X.env.locals ∧ (∀ x c, X.env.cells.lookup x = some c → c ≠ b) ∧ ∀ p ∈ X.pn ++ pins, p.1 ≠ b) :
    Inv X pins σ H' { s with heap := h', gens := g', drawn := d', toks := t' } := by
  obtain ⟨m, ⟨o, es, ep, ho, r⟩, _⟩ := id I.loc
  obtain ⟨sl, hL⟩ := u.any ho I.free fun z => (hch _ z).2.1 rfl
  exact I.step (ch := ch) hch (fun b o hL hb hc e n => u.keep b o e n (fun z => (List.mem_cons.mp (I.stkSub b z)).elim hL hb) hc) (fun b o _ _ hc e n => u.any e n hc) (fun b o hc e n => u.free b o e n hc) (fun b o hc e => u.there b o e hc) u.tups u.frzs u.tbls (fun m' hm => by
    obtain ⟨o', es', ep', ho', r'⟩ := hm
    rw [ho] at ho'; cases ho'
    exact ⟨_, es', ep', hL, r'⟩) hok hg
theorem Inv.turned {t' : Nat} {it : Addr} (I : Inv X pins σ H s) (k : ∀ b o, b ≠ it → s.heap.get? b = some o → h'.get? b = some o) (hn : H it = none) (hL : it ≠ X.env.locals)
    (h1 : it ∈ X.ex ∨ X.s₀.heap.objs.size ≤ it) (h2 : ∀ x c, X.env.cells.lookup x = some c → c ≠ it) (h3 : ∀ p ∈ X.pn ++ pins, p.1 ≠ it) : Inv X pins σ H { s with heap := h', toks := t' } := by
  have nit : ∀ b u, H b = some u → b ≠ it := fun b u e z => by rw [z, hn] at e; cases e
  refine I.step (g' := s.gens) (d' := s.drawn) (ch := [it]) (fun b hb => ?_) (fun b o _ _ hc e _ => k b o (fun z => hc (by simp [z])) e) (fun b o _ _ hc e _ => ⟨o.slots, k b o (fun z => hc (by simp [z])) e⟩) (fun _ _ _ _ n => n)
    (fun b o hc e => ⟨o, k b o (fun z => hc (by simp [z])) e⟩) (fun _ _ e => e) (fun _ _ _ e => e) (fun b ps e => ⟨#[], by rw [e]; simp⟩) (fun m hm => ?_) (fun b u e => ?_) I.bare
  · have e : b = it := by simpa using hb
    subst e
    exact ⟨h1, hL, h2, h3⟩
  · obtain ⟨o, es, ep, ho, r⟩ := hm
    exact ⟨o, es, ep, k _ o (Ne.symm hL) ho, r⟩
  · refine (I.hok b u e).stay (fun c v hc q => k c v ?_ q) (fun _ q => q) fun _ _ q => q
    rcases hc with z | z
    · rw [z]; exact nit b u e
    · exact nit c _ z
theorem Inv.tok (I : Inv X pins σ H s) (t : Nat) : Inv X pins σ H { s with toks := t } := I.un (h' := s.heap) (t' := t) Un.refl I.hok
theorem Inv.kept {t' : Nat} (I : Inv X pins σ H s) (k : ∀ b u, s.heap.get? b = some u → h'.get? b = some u) : Inv X pins σ H { s with heap := h', toks := t' } := I.un (Un.kept k) (I.hok.kept k)
theorem Inv.laid {a : Addr} {o : HO} {t' : Nat} (I : Inv X pins σ H s) (k : ∀ b u, s.heap.get? b = some u → h'.get? b = some u) (hp : s.heap.objs.size ≤ a) (new : ObjOk X.prog X.w (upd H a o) h' a o) :
    Inv X pins σ (upd H a o) { s with heap := h', toks := t' } := I.un (Un.laid k hp (I.hok.fresh hp)) (I.hok.laid k hp new)
theorem Inv.write {x e : Addr} {o : HO} {t' : Nat} (I : Inv X pins σ H s) (mu : Mut (H x)) (he : e = x ∨ H e = some (.own x)) (k : ∀ b u, b ≠ e → s.heap.get? b = some u → h'.get? b = some u) (heo : ∃ u, h'.get? e = some u)
    (new : ObjOk X.prog X.w (upd H x o) h' x o) : Inv X pins σ (upd H x o) { s with heap := h', toks := t' } := I.un (Un.write mu he k heo) (I.hok.write mu he k heo new)
theorem Inv.pins_of {pins' : List (Addr × Obj)} (I : Inv X pins σ H s) (h : ∀ p ∈ pins', s.heap.get? p.1 = some p.2 ∧ H p.1 = none ∧ p.1 ≠ X.env.locals ∧ p.1 ∉ X.fs ∧ ∀ v, p.2.data ≠ .cell v) : Inv X pins' σ H s :=
  ⟨I.ok, I.os, I.bare, I.base, I.loc, I.cell, I.free, I.freeC, fun p hp => (List.mem_append.mp hp).elim (fun z => I.pin p (List.mem_append_left _ z)) (h p), I.hok, I.len⟩
theorem nodup_ix {N : List Str} (hN : N.Nodup) {i j : Nat} {x : Str} (a : N[i]? = some x) (b : N[j]? = some x) : i = j := by
  obtain ⟨h1, e1⟩ := List.getElem?_eq_some_iff.mp a
  obtain ⟨h2, e2⟩ := List.getElem?_eq_some_iff.mp b
  exact (List.getElem_inj hN).mp (e1.trans e2.symm)
theorem store_ok2 {M : Model} {A : Around} {E : Value → Shared → Prop} {i : Nat} {x : Str} {v : V} {u : Value} {Q : Unit → Shared → Prop} (I : Inv X pins σ H s) (hN : X.N.Nodup) (hi : X.N[i]? = some x) (hx : Loc X.env.scope x) (r : RelV v u)
    (h : ∀ s', Inv X pins (σ.set i (some v)) H s' → (∃ a, Heap.SameBut a s.heap s'.heap ∧ (a = X.env.locals ∨ X.env.cells.lookup x = some a)) → Q () s') (hf : X.fn x = true ∨ X.env.scope.names.lookup x = some .local := by first | exact .inl rfl | exact .inr rfl | assumption) : wpAny M A (storeName X.env x u) Q E s := by
  obtain ⟨m, hn, hl⟩ := id I.loc
  have hcls : (X.env.scope.kind == .class || (X.env.scope.kind == .module && X.env.locals != X.env.globals)) = false := by rw [I.ok.kind]; rfl
  have hiσ : i < σ.length := by rw [I.len]; exact (List.getElem?_eq_some_iff.mp hi).1
  have cne := I.cne
  have tracked : ∀ {a : Addr} {h' : Heap}, (∃ o, s.heap.get? a = some o ∧ H a = none) → Heap.SameBut a s.heap h' → HOk X.prog X.w H h' := fun {a h'} ha hs b ob e => by
    obtain ⟨_, _, hfree⟩ := ha
    refine (I.hok b ob e).stay (fun c w' hc q => (hs.2 c ?_).trans q) (fun _ q => q) fun _ _ q => q
    rintro rfl
    rcases hc with rfl | hc
    · rw [hfree] at e; cases e
    · rw [hfree] at hc; cases hc
  rcases hx with hk | hk
  · refine wpAny_storeName_local hk hn (fun h' hn' hs => ?_) hcls
    obtain ⟨oL, _, _, hoL, _⟩ := id hn
    refine h _ ⟨I.ok, I.os, I.bare, ⟨fun b o e n hb hx => ?_, fun b o e n hb hx => ?_, I.base.free, fun b o e hx => ?_, I.base.tups, I.base.frzs, I.base.tbls⟩, ⟨_, hn', fun j y v' e1 e2 e3 => ?_⟩, fun y c e => ?_, I.free, I.freeC, fun p hp => ?_, tracked ⟨oL, hoL, I.free⟩ hs, by simpa using I.len⟩ ⟨_, hs, .inl rfl⟩
    · exact (hs.2 b (Nat.ne_of_lt (Nat.lt_of_lt_of_le (Heap.lt_size e) I.ok.above))).trans (I.base.keep b o e n hb hx)
    · obtain ⟨sl, e1⟩ := I.base.slot b o e n hb hx
      exact ⟨sl, (hs.2 b (Nat.ne_of_lt (Nat.lt_of_lt_of_le (Heap.lt_size e) I.ok.above))).trans e1⟩
    · obtain ⟨o', e1⟩ := I.base.there b o e hx
      exact ⟨o', (hs.2 b (Nat.ne_of_lt (Nat.lt_of_lt_of_le (Heap.lt_size e) I.ok.above))).trans e1⟩
    · by_cases hj : j = i
      · subst hj
        rw [hi] at e1; cases e1
        rw [List.getElem?_set_self hiσ] at e2
        cases e2
        exact ⟨u, r, .inl ⟨hk, by simp⟩⟩
      · rw [List.getElem?_set_ne (Ne.symm hj)] at e2
        obtain ⟨u', r', q⟩ := hl j y v' e1 e2 e3
        refine ⟨u', r', ?_⟩
        rcases q with ⟨k, e⟩ | ⟨k, c, e, z⟩
        · refine .inl ⟨k, ?_⟩
          have : y ≠ x := fun e => hj (nodup_ix hN e1 (e ▸ hi))
          simp [this, e]
        · exact .inr ⟨k, c, e, z.sameBut hs (cne y c e)⟩
    · obtain ⟨w', z⟩ := I.cell y c e
      exact ⟨w', z.sameBut hs (cne y c e)⟩
    · obtain ⟨e, n, ne, nf, d⟩ := I.pin p hp
      exact ⟨(hs.2 p.1 ne).trans e, n, ne, nf, d⟩
  · have hfn : X.fn x = true := by
      rcases hf with z | z
      · exact z
      · rw [z] at hk; cases hk
    obtain ⟨c, hc⟩ := I.ok.has x (.inl hk)
    obtain ⟨w', z⟩ := I.cell x c hc
    refine wpAny_storeName_cell I.ok.kind hk hc z (fun h' hc' hs => ?_)
    obtain ⟨oc, hoc, hocd⟩ := id z
    refine h { s with heap := h' } ⟨I.ok, I.os, I.bare, ⟨fun b o e n hb hx => ?_, fun b o e n hb hx => ?_, I.base.free, fun b o e hx => ?_, I.base.tups, I.base.frzs, I.base.tbls⟩, ⟨m, hn.sameBut hs (Ne.symm (cne x c hc)), fun j y v' e1 e2 e3 => ?_⟩, fun y c' e => ?_, I.free, I.freeC, fun p hp => ?_, tracked ⟨oc, hoc, I.freeC x c hc⟩ hs, by simpa using I.len⟩ ⟨c, hs, .inr hc⟩
    · exact (hs.2 b (Nat.ne_of_lt (Nat.lt_of_lt_of_le (Heap.lt_size e) (I.ok.cab x c hfn hc)))).trans (I.base.keep b o e n hb hx)
    · obtain ⟨sl, e1⟩ := I.base.slot b o e n hb hx
      exact ⟨sl, (hs.2 b (Nat.ne_of_lt (Nat.lt_of_lt_of_le (Heap.lt_size e) (I.ok.cab x c hfn hc)))).trans e1⟩
    · obtain ⟨o', e1⟩ := I.base.there b o e hx
      exact ⟨o', (hs.2 b (Nat.ne_of_lt (Nat.lt_of_lt_of_le (Heap.lt_size e) (I.ok.cab x c hfn hc)))).trans e1⟩
    · by_cases hj : j = i
      · subst hj
        rw [hi] at e1; cases e1
        rw [List.getElem?_set_self hiσ] at e2
        cases e2
        exact ⟨u, r, .inr ⟨.inl hk, c, hc, hc'⟩⟩
      · rw [List.getElem?_set_ne (Ne.symm hj)] at e2
        obtain ⟨u', r', q⟩ := hl j y v' e1 e2 e3
        refine ⟨u', r', ?_⟩
        rcases q with q | ⟨k, c', e, z'⟩
        · exact .inl q
        · refine .inr ⟨k, c', e, z'.sameBut hs ?_⟩
          rintro rfl
          exact hj (nodup_ix hN e1 (I.ok.inj _ _ _ e hc ▸ hi))
    · by_cases hcc : c' = c
      · subst hcc; exact ⟨_, hc'⟩
      · obtain ⟨w2, z2⟩ := I.cell y c' e
        exact ⟨w2, z2.sameBut hs hcc⟩
    · obtain ⟨e, n, ne, nf, d⟩ := I.pin p hp
      refine ⟨(hs.2 p.1 ?_).trans e, n, ne, nf, d⟩
      intro q
      rw [q, hoc] at e
      have q' : oc = p.2 := Option.some.inj e
      exact d w' (by rw [← q']; exact hocd)
theorem store_ok {M : Model} {A : Around} {E : Value → Shared → Prop} {i : Nat} {x : Str} {v : V} {u : Value} {Q : Unit → Shared → Prop} (I : Inv X pins σ H s) (hN : X.N.Nodup) (hi : X.N[i]? = some x) (hx : Loc X.env.scope x) (r : RelV v u)
    (h : ∀ s', Inv X pins (σ.set i (some v)) H s' → Q () s') (hf : X.fn x = true ∨ X.env.scope.names.lookup x = some .local := by first | exact .inl rfl | exact .inr rfl | assumption) : wpAny M A (storeName X.env x u) Q E s :=
  store_ok2 I hN hi hx r (fun s' I' _ => h s' I') hf
theorem Inv.call' {s' : Shared} {ch : List Addr} (I : Inv X pins σ H s) (ho : s'.os = s.os) (u : Un (frs X.stack) ch H H' s.heap s'.heap) (hok : HOk X.prog X.w H' s'.heap) (hg : AllBare s'.gens)
    (hch : ∀ b ∈ ch, (b ∈ X.ex ∨ X.s₀.heap.objs.size ≤ b) ∧ b ≠ X.env.locals ∧ (∀ x c, X.env.cells.lookup x = some c → c ≠ b) ∧ ∀ p ∈ X.pn ++ pins, p.1 ≠ b) : Inv X pins σ H' s' := by
  obtain ⟨h', g', d', t', o'⟩ := s'
  have e : o' = s.os := ho
  subst e
  exact I.call (g' := g') (t' := t') (d' := d') u hok hg hch
end
abbrev XK := Value → Option Addr → Hp → Prop
abbrev St := List (Option V)
abbrev VK := V → Hp → Prop
abbrev TE := St → Hp → VK → Prop
abbrev TT := St → Hp → (Bool → Hp → Prop) → Prop
abbrev TA := St → Hp → (List V → Hp → Prop) → Prop
structure Ends where
  nx : St → Hp → Prop
  rt : VK
  bk : St → Hp → Prop := fun _ _ => False
  ct : St → Hp → Prop := fun _ _ => False
abbrev TS := Ends → St → Hp → Prop
def EP (X : Cx) (pins : List (Addr × Obj)) (σ : St) (Q : VK) (u : Value) (s' : Shared) : Prop := ∃ v H', Inv X pins σ H' s' ∧ RelV v u ∧ Q v H'
def TP (X : Cx) (pins : List (Addr × Obj)) (σ : St) (Q : Bool → Hp → Prop) (b : Bool) (s' : Shared) : Prop := ∃ H', Inv X pins σ H' s' ∧ Q b H'
def AP (X : Cx) (pins : List (Addr × Obj)) (σ : St) (Q : List V → Hp → Prop) (us : List Value) (s' : Shared) : Prop := ∃ vs H', Inv X pins σ H' s' ∧ Vals vs us ∧ Q vs H'
def SP (X : Cx) (pins : List (Addr × Obj)) (D : Ends) (f : Flow) (s' : Shared) : Prop :=
  match f with
  | .next => ∃ σ' H', Inv X pins σ' H' s' ∧ D.nx σ' H'
  | .brk => ∃ σ' H', Inv X pins σ' H' s' ∧ D.bk σ' H'
  | .cont => ∃ σ' H', Inv X pins σ' H' s' ∧ D.ct σ' H'
  | .ret u => ∃ v σ' H', Inv X pins σ' H' s' ∧ RelV v u ∧ D.rt v H'
def PE (X : Cx) (e : Expr) (t : TE) : Prop :=
  ∀ (pins : List (Addr × Obj)) (s : Shared) (σ : St) (H : Hp) (Q : VK), Inv X pins σ H s → t σ H Q → wpAny (model X.prog X.w) X.A (eval e X.env) (EP X pins σ Q) X.xe s
def PT (X : Cx) (e : Expr) (t : TT) : Prop :=
  ∀ (pins : List (Addr × Obj)) (s : Shared) (σ : St) (H : Hp) (Q : Bool → Hp → Prop), Inv X pins σ H s → t σ H Q → wpAny (model X.prog X.w) X.A (isTrue e X.env (eval e X.env)) (TP X pins σ Q) X.xe s
def PW (X : Cx) (e : Expr) (t : TT) : Prop :=
  ∀ (whole : Sem Value) (pins : List (Addr × Obj)) (s : Shared) (σ : St) (H : Hp) (Q : Bool → Hp → Prop), Inv X pins σ H s → t σ H Q → wpAny (model X.prog X.w) X.A (isTrue e X.env whole) (TP X pins σ Q) X.xe s
theorem PW.pt {X : Cx} {e : Expr} {t : TT} (h : PW X e t) : PT X e t := h _
def PA (X : Cx) (es : List Expr) (t : TA) : Prop :=
  ∀ (pos : Pos) (pins : List (Addr × Obj)) (s : Shared) (σ : St) (H : Hp) (Q : List V → Hp → Prop), Inv X pins σ H s → t σ H Q → wpAny (model X.prog X.w) X.A (spliced (backTo pos (starEach es X.env))) (AP X pins σ Q) X.xe s
def PS (X : Cx) (st : Stmt) (t : TS) : Prop :=
  ∀ (pins : List (Addr × Obj)) (s : Shared) (σ : St) (H : Hp) (D : Ends), Inv X pins σ H s → t D σ H → wpAny (model X.prog X.w) X.A (exec st X.env) (SP X pins D) X.xe s
def PSs (X : Cx) (st : List Stmt) (t : TS) : Prop :=
  ∀ (pins : List (Addr × Obj)) (s : Shared) (σ : St) (H : Hp) (D : Ends), Inv X pins σ H s → t D σ H → wpAny (model X.prog X.w) X.A (execs st X.env) (SP X pins D) X.xe s
theorem thn {α : Type} {t : Sem α} {Q Q' : α → Shared → Prop} {M : Model} {A : Around} {E : Value → Shared → Prop} {s : Shared} (h : wpAny M A t Q E s) (hQ : ∀ a s, Q a s → Q' a s) : wpAny M A t Q' E s := wpAny_mono h hQ fun _ _ x => x
end L2
namespace L2
open PySem PySem.Spec PyProof.Rows
section
variable {X : Cx}
def tVar (i : Nat) : TE := fun σ H Q => ∃ v, σ[i]? = some (some v) ∧ Q v H
def tC (v : V) : TE := fun _ H Q => Q v H
theorem pe_var {i : Nat} {x : Str} {pos : Pos} (hN : X.N[i]? = some x) (hv : Vis X.env.scope x) (hd : (x == ("__debug__" : Str)) = false := by decide) (hcd : (x == ("__classdict__" : Str)) = false := by decide) : PE X (.Name x pos) (tVar i) := by
  intro pins s σ H Q I h
  obtain ⟨v, e, h⟩ := h
  obtain ⟨m, hn, hl⟩ := I.loc
  obtain ⟨u, r, l⟩ := hl i x v hN e hv
  have fin : EP X pins σ Q u s := ⟨v, H, I, r, h⟩
  rcases l with ⟨hk, hm⟩ | ⟨hk, c, hc, hcell⟩
  · exact wpAny_Name (wpAny_loadName_local I.ok.kind hk hn hm fin) hd
  · rcases hk with hk | hk
    · exact wpAny_Name (wpAny_loadName_cell I.ok.kind hk hc hcell fin) hd
    · exact wpAny_Name (wpAny_loadName_free I.ok.kind hk hc hcell fin hcd) hd
theorem pe_int {i j pos} : PE X (.Constant (.int i) j pos) (tC (.int i)) := fun _ _ _ H _ I h => wpAny_Constant_int ⟨.int i, H, I.tok _, ⟨_, rfl⟩, h⟩
theorem pe_bl {b j pos} : PE X (.Constant (.bool b) j pos) (tC (.bl b)) := fun _ _ _ H _ I h => Constant_bool ⟨.bl b, H, I, rfl, h⟩
theorem pe_str {x j pos} : PE X (.Constant (.str x) j pos) (tC (.str x)) := fun _ _ _ H _ I h => Calls.Constant_str ⟨.str x, H, I.tok _, ⟨_, rfl⟩, h⟩
def Gl (X : Cx) (x : Str) : Prop := X.env.kindOf x = some .globalImplicit
theorem ld_glob {E : Value → Shared → Prop} {pins : List (Addr × Obj)} {s : Shared} {σ : St} {H : Hp} {x : Str} {u : Value} {pos : Pos} {Q : Value → Shared → Prop} (I : Inv X pins σ H s) (hg : Gl X x) (hm : X.mg x = some u) (h : Q u s)
    (hd : (x == ("__debug__" : Str)) = false := by decide) : wpAny (model X.prog X.w) X.A (eval (.Name x pos) X.env) Q E s :=
  Calls.Name_function_global I.ok.kind hg (Calls.loadGlobal_global (by rw [I.ok.glob]; exact I.mod.glob.keeps I.bk) hm h) hd
theorem ld_blt {E : Value → Shared → Prop} {pins : List (Addr × Obj)} {s : Shared} {σ : St} {H : Hp} {x : Str} {u : Value} {pos : Pos} {Q : Value → Shared → Prop} (I : Inv X pins σ H s) (hg : Gl X x) (hm : X.mg x = none) (hv : bootBuiltins x = some u) (h : Q u s)
    (hn : x ≠ "__name__" := by decide) (hd : (x == ("__debug__" : Str)) = false := by decide) : wpAny (model X.prog X.w) X.A (eval (.Name x pos) X.env) Q E s := by
  obtain ⟨mb, h1, h2⟩ := I.mod.blt
  exact Calls.Name_function_global I.ok.kind hg (Calls.loadGlobal_builtin (by rw [I.ok.glob]; exact I.mod.glob.keeps I.bk) hm (by rw [I.ok.blt]; exact h1.keeps I.bk) ((h2 x hn).trans hv) h) hd
theorem pe_bltn {x : Str} {v : V} {u : Value} {pos : Pos} (hg : Gl X x) (hm : X.mg x = none) (hv : bootBuiltins x = some u) (r : RelV v u) (hn : x ≠ "__name__" := by decide) (hd : (x == ("__debug__" : Str)) = false := by decide) : PE X (.Name x pos) (tC v) :=
  fun _ _ _ H _ I h => ld_blt I hg hm hv ⟨v, H, I, r, h⟩ hn hd
variable {a b : Expr} {ta tb : TE} {pos : Pos}
def tB (t : TE) : TT := fun σ H Q => t σ H fun x H1 => ∃ c, x = .bl c ∧ Q c H1
theorem pt_val {e : Expr} {t : TE} (h : PE X e t) (he : ∀ whole, isTrue e X.env whole = (do let v ← whole; standAt e.pos; holding [v] (truthy v)) := by intro _; rfl) : PT X e (tB t) := by
  intro pins s σ H Q I hw
  refine isTrue_plain (thn (h pins s σ H _ I hw) fun v s1 ⟨x, H1, I1, r1, q1⟩ => ?_) (he _)
  obtain ⟨d, rfl, q⟩ := q1
  cases r1
  exact wpAny_truthy_bool ⟨H1, I1, q⟩
variable {tA tB' : TT} {rest : List Expr}
def tAnd (t u : TT) : TT := fun σ H Q => t σ H fun c H1 => if c = true then u σ H1 Q else Q false H1
def tOr (t u : TT) : TT := fun σ H Q => t σ H fun c H1 => if c = true then Q true H1 else u σ H1 Q
def tNot (t : TT) : TT := fun σ H Q => t σ H fun c H1 => Q (!c) H1
theorem pw_and1 (ha : PT X a tA) : PW X (.BoolOp .And [a] pos) tA := by
  intro wh pins s σ H Q I h
  refine isTrue_and (thn (ha pins s σ H Q I h) fun c s1 e => ?_)
  cases c with
  | true => exact isTrue_and_nil e
  | false => exact e
theorem pw_or1 (ha : PT X a tA) : PW X (.BoolOp .Or [a] pos) tA := by
  intro wh pins s σ H Q I h
  refine isTrue_or (thn (ha pins s σ H Q I h) fun c s1 e => ?_)
  cases c with
  | false => exact isTrue_or_nil e
  | true => exact e
theorem pw_and (ha : PT X a tA) (hb : PW X (.BoolOp .And (b :: rest) pos) tB') : PW X (.BoolOp .And (a :: b :: rest) pos) (tAnd tA tB') := by
  intro wh pins s σ H Q I h
  refine isTrue_and (thn (ha pins s σ H _ I h) fun c s1 ⟨H1, I1, q1⟩ => ?_)
  cases c with
  | true => exact hb wh pins s1 σ H1 Q I1 q1
  | false => exact ⟨H1, I1, q1⟩
theorem pw_or (ha : PT X a tA) (hb : PW X (.BoolOp .Or (b :: rest) pos) tB') : PW X (.BoolOp .Or (a :: b :: rest) pos) (tOr tA tB') := by
  intro wh pins s σ H Q I h
  refine isTrue_or (thn (ha pins s σ H _ I h) fun c s1 ⟨H1, I1, q1⟩ => ?_)
  cases c with
  | true => exact ⟨H1, I1, q1⟩
  | false => exact hb wh pins s1 σ H1 Q I1 q1
theorem pt_not (ha : PT X a tA) : PT X (.UnaryOp .Not a pos) (tNot tA) := by
  intro pins s σ H Q I h
  exact isTrue_not (ha pins s σ H (fun c H1 => Q (!c) H1) I h)
def tAndV (ta tb : TE) : TE := fun σ H Q => ta σ H fun x H1 => ∃ c, x = .bl c ∧ if c = true then tb σ H1 Q else Q (.bl false) H1
def tNotV (ta : TE) : TE := fun σ H Q => ta σ H fun x H1 => ∃ c, x = .bl c ∧ Q (.bl (!c)) H1
theorem pe_one {op} {t : TE} (h : PE X a t) : PE X (.BoolOp op [a] pos) t := fun pins s σ H Q I hw => BoolOp_one (h pins s σ H Q I hw)
theorem pe_and (ha : PE X a ta) (hb : PE X (.BoolOp .And (b :: rest) pos) tb) : PE X (.BoolOp .And (a :: b :: rest) pos) (tAndV ta tb) := by
  intro pins s σ H Q I h
  refine BoolOp_and (thn (ha pins s σ H _ I h) fun v s1 ⟨x, H1, I1, r1, q1⟩ => ?_)
  obtain ⟨c, rfl, q1⟩ := q1
  cases r1
  refine wpAny_truthy_bool ?_
  cases c with
  | true => exact hb pins s1 σ H1 Q I1 q1
  | false => exact ⟨.bl false, H1, I1, rfl, q1⟩
theorem pe_not (ha : PE X a ta) : PE X (.UnaryOp .Not a pos) (tNotV ta) := by
  intro pins s σ H Q I h
  refine UnaryOp_ (thn (ha pins s σ H _ I h) fun v s1 ⟨x, H1, I1, r1, q1⟩ => ?_)
  obtain ⟨c, rfl, q1⟩ := q1
  cases r1
  exact not_of (wpAny_truthy_bool ⟨.bl (!c), H1, I1, rfl, q1⟩)
end
end L2
namespace L2
open PySem PySem.Spec PyProof.Rows
def SqL (K : PySem.W.Frag) (H : Hp) (a : Addr) (xs : List V) : Prop :=
  Rd H a (.lst xs) ∨
    ∃ (o : Obj) (its : Array Value) (n : Nat), K.lookup a = some o ∧ o.cls = .type "list" ∧ o.dict = none ∧ o.data = .seq its n ∧ its.size ≤ sizeLine ∧ Vals xs its.toList
def SqT (K : PySem.W.Frag) (H : Hp) (a : Addr) (xs : List V) : Prop :=
  Rd H a (.tup xs) ∨
    ∃ (o : Obj) (its : Array Value) (n : Nat), K.lookup a = some o ∧ o.cls = .type "tuple" ∧ o.data = .seq its n ∧ its.size ≤ sizeLine ∧ Vals xs its.toList
def absV : Value → Option V
  | .none => some .non
  | .bool b => some (.bl b)
  | .int i _ => some (.int i)
  | .str x _ => some (.str x)
  | .bytes b _ => some (.byt b)
  | .float b _ => some (.flt b)
  | .ref a => some (.ref a)
  | .type n => some (.ty n)
  | _ => none
theorem RelV.abs {x : V} {u : Value} (r : RelV x u) : absV u = some x := by
  cases x with
  | non => cases r; rfl
  | bl _ => cases r; rfl
  | int _ => obtain ⟨t, rfl⟩ := r; rfl
  | str _ => obtain ⟨t, rfl⟩ := r; rfl
  | byt _ => obtain ⟨t, rfl⟩ := r; rfl
  | flt _ => obtain ⟨t, rfl⟩ := r; rfl
  | ref _ => cases r; rfl
  | ty _ => cases r; rfl
theorem RelV.inj {x y : V} {u : Value} (r : RelV x u) (q : RelV y u) : x = y := Option.some.inj (r.abs.symm.trans q.abs)
theorem Vals.inj : ∀ {xs ys : List V} {us : List Value}, Vals xs us → Vals ys us → xs = ys
  | _, _, _, .nil, .nil => rfl
  | _, _, _, .cons r t, .cons r' t' => by rw [r.inj r', Vals.inj t t']
section
variable {X : Cx} {pins : List (Addr × Obj)} {σ : St} {H : Hp} {s : Shared} {a : Addr} {xs ys : List V}
theorem SqL.of {K : PySem.W.Frag} (h : H a = some (.lst xs)) : SqL K H a xs := .inl (.inl h)
theorem SqT.of {K : PySem.W.Frag} (h : H a = some (.tup xs)) : SqT K H a xs := .inl (.inl h)
theorem Inv.list (I : Inv X pins σ H s) (h : SqL X.K H a xs) : ∃ its : List Value, Vals xs its ∧ PlainL s.heap a its.toArray ∧ xs.length ≤ sizeLine := by
  rcases h with h | ⟨o, its, n, hk, hc, hd, hs, hz, r⟩
  · obtain ⟨z, its, n, r, e⟩ := h.ok I.hok
    exact ⟨its, r, ⟨_, n, e, rfl, rfl, rfl⟩, z⟩
  · refine ⟨its.toList, r, ⟨o, n, I.kIn a o hk, hc, hd, by simpa using hs⟩, ?_⟩
    have e := r.length
    simp only [Array.length_toList] at e
    omega
theorem Inv.tuple (I : Inv X pins σ H s) (h : SqT X.K H a xs) : ∃ its : List Value, Vals xs its ∧ IsTup s.heap a its.toArray ∧ xs.length ≤ sizeLine := by
  rcases h with h | ⟨o, its, n, hk, hc, hs, hz, r⟩
  · obtain ⟨z, its, r, p⟩ := h.ok I.hok
    exact ⟨its, r, p, z⟩
  · refine ⟨its.toList, r, ⟨o, I.kIn a o hk, hc, n, by simpa using hs⟩, ?_⟩
    have e := r.length
    simp only [Array.length_toList] at e
    omega
theorem Inv.list_inj (I : Inv X pins σ H s) (h : SqL X.K H a xs) (h' : SqL X.K H a ys) : xs = ys := by
  obtain ⟨its, r, ⟨o, n, e, _, _, d⟩, _⟩ := I.list h
  obtain ⟨its', r', ⟨o', n', e', _, _, d'⟩, _⟩ := I.list h'
  rw [e] at e'; cases e'
  rw [d] at d'
  injection d' with d1 _
  have : its = its' := by simpa using congrArg Array.toList d1
  subst this
  exact r.inj r'
theorem Inv.tuple_inj (I : Inv X pins σ H s) (h : SqT X.K H a xs) (h' : SqT X.K H a ys) : xs = ys := by
  obtain ⟨its, r, ⟨o, e, _, n, d⟩, _⟩ := I.tuple h
  obtain ⟨its', r', ⟨o', e', _, n', d'⟩, _⟩ := I.tuple h'
  rw [e] at e'; cases e'
  rw [d] at d'
  injection d' with d1 _
  have : its = its' := by simpa using congrArg Array.toList d1
  subst this
  exact r.inj r'
end
abbrev Cx.wish (X : Cx) (E : Value → Shared → Prop) : Cx := { X with xe := E }
abbrev Cx.nox (X : Cx) : Cx := X.wish fun _ _ => False
theorem Cx.Ok.wish {X : Cx} (ok : X.Ok) (E : Value → Shared → Prop) : (X.wish E).Ok :=
  ⟨ok.mod, ok.kind, ok.glob, ok.blt, ok.above, ok.inj, ok.has, ok.cab, ok.hd, ok.frames, ok.stk, ok.exf, ok.bs, ok.bsz, ok.noex, ok.exfs, ok.funs, ok.frf⟩
theorem Cx.Ok.unwish {X : Cx} {E : Value → Shared → Prop} (ok : (X.wish E).Ok) : X.Ok :=
  ⟨ok.mod, ok.kind, ok.glob, ok.blt, ok.above, ok.inj, ok.has, ok.cab, ok.hd, ok.frames, ok.stk, ok.exf, ok.bs, ok.bsz, ok.noex, ok.exfs, ok.funs, ok.frf⟩
section
variable {X : Cx} {pins : List (Addr × Obj)} {σ : St} {H : Hp} {s : Shared} {E : Value → Shared → Prop}
theorem Inv.wish (I : Inv X pins σ H s) (E : Value → Shared → Prop) : Inv (X.wish E) pins σ H s := ⟨I.ok.wish E, I.os, I.bare, I.base, I.loc, I.cell, I.free, I.freeC, I.pin, I.hok, I.len⟩
theorem Inv.unwish (I : Inv (X.wish E) pins σ H s) : Inv X pins σ H s := ⟨I.ok.unwish, I.os, I.bare, I.base, I.loc, I.cell, I.free, I.freeC, I.pin, I.hok, I.len⟩
theorem SP.unwish {D : Ends} {f : Flow} {s' : Shared} (h : SP (X.wish E) pins D f s') : SP X pins D f s' := by
  cases f with
  | next => obtain ⟨σ', H', I, q⟩ := h; exact ⟨σ', H', I.unwish, q⟩
  | brk => obtain ⟨σ', H', I, q⟩ := h; exact ⟨σ', H', I.unwish, q⟩
  | cont => obtain ⟨σ', H', I, q⟩ := h; exact ⟨σ', H', I.unwish, q⟩
  | ret u => obtain ⟨v, σ', H', I, r, q⟩ := h; exact ⟨v, σ', H', I.unwish, r, q⟩
theorem PE.nox {e : Expr} {t : TE} (h : PE X.nox e t) : PE X e t := fun pins s σ H Q I hw =>
  wpAny_mono (h pins s σ H Q (I.wish _) hw) (fun _ _ ⟨v, H', I', r, q⟩ => ⟨v, H', I'.unwish, r, q⟩) fun _ _ z => False.elim z
theorem PT.nox {e : Expr} {t : TT} (h : PT X.nox e t) : PT X e t := fun pins s σ H Q I hw =>
  wpAny_mono (h pins s σ H Q (I.wish _) hw) (fun _ _ ⟨H', I', q⟩ => ⟨H', I'.unwish, q⟩) fun _ _ z => False.elim z
theorem PSs.nox {st : List Stmt} {t : TS} (h : PSs X.nox st t) : PSs X st t := fun pins s σ H D I hw =>
  wpAny_mono (h pins s σ H D (I.wish _) hw) (fun _ _ q => q.unwish) fun _ _ z => False.elim z
end
section
variable {X : Cx} {st : Stmt} {rest : List Stmt} {t u : TS} {e : Expr} {te : TE} {pos : Pos}
def tNext : TS := fun D σ H => D.nx σ H
def tSeq (t u : TS) : TS := fun D σ H => t { D with nx := u D } σ H
theorem pss_nil : PSs X [] tNext := fun _ _ σ H _ I h => wpAny_execs_nil ⟨σ, H, I, h⟩
theorem pss_cons (h1 : PS X st t) (h2 : PSs X rest u) : PSs X (st :: rest) (tSeq t u) := by
  intro pins s σ H D I h
  refine wpAny_execs_cons (thn (h1 pins s σ H { D with nx := u D } I h) fun f s1 q => ?_)
  cases f with
  | next =>
    obtain ⟨σ', H', I', q⟩ := q
    exact h2 pins s1 σ' H' D I' q
  | ret v => exact q
  | brk => exact q
  | cont => exact q
theorem pss_one (h1 : PS X st t) : PSs X [st] t := by
  intro pins s σ H D I h
  refine wpAny_execs_cons (thn (h1 pins s σ H D I h) fun f s1 q => ?_)
  cases f with
  | next => exact wpAny_execs_nil q
  | ret v => exact q
  | brk => exact q
  | cont => exact q
theorem Inv.quiet {pins : List (Addr × Obj)} {σ : St} {H : Hp} {s : Shared} (I : Inv X pins σ H s) : interactive X.env = false := by simp [interactive, I.ok.kind]
def tDrop (te : TE) : TS := fun D σ H => te σ H fun _ H1 => D.nx σ H1
theorem ps_expr (he : PE X e te) (hs : swapsWith e none pos.line X.env = pure false := by rfl) : PS X (.Expr e pos) (tDrop te) := by
  intro pins s σ H D I h
  exact wpAny_Expr_any (thn (he pins s σ H _ I h) fun v s1 ⟨x, H1, I1, r1, q1⟩ => ⟨σ, H1, I1, q1⟩) I.quiet hs
def tRet (te : TE) : TS := fun D σ H => te σ H D.rt
theorem ps_ret (he : PE X e te) : PS X (.Return (some e) pos) (tRet te) := by
  intro pins s σ H D I h
  exact wpAny_Return_some (thn (he pins s σ H _ I h) fun v s1 ⟨x, H1, I1, r1, q1⟩ => ⟨x, σ, H1, I1, r1, q1⟩)
def tIfS (c : TT) (t u : TS) : TS := fun D σ H => c σ H fun b H1 => if b = true then t D σ H1 else u D σ H1
theorem ps_if {c : Expr} {a b : List Stmt} {tc : TT} (hc : PT X c tc) (ha : PSs X a t) (hb : PSs X b u) : PS X (.If c a b pos) (tIfS tc t u) := by
  intro pins s σ H D I h
  refine wpAny_If (thn (hc pins s σ H _ I h) fun d s1 ⟨H1, I1, q1⟩ => ?_)
  cases d with
  | true => exact ha pins s1 σ H1 D I1 q1
  | false => exact hb pins s1 σ H1 D I1 q1
end
abbrev TG := V → St → Hp → (St → Hp → Prop) → Prop
def PG (X : Cx) (target : Expr) (t : TG) : Prop :=
  ∀ (pins : List (Addr × Obj)) (s : Shared) (σ : St) (H : Hp) (v : V) (u : Value) (Q : St → Hp → Prop), Inv X pins σ H s → RelV v u → t v σ H Q →
    wpAny (model X.prog X.w) X.A (assign target X.env u) (fun _ s' => ∃ σ' H', Inv X pins σ' H' s' ∧ Q σ' H') X.xe s
section
variable {X : Cx} {pos : Pos}
def gName (i : Nat) : TG := fun v σ H Q => Q (σ.set i (some v)) H
theorem pg_name {i : Nat} {x : Str} (hN : X.N.Nodup) (hi : X.N[i]? = some x) (hx : Loc X.env.scope x) (hf : X.fn x = true ∨ X.env.scope.names.lookup x = some .local := by first | exact .inl rfl | exact .inr rfl | assumption) : PG X (.Name x pos) (gName i) := by
  intro pins s σ H v u Q I r h
  exact wpAny_assign_Name (store_ok I hN hi hx r (fun s' I' => ⟨_, H, I', h⟩) hf)
def tAsg (te : TE) (g : TG) : TS := fun D σ H => te σ H fun x H1 => g x σ H1 D.nx
theorem ps_set {i : Nat} {x : Str} {e : Expr} {te : TE} {pos' : Pos} (hN : X.N.Nodup) (hi : X.N[i]? = some x) (hx : Loc X.env.scope x) (he : PE X e te) (hs : swapsWith e (some (.Name x pos')) pos.line X.env = pure false := by rfl) (hf : X.fn x = true ∨ X.env.scope.names.lookup x = some .local := by first | exact .inl rfl | exact .inr rfl | assumption) :
    PS X (.Assign [.Name x pos'] e pos) (tAsg te (gName i)) := by
  intro pins s σ H D I h
  refine wpAny_Assign_Name (thn (he pins s σ H _ I h) fun v s1 ⟨y, H1, I1, r1, q1⟩ => ?_) hs
  exact store_ok I1 hN hi hx r1 (fun s2 I2 => ⟨_, H1, I2, q1⟩) hf
end
section
variable {X : Cx} {pos : Pos}
def tWhile (c : TT) (tb : TS) : TS := fun D σ H => ∃ W : Nat → St → Hp → Prop, (∃ m, W m σ H) ∧ ∀ m σ H, W m σ H →
  c σ H fun b H1 => if b = true then ∃ N : St → Hp → Prop, (∀ σ' H', N σ' H' → ∃ m', m' < m ∧ W m' σ' H') ∧ tb { D with nx := N, ct := N, bk := D.nx } σ H1 else D.nx σ H1
theorem ps_while {c : Expr} {body : List Stmt} {tc : TT} {tb : TS} (hp : PassesOwn (model X.prog X.w) X.A X.env X.xe) (hc : PT X c tc) (hb : PSs X body tb) : PS X (.While c body [] pos) (tWhile tc tb) := by
  intro pins s σ H D I h
  obtain ⟨W, ⟨m0, w0⟩, turn⟩ := h
  refine wpAny_While (codeAny_whileLoop (fun n s' => ∃ σ' H', Inv X pins σ' H' s' ∧ W n σ' H') ?_ m0 ⟨σ, H, I, w0⟩)
  rintro n s1 ⟨σ1, H1, I1, w1⟩
  refine wpAny_passesOwn hp (thn (hc pins s1 σ1 H1 _ I1 (turn n σ1 H1 w1)) fun b s2 ⟨H2, I2, q2⟩ => ?_)
  cases b with
  | true =>
    obtain ⟨N, hN, q2⟩ := q2
    rw [if_pos rfl]
    refine wpAny_passesOwn hp (thn (hb pins s2 σ1 H2 _ I2 q2) fun f s3 q3 => ?_)
    cases f with
    | next =>
      obtain ⟨σ3, H3, I3, n3⟩ := q3
      obtain ⟨m', hm, w3⟩ := hN σ3 H3 n3
      exact ⟨m', hm, σ3, H3, I3, w3⟩
    | cont =>
      obtain ⟨σ3, H3, I3, n3⟩ := q3
      obtain ⟨m', hm, w3⟩ := hN σ3 H3 n3
      exact ⟨m', hm, σ3, H3, I3, w3⟩
    | brk => exact q3
    | ret v => exact q3
  | false =>
    rw [if_neg Bool.false_ne_true]
    exact wpAny_execs_nil ⟨σ1, H2, I2, q2⟩
end
structure It where
  go : Nat → Hp → Prop
  yld : Nat → Hp → V → Hp → Prop
  stop : Nat → Hp → Prop
def FpOk (X : Cx) (pins : List (Addr × Obj)) (H : Hp) (b : Addr) : Prop :=
  H b = none ∧ b ≠ X.env.locals ∧ b ∉ X.fs ∧ (b ∈ X.ex ∨ X.s₀.heap.objs.size ≤ b) ∧ (∀ x c, X.env.cells.lookup x = some c → c ≠ b) ∧ ∀ p ∈ X.pn ++ pins, p.1 ≠ b
theorem Inv.fpOk {X : Cx} {pins : List (Addr × Obj)} {σ : St} {H H' : Hp} {s : Shared} {b : Addr} (I : Inv X pins σ H s) (hb : s.heap.objs.size ≤ b) (hn : H' b = none) : FpOk X pins H' b := by
  refine ⟨hn, Nat.ne_of_gt (Nat.lt_of_lt_of_le I.lt hb), I.nofs hb, .inr (Nat.le_trans I.sz hb), fun x c e z => ?_, fun p hp z => ?_⟩
  · obtain ⟨v, q⟩ := I.cell x c e
    exact absurd (Nat.lt_of_lt_of_le q.lt (by rw [z]; exact hb)) (Nat.lt_irrefl _)
  · exact absurd (Nat.lt_of_lt_of_le (Heap.lt_size (I.pin p hp).1) (by rw [z]; exact hb)) (Nat.lt_irrefl _)
structure Turn (P : Program) (w : World) (K : PySem.W.Frag) (tg : Expr) (J : It) (fp : List Addr) (it : Addr) (tn : Nat → Heap → Prop) : Prop where
  mem : it ∈ fp
  obj : ∀ i h, tn i h → ∀ b ∈ fp, ∃ o, h.get? b = some o ∧ ∀ v, o.data ≠ .cell v
  keep : ∀ i h h', tn i h → (∀ b ∈ fp, ∀ o, h.get? b = some o → h'.get? b = some o) → tn i h'
  item : ∀ (X : Cx), X.prog = P → X.w = w → X.K = K → X.calm = true → ∀ (i : Nat) (pins : List (Addr × Obj)) (s : Shared) (σ : St) (H : Hp) (E : Value → Shared → Prop), Inv X pins σ H s → (∀ b ∈ fp, FpOk X pins H b) → tn i s.heap → J.go i H →
    wpAny (model P w) X.A (pyNext (.ref it)) (fun r s1 => ∃ u, r = some u ∧
      wpAny (model P w) X.A (letOwnedTupleGo tg (.ref it) u) (fun _ s2 => ∃ x H', Inv X pins σ H' s2 ∧ RelV x u ∧ J.yld i H x H' ∧ tn (i + 1) s2.heap ∧ ∀ b ∈ fp, H' b = none) E s1) E s
  done : ∀ (X : Cx), X.prog = P → X.w = w → X.K = K → X.calm = true → ∀ (i : Nat) (pins : List (Addr × Obj)) (s : Shared) (σ : St) (H : Hp) (E : Value → Shared → Prop), Inv X pins σ H s → (∀ b ∈ fp, FpOk X pins H b) → tn i s.heap → J.stop i H →
    wpAny (model P w) X.A (pyNext (.ref it)) (fun r s1 => r = none ∧ Inv X pins σ H s1) E s
  self : ∀ (A : Around) (i : Nat) (s : Shared) (Q : Value → Shared → Prop) (E : Value → Shared → Prop), tn i s.heap → Q (.ref it) s → wpAny (model P w) A (pyIter (.ref it)) Q E s
abbrev TI := St → Hp → (It → Hp → Prop) → Prop
def PIE (X : Cx) (pins : List (Addr × Obj)) (σ : St) (tg : Expr) (R : It → Hp → Prop) (itv : Value) (s2 : Shared) : Prop :=
  ∃ (it : Addr) (fp : List Addr) (tn : Nat → Heap → Prop) (J : It) (H' : Hp), itv = .ref it ∧ Inv X pins σ H' s2 ∧ Turn X.prog X.w X.K tg J fp it tn ∧ tn 0 s2.heap ∧ (∀ b ∈ fp, FpOk X pins H' b) ∧ R J H'
def PI (X : Cx) (tg iter : Expr) (wi : TI) : Prop :=
  ∀ (pins : List (Addr × Obj)) (s : Shared) (σ : St) (H : Hp) (R : It → Hp → Prop), Inv X pins σ H s → wi σ H R →
    wpAny (model X.prog X.w) X.A (eval iter X.env) (fun v s1 => wpAny (model X.prog X.w) X.A (pyIter v) (PIE X pins σ tg R) X.xe s1) X.xe s
theorem go_of {M : Model} {A : Around} {E : Value → Shared → Prop} {s : Shared} {tg : Expr} {it : Addr} {u : Value} {o : Obj} {n : String} {vs : Array Value} {Q : Unit → Shared → Prop} (ho : s.heap.get? it = some o) (hc : o.cls = .type n) (hd : o.data = .fields vs)
    (hn : ["enumerate", "zip", "dict_itemiterator", "dict_reverseitemiterator", "odict_iterator", "itertools.zip_longest", "itertools.pairwise"].contains n = false) (hQ : Q () s) : wpAny M A (letOwnedTupleGo tg (.ref it) u) Q E s := by
  unfold letOwnedTupleGo
  cases tg <;> first
    | exact wpAny_pure hQ
    | (cases u <;> first
        | exact wpAny_pure hQ
        | (refine wpAny_bind (wpAny_load ho ?_)
           rw [hc, hd]
           show wpAny M A (if (["enumerate", "zip", "dict_itemiterator", "dict_reverseitemiterator", "odict_iterator", "itertools.zip_longest", "itertools.pairwise"].contains n && vs[0]? == some (rawInt _)) = true then _ else _) Q E s
           rw [if_neg (by intro h; rw [hn, Bool.false_and] at h; cases h)]
           exact wpAny_pure hQ))
def Itl (K : PySem.W.Frag) (a : Addr) : It :=
  ⟨fun i H => ∃ xs x, SqL K H a xs ∧ xs[i]? = some x, fun i H x H' => H' = H ∧ ∀ xs, SqL K H a xs → xs[i]? = some x, fun i H => ∃ xs, SqL K H a xs ∧ xs.length ≤ i⟩
def Itt (K : PySem.W.Frag) (a : Addr) : It :=
  ⟨fun i H => ∃ xs x, SqT K H a xs ∧ xs[i]? = some x, fun i H x H' => H' = H ∧ ∀ xs, SqT K H a xs → xs[i]? = some x, fun i H => ∃ xs, SqT K H a xs ∧ xs.length ≤ i⟩
def Itr (lo : Int) (n : Nat) : It := ⟨fun i _ => i < n, fun i H x H' => H' = H ∧ x = .int (lo + i), fun i _ => n ≤ i⟩
theorem turn_list {P : Program} {w : World} {K : PySem.W.Frag} {tg : Expr} (a it : Addr) : Turn P w K tg (Itl K a) [it] it (fun i h => h.IsListIter it a i) where
  mem := by simp
  obj := fun i h st b hb => by
    have e : b = it := by simpa using hb
    subst e
    obtain ⟨o, e, c, d⟩ := st
    exact ⟨o, e, fun v z => by rw [d] at z; cases z⟩
  keep := fun i h h' st k => st.at fun o e => k it (by simp) o e
  item := by
    intro X hP hw hK hc i pins s σ H E I hf st hg
    subst hP hw hK
    obtain ⟨xs, x, hq, hx⟩ := hg
    obtain ⟨its, rv, p, hz⟩ := I.list hq
    obtain ⟨u, hu, ru⟩ := rv.get hx
    obtain ⟨f0, f1, f2, f3, f4, f5⟩ := hf it (by simp)
    refine wpAny_pyNext_list_item st p.isList (x := u) (by simpa using hu) fun h' st' sb => ?_
    have I1 : Inv X pins σ H { s with heap := h' } := I.turned (t' := s.toks) (fun b o hb e => (sb.2 b hb).trans e) f0 f1 f3 f4 f5
    obtain ⟨o, e, c, d⟩ := id st'
    exact ⟨u, rfl, go_of (s := { s with heap := h' }) e c d (by decide) ⟨x, H, I1, ru, ⟨rfl, fun ys hy => by rw [I.list_inj hy hq]; exact hx⟩, st', fun b hb => (hf b hb).1⟩⟩
  done := by
    intro X hP hw hK hc i pins s σ H E I hf st hg
    subst hP hw hK
    obtain ⟨xs, hq, hx⟩ := hg
    obtain ⟨its, rv, p, hz⟩ := I.list hq
    obtain ⟨f0, f1, f2, f3, f4, f5⟩ := hf it (by simp)
    have hl := rv.length
    exact wpAny_pyNext_list_end (I.ok.hd hc) st p.isList (by simp; omega) fun h' eb => ⟨rfl, I.turned (t' := s.toks) (fun b o hb e => eb b o hb e) f0 f1 f3 f4 f5⟩
  self := fun _ _ _ _ _ st h => wpAny_pyIter_listiter st h
theorem turn_tuple {P : Program} {w : World} {K : PySem.W.Frag} {tg : Expr} (a it : Addr) : Turn P w K tg (Itt K a) [it] it (fun i h => h.IsTupleIter it a i) where
  mem := by simp
  obj := fun i h st b hb => by
    have e : b = it := by simpa using hb
    subst e
    obtain ⟨o, e, c, d⟩ := st
    exact ⟨o, e, fun v z => by rw [d] at z; cases z⟩
  keep := fun i h h' st k => st.at fun o e => k it (by simp) o e
  item := by
    intro X hP hw hK hc i pins s σ H E I hf st hg
    subst hP hw hK
    obtain ⟨xs, x, hq, hx⟩ := hg
    obtain ⟨its, rv, p, hz⟩ := I.tuple hq
    obtain ⟨u, hu, ru⟩ := rv.get hx
    obtain ⟨f0, f1, f2, f3, f4, f5⟩ := hf it (by simp)
    refine wpAny_pyNext_tuple_item st (show s.heap.IsTuple a its.toArray from p) (x := u) (by simpa using hu) fun h' st' sb => ?_
    have I1 : Inv X pins σ H { s with heap := h' } := I.turned (t' := s.toks) (fun b o hb e => (sb.2 b hb).trans e) f0 f1 f3 f4 f5
    obtain ⟨o, e, c, d⟩ := id st'
    exact ⟨u, rfl, go_of (s := { s with heap := h' }) e c d (by decide) ⟨x, H, I1, ru, ⟨rfl, fun ys hy => by rw [I.tuple_inj hy hq]; exact hx⟩, st', fun b hb => (hf b hb).1⟩⟩
  done := by
    intro X hP hw hK hc i pins s σ H E I hf st hg
    subst hP hw hK
    obtain ⟨xs, hq, hx⟩ := hg
    obtain ⟨its, rv, p, hz⟩ := I.tuple hq
    obtain ⟨f0, f1, f2, f3, f4, f5⟩ := hf it (by simp)
    have hl := rv.length
    exact wpAny_pyNext_tuple_end (I.ok.hd hc) st (show s.heap.IsTuple a its.toArray from p) (by simp; omega) fun h' eb => ⟨rfl, I.turned (t' := s.toks) (fun b o hb e => eb b o hb e) f0 f1 f3 f4 f5⟩
  self := fun _ _ _ _ _ st h => wpAny_pyIter_tupleiter st h
theorem turn_range {P : Program} {w : World} {K : PySem.W.Frag} {tg : Expr} (it : Addr) (lo : Int) (n : Nat) : Turn P w K tg (Itr lo n) [it] it (fun i h => IsRangeIter h it (lo + (i : Nat) * 1) ((n : Int) - (i : Nat)) 1) where
  mem := by simp
  obj := fun i h st b hb => by
    have e : b = it := by simpa using hb
    subst e
    exact ⟨_, st, fun v z => by
      have z' : Data.fields _ = Data.cell v := z
      cases z'⟩
  keep := fun i h h' st k => k it (by simp) _ st
  item := by
    intro X hP hw hK hc i pins s σ H E I hf st hg
    subst hP hw hK
    obtain ⟨f0, f1, f2, f3, f4, f5⟩ := hf it (by simp)
    have W := Walks.range (prog := X.prog) (w := X.w) (I.ok.hd hc) it lo 1 n
    refine W.item i s _ _ hg st fun v h' tk hv st' kk => ?_
    obtain ⟨t, rfl⟩ := hv
    have I1 : Inv X pins σ H { s with heap := h', toks := tk } := I.turned (fun b o hb e => kk b o (by simpa using hb) e) f0 f1 f3 f4 f5
    refine ⟨_, rfl, go_of (s := { s with heap := h', toks := tk }) (n := "range_iterator") st' rfl rfl (by decide) ⟨.int (lo + i), H, I1, ⟨t, ?_⟩, ⟨rfl, rfl⟩, st', fun b hb => (hf b hb).1⟩⟩
    rw [Int.mul_one]
  done := by
    intro X hP hw hK hc i pins s σ H E I hf st hg
    subst hP hw hK
    obtain ⟨f0, f1, f2, f3, f4, f5⟩ := hf it (by simp)
    exact wpAny_pyNext_range_end (I.ok.hd hc) st (by have : n ≤ i := hg; omega) fun h' eb => ⟨rfl, I.turned (t' := s.toks) (fun b o hb e => eb b o hb e) f0 f1 f3 f4 f5⟩
  self := fun _ _ _ _ _ st h => wpAny_pyIter_rangeiter st h
end L2
namespace L2
open PySem PySem.Spec PyProof.Rows
section
variable {X : Cx} {tg : Expr}
def iList (K : PySem.W.Frag) (tl : TE) : TI := fun σ H R => tl σ H fun x H1 => ∃ a, x = .ref a ∧ (∃ xs, SqL K H1 a xs) ∧ R (Itl K a) H1
def iTup (K : PySem.W.Frag) (tl : TE) : TI := fun σ H R => tl σ H fun x H1 => ∃ a, x = .ref a ∧ (∃ xs, SqT K H1 a xs) ∧ R (Itt K a) H1
theorem pi_list {l : Expr} {tl : TE} (hl : PE X l tl) : PI X tg l (iList X.K tl) := by
  intro pins s σ H R I h
  refine thn (hl pins s σ H _ I h) fun v s1 ⟨x, H1, I1, r1, q1⟩ => ?_
  obtain ⟨a, e, ⟨xs, hq⟩, q⟩ := q1
  subst e
  cases r1
  obtain ⟨its, rv, p, hz⟩ := I1.list hq
  refine wpAny_pyIter_list p.isList ?_
  refine ⟨s1.heap.objs.size, [s1.heap.objs.size], _, _, H1, rfl, I1.kept (t' := s1.toks) fun b o e => Heap.get?_push_of_some _ e, turn_list a _, ⟨_, Heap.get?_push_size _ rfl, rfl, rfl⟩, fun b hb => ?_, q⟩
  have e : b = s1.heap.objs.size := by simpa using hb
  subst e
  exact I1.fpOk (Nat.le_refl _) (I1.hok.fresh (Nat.le_refl _))
theorem pi_tup {l : Expr} {tl : TE} (hl : PE X l tl) : PI X tg l (iTup X.K tl) := by
  intro pins s σ H R I h
  refine thn (hl pins s σ H _ I h) fun v s1 ⟨x, H1, I1, r1, q1⟩ => ?_
  obtain ⟨a, e, ⟨xs, hq⟩, q⟩ := q1
  subst e
  cases r1
  obtain ⟨its, rv, p, hz⟩ := I1.tuple hq
  refine wpAny_pyIter_tuple (show s1.heap.IsTuple a its.toArray from p) ?_
  refine ⟨s1.heap.objs.size, [s1.heap.objs.size], _, _, H1, rfl, I1.kept (t' := s1.toks) fun b o e => Heap.get?_push_of_some _ e, turn_tuple a _, ⟨_, Heap.get?_push_size _ rfl, rfl, rfl⟩, fun b hb => ?_, q⟩
  have e : b = s1.heap.objs.size := by simpa using hb
  subst e
  exact I1.fpOk (Nat.le_refl _) (I1.hok.fresh (Nat.le_refl _))
theorem range_it {pins : List (Addr × Obj)} {σ : St} {H : Hp} {s : Shared} {R : It → Hp → Prop} {E : Value → Shared → Prop} {lo hi : Int} {t u v : Tok} {tk : Nat} (I : Inv X pins σ H s) (h1 : -(2 ^ 62) ≤ lo) (h2 : lo < 2 ^ 62) (h3 : -(2 ^ 62) ≤ hi) (h4 : hi < 2 ^ 62)
    (q : R (Itr lo (hi - lo).toNat) H) : wpAny (model X.prog X.w) X.A (pyIter (.ref s.heap.objs.size)) (PIE X pins σ tg R) E { s with heap := s.heap.push { cls := .type "range", data := .fields #[.int lo t, .int hi u, .int 1 v] }, toks := tk } := by
  refine wpAny_pyIter_range (IsRange.new ..) (small_one h1 h2 h3 h4) ?_
  have I1 : Inv X pins σ H { s with heap := s.heap.push { cls := .type "range", data := .fields #[.int lo t, .int hi u, .int 1 v] }, toks := tk } := I.kept fun b o e => Heap.get?_push_of_some _ e
  refine ⟨(s.heap.push { cls := .type "range", data := .fields #[.int lo t, .int hi u, .int 1 v] }).objs.size, [(s.heap.push { cls := .type "range", data := .fields #[.int lo t, .int hi u, .int 1 v] }).objs.size], _, _, H, rfl,
    I1.kept (t' := tk) fun b o e => Heap.get?_push_of_some _ e, turn_range _ lo (hi - lo).toNat, ?_, fun b hb => ?_, q⟩
  · have e1 : lo + ((0 : Nat) : Int) * 1 = lo := by simp
    have e2 : (((hi - lo).toNat : Nat) : Int) - ((0 : Nat) : Int) = Builtin.Range.rangeSize lo hi 1 := by rw [rangeSize_one]; split <;> omega
    show IsRangeIter _ _ (lo + ((0 : Nat) : Int) * 1) ((((hi - lo).toNat : Nat) : Int) - ((0 : Nat) : Int)) 1
    rw [e1, e2]
    exact Heap.get?_push_size _ rfl
  · have e : b = (s.heap.push { cls := .type "range", data := .fields #[.int lo t, .int hi u, .int 1 v] }).objs.size := by simpa using hb
    subst e
    exact I1.fpOk (Nat.le_refl _) (I1.hok.fresh (Nat.le_refl _))
def iRng1 (ta : TA) : TI := fun σ H R => ta σ H fun vs H1 => ∃ j : Int, vs = [.int j] ∧ -(2 ^ 62) ≤ j ∧ j < 2 ^ 62 ∧ R (Itr 0 j.toNat) H1
theorem pi_range1 {a : Expr} {ta : TA} {p pos : Pos} (hg : Gl X "range") (hm : X.mg "range" = none) (ha : PA X [a] ta) (hs : starEach [a] X.env = [(false, eval a X.env)] := by rfl) : PI X tg (.Call (.Name "range" p) [a] [] pos) (iRng1 ta) := by
  intro pins s σ H R I h
  refine Call_ (ld_blt I hg hm boot_range (PyProof.Rows.callWith_type1 (thn (ha pos pins s σ H _ I h) fun us s1 ⟨vs, H1, I1, r1, q1⟩ => ?_) hs rfl))
  obtain ⟨j, e, q1, q2, q⟩ := q1
  subst e
  cases r1 with
  | cons r rr =>
    cases rr
    obtain ⟨t, rfl⟩ := r
    exact call_range_1 (range_it I1 (by omega) (by omega) q1 q2 (by simpa using q))
def tFor (wi : TI) (g : TG) (tb : TS) : TS := fun D σ H => wi σ H fun J H1 => ∃ W : Nat → Nat → St → Hp → Prop, (∃ m, W 0 m σ H1) ∧ ∀ i m σ H, W i m σ H →
  (J.stop i H ∧ D.nx σ H) ∨ (J.go i H ∧ ∃ N : St → Hp → Prop, (∀ σ' H', N σ' H' → ∃ m', m' < m ∧ W (i + 1) m' σ' H') ∧ ∀ x H', J.yld i H x H' → g x σ H' fun σ2 H2 => tb { D with nx := N, ct := N, bk := D.nx } σ2 H2)
def pinsAt (fp : List Addr) (h : Heap) : List (Addr × Obj) := fp.filterMap fun b => (h.get? b).map fun o => (b, o)
theorem mem_pinsAt {fp : List Addr} {h : Heap} {b : Addr} {o : Obj} (hb : b ∈ fp) (e : h.get? b = some o) : (b, o) ∈ pinsAt fp h := List.mem_filterMap.mpr ⟨b, hb, by rw [e]; rfl⟩
theorem of_pinsAt {fp : List Addr} {h : Heap} {p : Addr × Obj} (hp : p ∈ pinsAt fp h) : p.1 ∈ fp ∧ h.get? p.1 = some p.2 := by
  obtain ⟨b, hb, e⟩ := List.mem_filterMap.mp hp
  cases q : h.get? b with
  | none => rw [q] at e; cases e
  | some o =>
    rw [q] at e
    have e' : (b, o) = p := Option.some.inj e
    subst e'
    exact ⟨hb, q⟩
theorem Inv.pinned {pins : List (Addr × Obj)} {σ : St} {H : Hp} {s : Shared} {fp : List Addr} (I : Inv X pins σ H s) (hf : ∀ b ∈ fp, FpOk X pins H b) (ho : ∀ b ∈ fp, ∃ o, s.heap.get? b = some o ∧ ∀ v, o.data ≠ .cell v) : Inv X (pins ++ pinsAt fp s.heap) σ H s :=
  I.pins_of fun p hp => (List.mem_append.mp hp).elim (fun z => I.pin p (List.mem_append_right _ z)) fun z => by
    obtain ⟨hb, e⟩ := of_pinsAt z
    obtain ⟨f0, f1, f2, _⟩ := hf p.1 hb
    obtain ⟨o, e', d⟩ := ho p.1 hb
    rw [e] at e'; cases e'
    exact ⟨e, f0, f1, f2, d⟩
theorem Inv.unpinned {pins pl : List (Addr × Obj)} {σ : St} {H : Hp} {s : Shared} (I : Inv X (pins ++ pl) σ H s) : Inv X pins σ H s := I.pins_of fun p hp => I.pin p (List.mem_append_right _ (List.mem_append_left _ hp))
theorem ps_for {iter : Expr} {body : List Stmt} {wi : TI} {g : TG} {tb : TS} {pos : Pos} (hp : PassesOwn (model X.prog X.w) X.A X.env X.xe) (hc : X.calm = true) (hi : PI X tg iter wi) (hg : PG X tg g) (hb : PSs X body tb)
    (hs : ∀ x, foldedSetIterable iter X.env x = pure x := by intro _; rfl) : PS X (.For tg iter body [] pos) (tFor wi g tb) := by
  intro pins s σ H D I h
  refine wpAny_For (thn (hi pins s σ H _ I h) fun v s1 h1 => thn h1 fun itv s2 h2 => ?_) hs
  obtain ⟨it, fp, tn, J, H2, e, I2, T, st2, f2, W, ⟨m0, w0⟩, turn⟩ := h2
  subst e
  have stat : ∀ {H' : Hp}, (∀ b ∈ fp, H' b = none) → ∀ b ∈ fp, FpOk X pins H' b := fun hn b hb => ⟨hn b hb, (f2 b hb).2⟩
  refine codeAny_forLoop_any (fun n s' => ∃ i σ' H', Inv X pins σ' H' s' ∧ tn i s'.heap ∧ (∀ b ∈ fp, H' b = none) ∧ W i n σ' H') ?_ m0 ⟨0, σ, H2, I2, st2, fun b hb => (f2 b hb).1, w0⟩
  rintro n s3 ⟨i, σ3, H3, I3, st3, fr3, w3⟩
  rcases turn i n σ3 H3 w3 with ⟨stop, qn⟩ | ⟨go, N, hN, step⟩
  · refine wpAny_passesOwn hp (thn (T.done X rfl rfl rfl hc i pins s3 σ3 H3 X.xe I3 (stat fr3) st3 stop) fun r s4 ⟨hr, I4⟩ => ?_)
    subst hr
    exact wpAny_execs_nil ⟨σ3, H3, I4, qn⟩
  · refine wpAny_passesOwn hp (thn (T.item X rfl rfl rfl hc i pins s3 σ3 H3 X.xe I3 (stat fr3) st3 go) fun r s4 ⟨u, hr, h4⟩ => ?_)
    subst hr
    refine wpAny_passesOwn hp (thn h4 fun _ s5 ⟨x, H5, I5, r5, y5, st5, fr5⟩ => ?_)
    have I5' := I5.pinned (stat fr5) (T.obj _ _ st5)
    refine wpAny_passesOwn hp (thn (hg _ s5 σ3 H5 x u _ I5' r5 (step x H5 y5)) fun _ s6 ⟨σ6, H6, I6, q6⟩ => ?_)
    refine wpAny_passesOwn hp (thn (hb _ s6 σ6 H6 _ I6 q6) fun f s7 q7 => ?_)
    have again : ∀ {σ7 : St} {H7 : Hp}, Inv X (pins ++ pinsAt fp s5.heap) σ7 H7 s7 → N σ7 H7 → ∃ m, m < n ∧ ∃ i σ' H', Inv X pins σ' H' s7 ∧ tn i s7.heap ∧ (∀ b ∈ fp, H' b = none) ∧ W i m σ' H' := fun {σ7 H7} I7 n7 => by
      obtain ⟨m', hm, w7⟩ := hN σ7 H7 n7
      refine ⟨m', hm, i + 1, σ7, H7, I7.unpinned, T.keep _ _ _ st5 fun b hb o e => (I7.pin (b, o) (List.mem_append_right _ (List.mem_append_right _ (mem_pinsAt hb e)))).1, fun b hb => ?_, w7⟩
      obtain ⟨o, e, d⟩ := T.obj _ _ st5 b hb
      exact (I7.pin (b, o) (List.mem_append_right _ (List.mem_append_right _ (mem_pinsAt hb e)))).2.1
    cases f with
    | next => obtain ⟨σ7, H7, I7, n7⟩ := q7; exact again I7 n7
    | cont => obtain ⟨σ7, H7, I7, n7⟩ := q7; exact again I7 n7
    | brk => obtain ⟨σ7, H7, I7, q7⟩ := q7; exact ⟨σ7, H7, I7.unpinned, q7⟩
    | ret v => obtain ⟨x7, σ7, H7, I7, r7, q7⟩ := q7; exact ⟨x7, σ7, H7, I7.unpinned, r7, q7⟩
end
theorem for_list {K : PySem.W.Frag} {a : Addr} {xs : List V} {g : TG} {tb : TS} {D : Ends} {σ : St} {H : Hp} (Pv : Nat → St → Hp → Prop) (h0 : Pv 0 σ H) (hl : ∀ i σ H, i ≤ xs.length → Pv i σ H → SqL K H a xs)
    (hs : ∀ i x σ H, xs[i]? = some x → Pv i σ H → g x σ H fun σ2 H2 => tb { D with nx := Pv (i + 1), ct := Pv (i + 1), bk := D.nx } σ2 H2) (hd : ∀ σ H, Pv xs.length σ H → D.nx σ H) :
    ∃ W : Nat → Nat → St → Hp → Prop, (∃ m, W 0 m σ H) ∧ ∀ i m σ H, W i m σ H →
      ((Itl K a).stop i H ∧ D.nx σ H) ∨ ((Itl K a).go i H ∧ ∃ N : St → Hp → Prop, (∀ σ' H', N σ' H' → ∃ m', m' < m ∧ W (i + 1) m' σ' H') ∧ ∀ x H', (Itl K a).yld i H x H' → g x σ H' fun σ2 H2 => tb { D with nx := N, ct := N, bk := D.nx } σ2 H2) := by
  refine ⟨fun i m σ H => m = xs.length - i ∧ i ≤ xs.length ∧ Pv i σ H, ⟨xs.length, by simp, Nat.zero_le _, h0⟩, ?_⟩
  rintro i m σ H ⟨rfl, hi, p⟩
  have q := hl i σ H hi p
  by_cases hlt : i < xs.length
  · refine .inr ⟨⟨xs, xs[i], q, by simp [hlt]⟩, Pv (i + 1), fun σ' H' p' => ⟨xs.length - (i + 1), by omega, rfl, hlt, p'⟩, fun x H' y => ?_⟩
    obtain ⟨e, y⟩ := y
    subst e
    exact hs i x σ _ (y xs q) p
  · have e : i = xs.length := by omega
    subst e
    exact .inl ⟨⟨xs, q, Nat.le_refl _⟩, hd σ H p⟩
theorem for_tup {K : PySem.W.Frag} {a : Addr} {xs : List V} {g : TG} {tb : TS} {D : Ends} {σ : St} {H : Hp} (Pv : Nat → St → Hp → Prop) (h0 : Pv 0 σ H) (hl : ∀ i σ H, i ≤ xs.length → Pv i σ H → SqT K H a xs)
    (hs : ∀ i x σ H, xs[i]? = some x → Pv i σ H → g x σ H fun σ2 H2 => tb { D with nx := Pv (i + 1), ct := Pv (i + 1), bk := D.nx } σ2 H2) (hd : ∀ σ H, Pv xs.length σ H → D.nx σ H) :
    ∃ W : Nat → Nat → St → Hp → Prop, (∃ m, W 0 m σ H) ∧ ∀ i m σ H, W i m σ H →
      ((Itt K a).stop i H ∧ D.nx σ H) ∨ ((Itt K a).go i H ∧ ∃ N : St → Hp → Prop, (∀ σ' H', N σ' H' → ∃ m', m' < m ∧ W (i + 1) m' σ' H') ∧ ∀ x H', (Itt K a).yld i H x H' → g x σ H' fun σ2 H2 => tb { D with nx := N, ct := N, bk := D.nx } σ2 H2) := by
  refine ⟨fun i m σ H => m = xs.length - i ∧ i ≤ xs.length ∧ Pv i σ H, ⟨xs.length, by simp, Nat.zero_le _, h0⟩, ?_⟩
  rintro i m σ H ⟨rfl, hi, p⟩
  have q := hl i σ H hi p
  by_cases hlt : i < xs.length
  · refine .inr ⟨⟨xs, xs[i], q, by simp [hlt]⟩, Pv (i + 1), fun σ' H' p' => ⟨xs.length - (i + 1), by omega, rfl, hlt, p'⟩, fun x H' y => ?_⟩
    obtain ⟨e, y⟩ := y
    subst e
    exact hs i x σ _ (y xs q) p
  · have e : i = xs.length := by omega
    subst e
    exact .inl ⟨⟨xs, q, Nat.le_refl _⟩, hd σ H p⟩
theorem for_range {lo : Int} {n : Nat} {g : TG} {tb : TS} {D : Ends} {σ : St} {H : Hp} (Pv : Nat → St → Hp → Prop) (h0 : Pv 0 σ H)
    (hs : ∀ i σ H, i < n → Pv i σ H → g (.int (lo + i)) σ H fun σ2 H2 => tb { D with nx := Pv (i + 1), ct := Pv (i + 1), bk := D.nx } σ2 H2) (hd : ∀ σ H, Pv n σ H → D.nx σ H) :
    ∃ W : Nat → Nat → St → Hp → Prop, (∃ m, W 0 m σ H) ∧ ∀ i m σ H, W i m σ H →
      ((Itr lo n).stop i H ∧ D.nx σ H) ∨ ((Itr lo n).go i H ∧ ∃ N : St → Hp → Prop, (∀ σ' H', N σ' H' → ∃ m', m' < m ∧ W (i + 1) m' σ' H') ∧ ∀ x H', (Itr lo n).yld i H x H' → g x σ H' fun σ2 H2 => tb { D with nx := N, ct := N, bk := D.nx } σ2 H2) := by
  refine ⟨fun i m σ H => m = n - i ∧ i ≤ n ∧ Pv i σ H, ⟨n, by simp, Nat.zero_le _, h0⟩, ?_⟩
  rintro i m σ H ⟨rfl, hi, p⟩
  by_cases hlt : i < n
  · refine .inr ⟨hlt, Pv (i + 1), fun σ' H' p' => ⟨n - (i + 1), by omega, rfl, hlt, p'⟩, fun x H' y => ?_⟩
    obtain ⟨e, y⟩ := y
    subst e y
    exact hs i σ _ hlt p
  · have e : i = n := by omega
    subst e
    exact .inl ⟨Nat.le_refl _, hd σ H p⟩
end L2
namespace L2
open PySem PySem.Spec PyProof.Rows
abbrev R2 := V → V → Hp → VK → Prop
def OpR (X : Cx) (f : Value → Value → Sem Value) (r : R2) : Prop :=
  ∀ (pins : List (Addr × Obj)) (s : Shared) (σ : St) (H : Hp) (x y : V) (v u : Value) (Q : VK), Inv X pins σ H s → RelV x v → RelV y u → r x y H Q →
    wpAny (model X.prog X.w) X.A (f v u) (EP X pins σ Q) X.xe s
def UnR (X : Cx) (f : Value → Sem Value) (r : V → Hp → VK → Prop) : Prop :=
  ∀ (pins : List (Addr × Obj)) (s : Shared) (σ : St) (H : Hp) (x : V) (v : Value) (Q : VK), Inv X pins σ H s → RelV x v → r x H Q →
    wpAny (model X.prog X.w) X.A (f v) (EP X pins σ Q) X.xe s
def CallR (X : Cx) (f : Value) (r : List V → Hp → VK → Prop) : Prop :=
  ∀ (pins : List (Addr × Obj)) (s : Shared) (σ : St) (H : Hp) (xs : List V) (us : List Value) (Q : VK), Inv X pins σ H s → Vals xs us → r xs H Q →
    wpAny (model X.prog X.w) X.A (call f us) (EP X pins σ Q) X.xe s
def tOp (r : R2) (ta tb : TE) : TE := fun σ H Q => ta σ H fun x H1 => tb σ H1 fun y H2 => r x y H2 Q
def tUn (r : V → Hp → VK → Prop) (ta : TE) : TE := fun σ H Q => ta σ H fun x H1 => r x H1 Q
def rI (C : Int → Int → Prop) (g : Int → Int → V) : R2 := fun x y H Q => ∃ i j, x = .int i ∧ y = .int j ∧ C i j ∧ Q (g i j) H
def rI0 (g : Int → Int → V) : R2 := fun x y H Q => ∃ i j, x = .int i ∧ y = .int j ∧ Q (g i j) H
def rU (g : Int → V) : V → Hp → VK → Prop := fun x H Q => ∃ i, x = .int i ∧ Q (g i) H
section
variable {X : Cx} {a b c : Expr} {ta tb tc : TE} {pos : Pos}
theorem binT (ha : PE X a ta) (hb : PE X b tb) {pins : List (Addr × Obj)} {s : Shared} {σ : St} {H : Hp} {R : V → V → Hp → Prop} (I : Inv X pins σ H s)
    (h : ta σ H fun x H1 => tb σ H1 fun y H2 => R x y H2) {Q : Value → Shared → Prop} {f : Value → Value → Sem Value}
    (hf : ∀ v u s2 x y H2, Inv X pins σ H2 s2 → RelV x v → RelV y u → R x y H2 → wpAny (model X.prog X.w) X.A (f v u) Q X.xe s2) :
    wpAny (model X.prog X.w) X.A (eval a X.env) (fun v s₁ => wpAny (model X.prog X.w) X.A (eval b X.env) (fun u s₂ => wpAny (model X.prog X.w) X.A (f v u) Q X.xe s₂) X.xe s₁) X.xe s := by
  refine thn (ha pins s σ H _ I h) fun v s1 ⟨x, H1, I1, r1, q1⟩ => ?_
  refine thn (hb pins s1 σ H1 _ I1 q1) fun u s2 ⟨y, H2, I2, r2, q2⟩ => ?_
  exact hf v u s2 x y H2 I2 r1 r2 q2
theorem pe_op {op : Operator} {r : R2} (ho : OpR X (binaryOp op) r) (ha : PE X a ta) (hb : PE X b tb) : PE X (.BinOp a op b pos) (tOp r ta tb) := by
  intro pins s σ H Q I h
  exact wpAny_BinOp (binT ha hb I h fun v u s2 x y H2 I2 rx ry q => ho pins s2 σ H2 x y v u Q I2 rx ry q)
theorem pe_un {op : UnaryOp} {r : V → Hp → VK → Prop} (ho : UnR X (unaryOp op) r) (ha : PE X a ta) : PE X (.UnaryOp op a pos) (tUn r ta) := by
  intro pins s σ H Q I h
  exact UnaryOp_ (thn (ha pins s σ H _ I h) fun v s1 ⟨x, H1, I1, r1, q1⟩ => ho pins s1 σ H1 x v Q I1 r1 q1)
theorem opI {f : Value → Value → Sem Value} {C : Int → Int → Prop} {g : Int → Int → Int}
    (rule : ∀ (i j : Int) (t u : Tok) (s : Shared) (Q : Value → Shared → Prop) (E : Value → Shared → Prop), C i j → Q (.int (g i j) s.toks) { s with toks := s.toks + 1 } → wpAny (model X.prog X.w) X.A (f (.int i t) (.int j u)) Q E s) :
    OpR X f (rI C fun i j => .int (g i j)) := by
  intro pins s σ H x y v u Q I rx ry h
  obtain ⟨i, j, rfl, rfl, hc, q⟩ := h
  obtain ⟨t, rfl⟩ := rx
  obtain ⟨t', rfl⟩ := ry
  exact rule i j t t' s _ _ hc ⟨.int (g i j), H, I.tok _, ⟨_, rfl⟩, q⟩
theorem opI0 {f : Value → Value → Sem Value} {g : Int → Int → Int}
    (rule : ∀ (i j : Int) (t u : Tok) (s : Shared) (Q : Value → Shared → Prop) (E : Value → Shared → Prop), Q (.int (g i j) s.toks) { s with toks := s.toks + 1 } → wpAny (model X.prog X.w) X.A (f (.int i t) (.int j u)) Q E s) :
    OpR X f (rI0 fun i j => .int (g i j)) := by
  intro pins s σ H x y v u Q I rx ry h
  obtain ⟨i, j, rfl, rfl, q⟩ := h
  obtain ⟨t, rfl⟩ := rx
  obtain ⟨t', rfl⟩ := ry
  exact rule i j t t' s _ _ ⟨.int (g i j), H, I.tok _, ⟨_, rfl⟩, q⟩
theorem opB0 {f : Value → Value → Sem Value} {g : Int → Int → Bool}
    (rule : ∀ (i j : Int) (t u : Tok) (s : Shared) (Q : Value → Shared → Prop) (E : Value → Shared → Prop), Q (.bool (g i j)) s → wpAny (model X.prog X.w) X.A (f (.int i t) (.int j u)) Q E s) :
    OpR X f (rI0 fun i j => .bl (g i j)) := by
  intro pins s σ H x y v u Q I rx ry h
  obtain ⟨i, j, rfl, rfl, q⟩ := h
  obtain ⟨t, rfl⟩ := rx
  obtain ⟨t', rfl⟩ := ry
  exact rule i j t t' s _ _ ⟨.bl (g i j), H, I, rfl, q⟩
def CDiv (i j : Int) : Prop := 0 < j ∧ j < 1073741824
def CPow (i j : Int) : Prop := 0 ≤ j ∧ j ≤ 1000000 ∧ i.natAbs < 2 ^ 64
def CMul (i j : Int) : Prop := (-(2 ^ 64) < i ∧ i < 2 ^ 64) ∨ (-(2 ^ 64) < j ∧ j < 2 ^ 64)
theorem CMul.ok {i j : Int} (h : CMul i j) : IntMulOk i j := by
  rcases h with ⟨h1, h2⟩ | ⟨h1, h2⟩
  · exact .of_left (intBits_le_64 h1 h2)
  · exact .of_right (intBits_le_64 h1 h2)
theorem op_add : OpR X (binaryOp .Add) (rI0 fun i j => .int (i + j)) := opI0 fun _ _ _ _ _ _ _ q => add_int q
theorem op_sub : OpR X (binaryOp .Sub) (rI0 fun i j => .int (i - j)) := opI0 fun _ _ _ _ _ _ _ q => sub_int q
theorem op_mul : OpR X (binaryOp .Mult) (rI CMul fun i j => .int (i * j)) := opI fun _ _ _ _ _ _ _ hc q => mul_int q hc.ok
theorem op_fdiv : OpR X (binaryOp .FloorDiv) (rI CDiv fun i j => .int (i / j)) := opI fun i j _ _ _ _ _ hc q => by
  have h1 : (0 : Int) < j := hc.1
  have h2 : j < 1073741824 := hc.2
  exact floordiv_int (by omega) (by rw [Int.fdiv_eq_ediv_of_nonneg i (by omega)]; exact q) (.inl (PyProof.noPylong_small (by omega)))
theorem op_mod : OpR X (binaryOp .Mod) (rI (fun _ j => 0 < j) fun i j => .int (i % j)) := opI fun i j _ _ _ _ _ hc q => by
  have h1 : (0 : Int) < j := hc
  exact mod_int' (by omega) (by rw [Int.fmod_eq_emod_of_nonneg i (by omega)]; exact q)
theorem op_pow : OpR X (binaryOp .Pow) (rI CPow fun i j => .int (i ^ j.toNat)) := opI fun _ _ _ _ _ _ _ hc q => pow_int_small hc.1 hc.2.1 hc.2.2 q
theorem unI {f : Value → Sem Value} {g : Int → Int}
    (rule : ∀ (i : Int) (t : Tok) (s : Shared) (Q : Value → Shared → Prop) (E : Value → Shared → Prop), Q (.int (g i) s.toks) { s with toks := s.toks + 1 } → wpAny (model X.prog X.w) X.A (f (.int i t)) Q E s) :
    UnR X f (rU fun i => .int (g i)) := by
  intro pins s σ H x v Q I rx h
  obtain ⟨i, rfl, q⟩ := h
  obtain ⟨t, rfl⟩ := rx
  exact rule i t s _ _ ⟨.int (g i), H, I.tok _, ⟨_, rfl⟩, q⟩
theorem un_neg : UnR X (unaryOp .USub) (rU fun i => .int (-i)) := unI fun _ _ _ _ _ q => neg_int q
end
def scal : V → V → Bool
  | .non, .non => true | .non, .int _ => true | .int _, .non => true | .non, .bl _ => true | .bl _, .non => true | .non, .str _ => true | .str _, .non => true
  | .int _, .int _ => true | .bl _, .bl _ => true | .str _, .str _ => true | .byt _, .byt _ => true
  | .int _, .str _ => true | .str _, .int _ => true | .bl _, .str _ => true | .str _, .bl _ => true
  | _, _ => false
def rEq : R2 := fun x y H Q => scal x y = true ∧ Q (.bl (decide (x = y))) H
def rNe : R2 := fun x y H Q => scal x y = true ∧ Q (.bl (!decide (x = y))) H
theorem dec_int {i j : Int} : decide (V.int i = V.int j) = (i == j) := by
  rw [Bool.eq_iff_iff]
  simp
theorem dec_bl {i j : Bool} : decide (V.bl i = V.bl j) = (i == j) := by
  rw [Bool.eq_iff_iff]
  simp
theorem dec_str {i j : Str} : decide (V.str i = V.str j) = (i == j) := by
  rw [Bool.eq_iff_iff]
  simp
theorem dec_byt {i j : Array UInt8} : decide (V.byt i = V.byt j) = (i.toList == j.toList) := by
  rw [Bool.eq_iff_iff]
  cases i
  cases j
  simp
section
variable {X : Cx} {a b c : Expr} {ta tb tc : TE} {pos : Pos}
theorem fin_bl {pins : List (Addr × Obj)} {σ : St} {H : Hp} {s : Shared} {Q : VK} {k k' : Bool} (I : Inv X pins σ H s) (q : Q (.bl k) H) (e : k = k') : EP X pins σ Q (.bool k') s := by
  subst e
  exact ⟨.bl k, H, I, rfl, q⟩
theorem op_eq : OpR X (compareOp .Eq) rEq := by
  intro pins s σ H x y v u Q I rx ry h
  obtain ⟨hs, q⟩ := h
  cases x with
  | non =>
    cases rx
    cases y with
    | non => cases ry; exact PySem.EqNone.eq_none_none (fin_bl I q (by simp))
    | bl j => cases ry; exact PySem.EqNone.eq_none_bool (fin_bl I q (by simp))
    | int j => obtain ⟨t', rfl⟩ := ry; exact PySem.EqNone.eq_none_int (fin_bl I q (by simp))
    | str j => obtain ⟨t', rfl⟩ := ry; exact PySem.EqNone.eq_none_str (fin_bl I q (by simp))
    | _ => exact absurd (show false = true from hs) Bool.false_ne_true
  | bl i =>
    cases rx
    cases y with
    | non => cases ry; exact PySem.EqNone.eq_bool_none (fin_bl I q (by simp))
    | bl j => cases ry; exact eq_bool (fin_bl I q dec_bl)
    | str j => obtain ⟨t', rfl⟩ := ry; exact PySem.EqMixed.eq_bool_str (fin_bl I q (by simp))
    | _ => exact absurd (show false = true from hs) Bool.false_ne_true
  | int i =>
    obtain ⟨t, rfl⟩ := rx
    cases y with
    | non => cases ry; exact PySem.EqNone.eq_int_none (fin_bl I q (by simp))
    | int j => obtain ⟨t', rfl⟩ := ry; exact eq_int (fin_bl I q dec_int)
    | str j => obtain ⟨t', rfl⟩ := ry; exact PySem.EqMixed.eq_int_str (fin_bl I q (by simp))
    | _ => exact absurd (show false = true from hs) Bool.false_ne_true
  | str i =>
    obtain ⟨t, rfl⟩ := rx
    cases y with
    | non => cases ry; exact PySem.EqNone.eq_str_none (fin_bl I q (by simp))
    | bl j => cases ry; exact PySem.EqMixed.eq_str_bool (fin_bl I q (by simp))
    | int j => obtain ⟨t', rfl⟩ := ry; exact PySem.EqMixed.eq_str_int (fin_bl I q (by simp))
    | str j => obtain ⟨t', rfl⟩ := ry; exact eq_str (fin_bl I q dec_str)
    | _ => exact absurd (show false = true from hs) Bool.false_ne_true
  | byt i =>
    obtain ⟨t, rfl⟩ := rx
    cases y with
    | byt j => obtain ⟨t', rfl⟩ := ry; exact PySem.W.eq_bytes (fin_bl I q dec_byt)
    | _ => exact absurd (show false = true from hs) Bool.false_ne_true
  | _ => cases y <;> exact absurd (show false = true from hs) Bool.false_ne_true
theorem op_ne : OpR X (compareOp .NotEq) rNe := by
  intro pins s σ H x y v u Q I rx ry h
  obtain ⟨hs, q⟩ := h
  cases x with
  | non =>
    cases rx
    cases y with
    | non => cases ry; exact PySem.EqNone.ne_none_none (fin_bl I q (by simp))
    | bl j => cases ry; exact PySem.EqNone.ne_none_bool (fin_bl I q (by simp))
    | int j => obtain ⟨t', rfl⟩ := ry; exact PySem.EqNone.ne_none_int (fin_bl I q (by simp))
    | str j => obtain ⟨t', rfl⟩ := ry; exact PySem.EqNone.ne_none_str (fin_bl I q (by simp))
    | _ => exact absurd (show false = true from hs) Bool.false_ne_true
  | bl i =>
    cases rx
    cases y with
    | non => cases ry; exact PySem.EqNone.ne_bool_none (fin_bl I q (by simp))
    | bl j => cases ry; exact ne_bool (fin_bl I q (congrArg not dec_bl))
    | str j => obtain ⟨t', rfl⟩ := ry; exact PySem.EqMixed.ne_bool_str (fin_bl I q (by simp))
    | _ => exact absurd (show false = true from hs) Bool.false_ne_true
  | int i =>
    obtain ⟨t, rfl⟩ := rx
    cases y with
    | non => cases ry; exact PySem.EqNone.ne_int_none (fin_bl I q (by simp))
    | int j => obtain ⟨t', rfl⟩ := ry; exact ne_int (fin_bl I q (congrArg not dec_int))
    | str j => obtain ⟨t', rfl⟩ := ry; exact PySem.EqMixed.ne_int_str (fin_bl I q (by simp))
    | _ => exact absurd (show false = true from hs) Bool.false_ne_true
  | str i =>
    obtain ⟨t, rfl⟩ := rx
    cases y with
    | non => cases ry; exact PySem.EqNone.ne_str_none (fin_bl I q (by simp))
    | bl j => cases ry; exact PySem.EqMixed.ne_str_bool (fin_bl I q (by simp))
    | int j => obtain ⟨t', rfl⟩ := ry; exact PySem.EqMixed.ne_str_int (fin_bl I q (by simp))
    | str j => obtain ⟨t', rfl⟩ := ry; exact ne_str (fin_bl I q (congrArg not dec_str))
    | _ => exact absurd (show false = true from hs) Bool.false_ne_true
  | byt i =>
    obtain ⟨t, rfl⟩ := rx
    cases y with
    | byt j => obtain ⟨t', rfl⟩ := ry; exact PySem.W.ne_bytes (fin_bl I q (congrArg not dec_byt))
    | _ => exact absurd (show false = true from hs) Bool.false_ne_true
  | _ => cases y <;> exact absurd (show false = true from hs) Bool.false_ne_true
theorem op_lt : OpR X (compareOp .Lt) (rI0 fun i j => .bl (decide (i < j))) := opB0 fun _ _ _ _ _ _ _ q => lt_int q
theorem op_gt : OpR X (compareOp .Gt) (rI0 fun i j => .bl (decide (j < i))) := opB0 fun _ _ _ _ _ _ _ q => gt_int q
theorem nomark (b : Expr) {op : CmpOp} (h : op ≠ .In := by decide) (h2 : op ≠ .NotIn := by decide) : behindInMarks op b = false := by
  have e1 : (op == CmpOp.In) = false := by cases op <;> first | rfl | exact absurd rfl h
  have e2 : (op == CmpOp.NotIn) = false := by cases op <;> first | rfl | exact absurd rfl h2
  cases b <;> simp [behindInMarks, e1, e2]
theorem pe_cmpR {op : CmpOp} {r : R2} (ho : OpR X (compareOp op) r) (ha : PE X a ta) (hb : PE X b tb) (hm : behindInMarks op b = false) : PE X (.Compare a [op] [b] pos) (tOp r ta tb) := by
  intro pins s σ H Q I h
  exact wpAny_Compare1 (binT ha hb I h fun v u s2 x y H2 I2 rx ry q => ho pins s2 σ H2 x y v u Q I2 rx ry q) hm
def tTest (t : TE) : TT := fun σ H Q => t σ H fun x H' => ∃ k, x = .bl k ∧ Q k H'
theorem pt_cmpR {op : CmpOp} {r : R2} (ho : OpR X (compareOp op) r) (ha : PE X a ta) (hb : PE X b tb) (hm : behindInMarks op b = false) : PT X (.Compare a [op] [b] pos) (tTest (tOp r ta tb)) := by
  intro pins s σ H Q I h
  refine wpAny_isTrue_Compare1 (thn (ha pins s σ H _ I h) fun v s1 ⟨x, H1, I1, r1, q1⟩ => thn (hb pins s1 σ H1 _ I1 q1) fun u s2 ⟨y, H2, I2, r2, q2⟩ =>
    thn (ho pins s2 σ H2 x y v u _ I2 r1 r2 q2) fun c s3 ⟨z, H3, I3, r3, k, e, q3⟩ => ?_) hm
  subst e
  cases r3
  exact wpAny_truthy_bool ⟨H3, I3, q3⟩
theorem line63 : (sizeLine : Nat) < 2 ^ 63 := by rw [sizeLine_eq]; decide
theorem op_add_str : OpR X (binaryOp .Add) (fun x y H Q => ∃ i j, x = .str i ∧ y = .str j ∧ i.length + j.length ≤ sizeLine ∧ Q (.str (i ++ j)) H) := by
  intro pins s σ H x y v u Q I rx ry h
  obtain ⟨i, j, rfl, rfl, hz, q⟩ := h
  obtain ⟨t, rfl⟩ := rx
  obtain ⟨t', rfl⟩ := ry
  exact add_str (fun t' tk => ⟨.str (i ++ j), H, I.tok _, ⟨_, rfl⟩, q⟩) hz
theorem vals1 {x : V} {us : List Value} (r : Vals [x] us) : ∃ u, us = [u] ∧ RelV x u := by
  cases r with
  | cons r1 r2 => cases r2; exact ⟨_, rfl, r1⟩
theorem vals2 {x y : V} {us : List Value} (r : Vals [x, y] us) : ∃ u w', us = [u, w'] ∧ RelV x u ∧ RelV y w' := by
  cases r with
  | cons r1 r2 =>
    cases r2 with
    | cons r3 r4 => cases r4; exact ⟨_, _, rfl, r1, r3⟩
theorem call_max2 (hc : X.calm = true) : CallR X (.builtin "max") (fun xs H Q => ∃ i j, xs = [.int i, .int j] ∧ Q (.int (if j > i then j else i)) H) := by
  intro pins s σ H xs us Q I r h
  obtain ⟨i, j, rfl, q⟩ := h
  obtain ⟨u, w', rfl, ⟨t, rfl⟩, ⟨t', rfl⟩⟩ := vals2 r
  refine max_two_ints (I.ok.hd hc) fun h' tk k => ⟨_, H, I.kept k, ?_, q⟩
  by_cases hj : j > i
  · rw [if_pos hj, if_pos hj]; exact ⟨_, rfl⟩
  · rw [if_neg hj, if_neg hj]; exact ⟨_, rfl⟩
theorem call_min2 (hc : X.calm = true) : CallR X (.builtin "min") (fun xs H Q => ∃ i j, xs = [.int i, .int j] ∧ Q (.int (if j < i then j else i)) H) := by
  intro pins s σ H xs us Q I r h
  obtain ⟨i, j, rfl, q⟩ := h
  obtain ⟨u, w', rfl, ⟨t, rfl⟩, ⟨t', rfl⟩⟩ := vals2 r
  refine min_two_ints (I.ok.hd hc) fun h' tk k => ⟨_, H, I.kept k, ?_, q⟩
  by_cases hj : j < i
  · rw [if_pos hj, if_pos hj]; exact ⟨_, rfl⟩
  · rw [if_neg hj, if_neg hj]; exact ⟨_, rfl⟩
theorem call_int1 : CallR X (.type "int") (fun xs H Q => (∃ i, xs = [.int i] ∧ Q (.int i) H) ∨ ∃ k, xs = [.bl k] ∧ Q (.int (if k then 1 else 0)) H) := by
  intro pins s σ H xs us Q I r h
  rcases h with ⟨i, rfl, q⟩ | ⟨k, rfl, q⟩
  · obtain ⟨u, rfl, t, rfl⟩ := vals1 r
    exact call_int_int ⟨.int i, H, I, ⟨_, rfl⟩, q⟩
  · obtain ⟨u, rfl, r1⟩ := vals1 r
    cases r1
    exact call_int_bool ⟨.int (if k then 1 else 0), H, I.tok _, ⟨_, rfl⟩, q⟩
def LenV (K : PySem.W.Frag) (x : V) (H : Hp) (n : Nat) : Prop :=
  match x with
  | .str y => y.length ≤ sizeLine ∧ n = y.length
  | .byt y => y.size ≤ sizeLine ∧ n = y.size
  | .ref p => (∃ xs, SqL K H p xs ∧ n = xs.length) ∨ ∃ xs, SqT K H p xs ∧ n = xs.length
  | _ => False
theorem call_len : CallR X (.builtin "len") (fun xs H Q => ∃ x n, xs = [x] ∧ LenV X.K x H n ∧ Q (.int n) H) := by
  intro pins s σ H xs us Q I r h
  obtain ⟨x, n, rfl, e, q⟩ := h
  obtain ⟨u, rfl, rx⟩ := vals1 r
  have hl := line63
  have hs : sizeLine = 16777216 := sizeLine_eq
  cases x with
  | str y =>
    obtain ⟨t, rfl⟩ := rx
    obtain ⟨hy, e'⟩ : y.length ≤ sizeLine ∧ n = y.length := e
    subst e'
    exact len_str (by omega) ⟨.int _, H, I.tok _, ⟨_, rfl⟩, q⟩
  | byt y =>
    obtain ⟨t, rfl⟩ := rx
    obtain ⟨hy, e'⟩ : y.size ≤ sizeLine ∧ n = y.size := e
    subst e'
    exact PySem.W.len_bytes (by omega) ⟨.int _, H, I.tok _, ⟨_, rfl⟩, q⟩
  | ref p =>
    cases rx
    have e' : (∃ xs, SqL X.K H p xs ∧ n = xs.length) ∨ ∃ xs, SqT X.K H p xs ∧ n = xs.length := e
    rcases e' with ⟨xs, hx, e'⟩ | ⟨xs, hx, e'⟩
    · subst e'
      obtain ⟨its, r', pl, hz⟩ := I.list hx
      have hlen := r'.length
      exact Calls.call_len_list pl.isList (by simp only [List.size_toArray]; omega) ⟨.int xs.length, H, I.tok _, ⟨_, by simp only [List.size_toArray]; rw [hlen]⟩, q⟩
    · subst e'
      obtain ⟨its, r', pl, hz⟩ := I.tuple hx
      have hlen := r'.length
      exact len_tuple pl (by simp only [List.size_toArray]; omega) ⟨.int xs.length, H, I.tok _, ⟨_, by simp only [List.size_toArray]; rw [hlen]⟩, q⟩
  | _ => exact (show False from e).elim
end
end L2
namespace L2
open PySem PySem.Spec PyProof.Rows
structure ObjM (h : Heap) (x dx C : Addr) (mA : Str → Option Value) : Prop where
  obj : h.get? x = some (PySem.W.instObj C dx)
  ns : h.Ns1 dx mA
  ne : dx ≠ x
theorem lookIn_ns {h : Heap} {dx : Addr} {mA : Str → Option Value} (n : h.Ns1 dx mA) : ∃ od, h.get? dx = some od ∧ ∀ name, PySem.W.lookIn name od = some (mA name) := by
  obtain ⟨o, es, ep, ho, hd, hk, _, hm⟩ := n
  refine ⟨o, ho, fun name => ?_⟩
  have e := hm name
  unfold nsFind findBy at e
  rw [← Array.find?_toList] at e
  unfold PySem.W.lookIn
  rw [hd]
  dsimp only
  split
  · rename_i y q
    rw [q] at e
    exact congrArg some e
  · rename_i q
    rw [q] at e
    have a : es.toList.any (·.refKey) = false := by
      rw [List.any_eq_false]
      intro y hy
      obtain ⟨z, t, hkey⟩ := hk y (Array.mem_toList_iff.mp hy)
      simp [DictEntry.refKey, hkey]
    have a' : ¬ es.toList.any (·.refKey) = true := by rw [a]; exact Bool.false_ne_true
    rw [if_neg a']
    exact congrArg some e
theorem ObjM.look {h : Heap} {x dx C : Addr} {mA : Str → Option Value} (I : ObjM h x dx C mA) : ∃ od, PySem.W.InstAt h x (PySem.W.instObj C dx) C (some od) ∧ ∀ name, PySem.W.lookIn name od = some (mA name) :=
  let ⟨od, ho, hl⟩ := lookIn_ns I.ns
  ⟨od, ⟨I.obj, rfl, rfl, ho⟩, hl⟩
section
variable {prog : Program} {w : World} {A : Around} {E : Value → Shared → Prop} {s : Shared} {K : PySem.W.Frag} {x dx C f : Addr} {mA : Str → Option Value} {name : Str} {v : Value}
end
section
variable {P : Program} {w : World} {H H' : Hp} {h h' : Heap} {a C dx : Addr} {fs fs' : List (Str × V)}
theorem ins_get (hok : HOk P w H h) (e : H a = some (.ins C dx fs)) : ∃ mA, ObjM h a dx C mA ∧ (∀ f, RelO (fs.lookup f) (mA f)) ∧ PySem.Within mA (fs.map (·.1)) ∧ fs.length ≤ 1000 ∧ H dx = some (.own a) := by
  obtain ⟨d, z, ne, ob, mA, n, r, q⟩ := (show ObjOk P w H h a (.ins C dx fs) from hok a _ e)
  exact ⟨mA, ⟨ob, n, ne⟩, r, q, z, d⟩
end
structure Cls (K : PySem.W.Frag) (C : Addr) : Prop where
  pg : PySem.W.plainGet K C Str.empty = true
  hd : PySem.W.hasDictIn K C = true
  po : PySem.W.plainOver K C = true
  sa : PySem.W.findIn K (.ref C) "__setattr__" = some (some (.builtin "object.__setattr__"))
theorem Cls.get {K : PySem.W.Frag} {C : Addr} (c : Cls K C) (f : Str) : PySem.W.plainGet K C f = true := c.pg
structure Con (K : PySem.W.Frag) (C : Addr) (f : Str) (v : V) (u : Value) : Prop where
  at_ : PySem.W.findIn K (.ref C) f = some (some u)
  rel : RelV v u
  get : PySem.W.specialIn K u "__get__" = some none
  cp : PySem.W.copiedNames.contains f = false
structure Meth (K : PySem.W.Frag) (C : Addr) (m : Str) (f : Addr) : Prop where
  at_ : PySem.W.findIn K (.ref C) m = some (some (.ref f))
  fn : PySem.W.isFn K (.ref f) = true
  kp : PySem.W.keepIn K (.ref f) = true
section
variable {X : Cx} {pins : List (Addr × Obj)} {σ : St} {H : Hp} {s : Shared} {a C dx : Addr} {fs : List (Str × V)} {f : Str} {v : V} {A : Around} {E : Value → Shared → Prop}
end
section
variable {X : Cx} {o e value : Expr} {f : Str} {pos pos' tpos : Pos} {ta tv : TE}
end
section
variable {X : Cx} {pins : List (Addr × Obj)} {σ : St} {H : Hp} {s : Shared} {A : Around} {E : Value → Shared → Prop} {Q : Value → Shared → Prop} {c : Value} {b : Bool}
inductive TyOf (K : PySem.W.Frag) (H : Hp) : V → Value → Prop where
  | non : TyOf K H .non (.type "NoneType")
  | bl (x : Bool) : TyOf K H (.bl x) (.type "bool")
  | int (i : Int) : TyOf K H (.int i) (.type "int")
  | str (x : Str) : TyOf K H (.str x) (.type "str")
  | flt (x : UInt64) : TyOf K H (.flt x) (.type "float")
  | lst {a : Addr} {xs : List V} (e : H a = some (.lst xs)) : TyOf K H (.ref a) (.type "list")
  | frz {a : Addr} {o : Obj} {xs : List V} (e : H a = some (.frz o (.lst xs))) : TyOf K H (.ref a) (.type "list")
  | tup {a : Addr} {xs : List V} (e : H a = some (.tup xs)) : TyOf K H (.ref a) (.type "tuple")
  | dK {a : Addr} {kvs : List (Key × V)} (e : H a = some (.dK kvs)) : TyOf K H (.ref a) (.type "dict")
  | dT {a : Addr} {kvs : List (List Key × V)} (e : H a = some (.dT kvs)) : TyOf K H (.ref a) (.type "dict")
  | ins {a C dx : Addr} {fs : List (Str × V)} (e : H a = some (.ins C dx fs)) (cl : Cls K C) (ha : PySem.W.findIn K (.ref C) "__class__" = some (some (.builtin "object.__class__")))
      (hn : PySem.W.specialIn K (.builtin "object.__class__") "__get__" = some (some (.builtin "getset_descriptor.__get__"))) (htk : PySem.W.takesIn K (.builtin "object.__class__") = some true)
      (hm : PySem.W.mroIn K C (.type "object") = some true) : TyOf K H (.ref a) (.ref C)
theorem isinst_ok {x : V} {u t : Value} (I : Inv X pins σ H s) (rx : RelV x u) (ty : TyOf X.K H x t) (e : PySem.W.kitOne X.K t c = some b) (h : ∀ tk, Q (.bool b) { s with toks := tk }) :
    wpAny (model X.prog X.w) A (call (.builtin "isinstance") [u, c]) Q E s := by
  cases ty with
  | non => cases (show u = Value.none from rx); exact PySem.W.kia_one PySem.W.kitx_none I.kIn True.intro e (fun z => nomatch z) h
  | bl y => cases (show u = Value.bool y from rx); exact PySem.W.kia_one PySem.W.kitx_bool I.kIn True.intro e (fun z => nomatch z) h
  | int i => obtain ⟨t, q⟩ := (show ∃ t, u = Value.int i t from rx); cases q; exact PySem.W.kia_one PySem.W.kitx_int I.kIn True.intro e (fun z => nomatch z) h
  | str y => obtain ⟨t, q⟩ := (show ∃ t, u = Value.str y t from rx); cases q; exact PySem.W.kia_one PySem.W.kitx_str I.kIn True.intro e (fun z => nomatch z) h
  | flt y => obtain ⟨t, q⟩ := (show ∃ t, u = Value.float y t from rx); cases q; exact PySem.W.kia_one PySem.W.kitx_float I.kIn True.intro e (fun z => nomatch z) h
  | @lst a xs ea =>
    cases (show u = Value.ref a from rx)
    obtain ⟨_, _, n, _, h1⟩ := (show ObjOk X.prog X.w H s.heap a (.lst xs) from I.hok a _ ea)
    exact PySem.W.kia_one PySem.W.kitx_list I.kIn ⟨_, h1, rfl⟩ e (fun z => nomatch z) h
  | @frz a ob xs ea =>
    cases (show u = Value.ref a from rx)
    obtain ⟨_, _, _, n, _, h1⟩ := (show ObjOk X.prog X.w H s.heap a (.frz ob (.lst xs)) from I.hok a _ ea)
    exact PySem.W.kia_one PySem.W.kitx_list I.kIn ⟨_, h1, rfl⟩ e (fun z => nomatch z) h
  | @tup a xs ea =>
    cases (show u = Value.ref a from rx)
    obtain ⟨_, _, _, p⟩ := (show ObjOk X.prog X.w H s.heap a (.tup xs) from I.hok a _ ea)
    obtain ⟨o, h1, h2, _⟩ := p
    exact PySem.W.kia_one PySem.W.kitx_tuple I.kIn ⟨o, h1, h2⟩ e (fun z => nomatch z) h
  | @dK a kvs ea =>
    cases (show u = Value.ref a from rx)
    obtain ⟨_, _, vs, _, p⟩ := (show ObjOk X.prog X.w H s.heap a (.dK kvs) from I.hok a _ ea)
    obtain ⟨o, es, ep, h1, h2, _⟩ := p
    exact PySem.W.kia_one PySem.W.kitx_dict I.kIn ⟨o, h1, h2.1⟩ e (fun z => nomatch z) h
  | @dT a kvs ea =>
    cases (show u = Value.ref a from rx)
    obtain ⟨_, _, xs, _, o, es, ep, h1, h2, _⟩ := (show ObjOk X.prog X.w H s.heap a (.dT kvs) from I.hok a _ ea)
    exact PySem.W.kia_one PySem.W.kitx_dict I.kIn ⟨o, h1, h2.1⟩ e (fun z => nomatch z) h
  | @ins a C dx fs ea cl ha hn htk hm =>
    cases (show u = Value.ref a from rx)
    obtain ⟨mA, O, _⟩ := ins_get I.hok ea
    obtain ⟨od, J, _⟩ := O.look
    exact PySem.W.kia_one (PySem.W.kitx_own (cl.get _) cl.hd ha hn htk hm) I.kIn J e (fun z => nomatch z) h
end
end L2
namespace L2
open PySem PySem.Spec PyProof.Rows
structure Room (k : Nat) (A : Around) : Prop where
  hd : A.handled = none
  dp : A.depth + 3 * k + 5 < recursionLimit
  un : A.units + 16 * k + 200 < cLine
theorem Room.mono {j k : Nat} {A : Around} (r : Room k A) (h : j ≤ k) : Room j A := ⟨r.hd, by have := r.dp; omega, by have := r.un; omega⟩
theorem Room.deeper {k : Nat} {A : Around} (r : Room (k + 1) A) (env : Env) : Room k (A.deeper env) :=
  ⟨r.hd, by have := r.dp; show A.depth + 1 + 3 * k + 5 < _; omega, by have := r.un; show A.units + 3 + 16 * k + 200 < _; omega⟩
theorem Room.in1 {k : Nat} {A : Around} (r : Room (k + 1) A) : Room k A.in1 :=
  ⟨r.hd, by have := r.dp; show A.depth + 3 * k + 5 < _; omega, by have := r.un; show A.units + 1 + 16 * k + 200 < _; omega⟩
theorem Room.depth {k : Nat} {A : Around} (r : Room k A) : A.depth < recursionLimit := by have := r.dp; omega
theorem Room.units {k : Nat} {A : Around} (r : Room k A) : A.units + 64 < cLine := by have := r.un; omega
def tNil : TA := fun _ H Q => Q [] H
def tCons (ta : TE) (tr : TA) : TA := fun σ H Q => ta σ H fun x H1 => tr σ H1 fun xs H2 => Q (x :: xs) H2
section
variable {X : Cx} {e : Expr} {es : List Expr} {te : TE} {t : TA} {pos : Pos}
theorem pa_nil : PA X [] tNil := fun _ _ _ _ H Q I h => Calls.spliced_nil ⟨[], H, I, .nil, h⟩
theorem pa_cons (ha : PE X e te) (hr : PA X es t) (hs : starEach (e :: es) X.env = (false, eval e X.env) :: starEach es X.env := by rfl) : PA X (e :: es) (tCons te t) := by
  intro pos pins s σ H Q I h
  rw [hs]
  show wpAny _ _ (spliced ((false, eval e X.env) :: backTo pos (starEach es X.env))) _ _ s
  refine Calls.spliced_cons (thn (ha pins s σ H _ I h) fun u s1 ⟨x, H1, I1, r1, q1⟩ => ?_)
  exact thn (hr pos pins s1 σ H1 _ I1 q1) fun us s2 ⟨xs, H2, I2, r2, q2⟩ => ⟨x :: xs, H2, I2, .cons r1 r2, q2⟩
def tTup (t : TA) : TE := fun σ H Q => t σ H fun xs H1 => xs.length ≤ sizeLine ∧ ∀ p, H1 p = none → Q (.ref p) (upd H1 p (.tup xs))
def tLst (t : TA) : TE := fun σ H Q => t σ H fun xs H1 => xs.length ≤ sizeLine ∧ ∀ p, H1 p = none → Q (.ref p) (upd H1 p (.lst xs))
theorem pe_tup {x1} (h : PA X es t) : PE X (.Tuple es x1 pos) (tTup t) := by
  intro pins s σ H Q I hq
  refine wpAny_Tuple_spliced (thn (h pos pins s σ H _ I hq) fun us s1 ⟨xs, H1, I1, r, z, q⟩ => ⟨by rw [← r.length]; exact z, ?_⟩)
  have hf : H1 s1.heap.objs.size = none := I1.hok.fresh (Nat.le_refl _)
  refine ⟨.ref s1.heap.objs.size, upd H1 s1.heap.objs.size (.tup xs), I1.laid (t' := s1.toks) (fun b u e => Heap.get?_push_of_some _ e) (Nat.le_refl _) ?_, rfl, q _ hf⟩
  exact ⟨z, us, r, ⟨_, Heap.get?_push_size _ rfl, rfl, _, rfl⟩⟩
theorem pe_lst (h : PA X es t) : PE X (.List es pos) (tLst t) := by
  intro pins s σ H Q I hq
  refine wpAny_List_spliced (thn (h pos pins s σ H _ I hq) fun us s1 ⟨xs, H1, I1, r, z, q⟩ => ⟨by rw [← r.length]; exact z, ?_⟩)
  have hf : H1 s1.heap.objs.size = none := I1.hok.fresh (Nat.le_refl _)
  refine ⟨.ref s1.heap.objs.size, upd H1 s1.heap.objs.size (.lst xs), I1.laid (t' := s1.toks) (fun b u e => Heap.get?_push_of_some _ e) (Nat.le_refl _) ?_, rfl, q _ hf⟩
  exact ⟨z, us, 0, r, Heap.get?_push_size _ rfl⟩
end
abbrev Sp := List V → Hp → VK → XK → Prop
abbrev CXT := List Env → Hp → Shared → XK → Value → Shared → Prop
structure Env0 (P : Program) (w : World) (K : PySem.W.Frag) (mg : Str → Option Value) (base : Heap) (A : Around) (outer : List Env) (s : Shared) (H : Hp) : Prop where
  frames : A.frames = some outer
  mod : Mod K mg base
  bs : ∀ b o, base.get? b = some o → s.heap.get? b = some o ∧ H b = none
  bsz : base.objs.size ≤ s.heap.objs.size
  funs : s.heap.FunFrames base outer
  frf : ∀ b ∈ frs outer, H b = none
  hok : HOk P w H s.heap
  bare : AllBare s.gens
def CE (outer : List Env) (P : Program) (w : World) (H : Hp) (s : Shared) (Q : VK) (u : Value) (s' : Shared) : Prop :=
  ∃ v H', s'.os = s.os ∧ AllBare s'.gens ∧ Un (frs outer) [] H H' s.heap s'.heap ∧ HOk P w H' s'.heap ∧ RelV v u ∧ Q v H'
def CR (CX : CXT) (outer : List Env) (P : Program) (w : World) (H : Hp) (s : Shared) (Q : VK) (E : XK) (r : Result) (s' : Shared) : Prop :=
  match r with
  | .ok (.ret u) => CE outer P w H s Q u s'
  | .ok _ => False
  | .error e => CX outer H s E e s'
structure FnOk (P : Program) (w : World) (K : PySem.W.Frag) (mg : Str → Option Value) (base : Heap) (CX : CXT) (k : Nat) (f : Addr) (fd : FuncData) (ps : List Str) (sp : Sp) : Prop where
  len : ∀ vs H Q E, sp vs H Q E → vs.length = ps.length
  run : ∀ (A : Around) (outer : List Env) (s : Shared) (H : Hp) (args : Args) (us : List Value) (vs : List V) (Q : VK) (E : XK), Room k A → Env0 P w K mg base A outer s H → BindsTo s fd args (ps.zip us) → Vals vs us → sp vs H Q E →
    codeAny (model P w) A (.call (.ref f) args) (CR CX outer P w H s Q E) s
theorem FnOk.mono {P : Program} {w : World} {K : PySem.W.Frag} {mg : Str → Option Value} {base : Heap} {CX : CXT} {j k : Nat} {f : Addr} {fd : FuncData} {ps : List Str} {sp : Sp} (F : FnOk P w K mg base CX j f fd ps sp) (h : j ≤ k) :
    FnOk P w K mg base CX k f fd ps sp := ⟨F.len, fun A outer s H args us vs Q E hr => F.run A outer s H args us vs Q E (hr.mono h)⟩
theorem FnOk.imp {P : Program} {w : World} {K : PySem.W.Frag} {mg : Str → Option Value} {base : Heap} {CX : CXT} {k : Nat} {f : Addr} {fd : FuncData} {ps : List Str} {sp sp' : Sp} (F : FnOk P w K mg base CX k f fd ps sp)
    (h : ∀ vs H Q E, sp' vs H Q E → sp vs H Q E) : FnOk P w K mg base CX k f fd ps sp' :=
  ⟨fun vs H Q E q => F.len vs H Q E (h _ _ _ _ q), fun A outer s H args us vs Q E hr he hb hv hs => F.run A outer s H args us vs Q E hr he hb hv (h _ _ _ _ hs)⟩
theorem Env0.in1 {P : Program} {w : World} {K : PySem.W.Frag} {mg : Str → Option Value} {base : Heap} {A : Around} {outer : List Env} {s : Shared} {H : Hp} (e : Env0 P w K mg base A outer s H) :
    Env0 P w K mg base A.in1 outer s H := ⟨e.frames, e.mod, e.bs, e.bsz, e.funs, e.frf, e.hok, e.bare⟩
section
variable {X : Cx} {pins : List (Addr × Obj)} {σ : St} {H : Hp} {s s' : Shared}
theorem Inv.env0 (I : Inv X pins σ H s) : Env0 X.prog X.w X.K X.mg X.base X.A X.stack s H :=
  ⟨I.ok.frames, I.ok.mod, I.bs, Nat.le_trans I.ok.bsz I.sz, I.stack, I.stkFree, I.hok, I.bare⟩
theorem Inv.after {Q : VK} {u : Value} (I : Inv X pins σ H s) (h : CE X.stack X.prog X.w H s Q u s') : EP X pins σ Q u s' := by
  obtain ⟨v, H', os, bare, un, hok, r, q⟩ := h
  obtain ⟨hh, g, d, t, os'⟩ := s'
  obtain rfl : os' = s.os := os
  exact ⟨v, H', I.call (h' := hh) (g' := g) (d' := d) (t' := t) (ch := []) un hok bare (fun b z => absurd z (by simp)), r, q⟩
end
def tCall (sp : Sp) (dvs : List V) (E : XK) (t : TA) : TE := fun σ H Q => t σ H fun vs H1 => sp (vs ++ dvs) H1 Q E
def Binds (K : PySem.W.Frag) (fd : FuncData) (ps : List Str) (ds : List Value) : Prop :=
  ∀ (s : Shared) (us : List Value), K.In s.heap → (us ++ ds).length = ps.length → BindsTo s fd ⟨us, []⟩ (ps.zip (us ++ ds))
theorem Binds.all {K : PySem.W.Frag} {fd : FuncData} {ps : List Str} (h : ∀ us : List Value, us.length = ps.length → bindArgs fd ⟨us, []⟩ = pure (ps.zip us)) : Binds K fd ps [] := fun s us _ hl => by
  rw [List.append_nil] at hl ⊢
  exact .of_eq (h us hl)
def Passes (CX : CXT) (X : Cx) (E : XK) : Prop := ∀ (pins : List (Addr × Obj)) (σ : St) (H : Hp) (s : Shared) (e : Value) (s' : Shared), Inv X pins σ H s → CX X.stack H s E e s' → X.xe e s'
section
variable {X : Cx} {CX : CXT} {k : Nat} {f C : Addr} {fd : FuncData} {ps : List Str} {sp : Sp} {dvs : List V} {ds : List Value} {E : XK} {x m : Str} {p pos apos : Pos} {e o : Expr} {es : List Expr} {ta : TE} {t : TA}
theorem run_fn {pins : List (Addr × Obj)} {σ : St} {H : Hp} {s : Shared} {Q : VK} {us : List Value} {vs : List V} (F : FnOk X.prog X.w X.K X.mg X.base CX k f fd ps sp) (hr : Room k X.A) (hb : Binds X.K fd ps ds) (hd : Vals dvs ds) (hx : Passes CX X E)
    (I : Inv X pins σ H s) (r : Vals vs us) (h : sp (vs ++ dvs) H Q E) : wpAny (model X.prog X.w) X.A (call (.ref f) us) (EP X pins σ Q) X.xe s := by
  have r2 : Vals (vs ++ dvs) (us ++ ds) := r.append hd
  have hl : (us ++ ds).length = ps.length := by rw [← r2.length]; exact F.len _ _ _ _ h
  refine wpAny_call (codeAny_mono (F.run X.A X.stack s H ⟨us, []⟩ (us ++ ds) (vs ++ dvs) Q E hr I.env0 (hb s us I.kIn hl) r2 h) fun r s' hq => ?_)
  cases r with
  | error e => exact hx pins σ H s e s' I hq
  | ok fl =>
    cases fl with
    | ret u => exact I.after hq
    | next => exact False.elim hq
    | brk => exact False.elim hq
    | cont => exact False.elim hq
theorem pe_call (F : FnOk X.prog X.w X.K X.mg X.base CX k f fd ps sp) (hr : Room k X.A) (hg : Gl X x) (hm : X.mg x = some (.ref f)) (hk : PySem.W.keepIn X.K (.ref f) = true) (hb : Binds X.K fd ps ds) (hd : Vals dvs ds) (hx : Passes CX X E)
    (ha : PA X (e :: es) t) (hdb : (x == ("__debug__" : Str)) = false := by decide) (he : starEach (e :: es) X.env = (false, eval e X.env) :: starEach es X.env := by rfl) (hpl : (backTo pos (starEach es X.env)).any (·.1) = false := by rfl) :
    PE X (.Call (.Name x p) (e :: es) [] pos) (tCall sp dvs E t) := by
  intro pins s σ H Q I h
  refine wpAny_Call_Name_kw (ld_glob I hg hm ?_ hdb)
  refine PySem.W.callWith_K (h₀ := X.base) I.ok.mod.kin hk (thn (ha pos pins s σ H _ I h) fun us s1 ⟨vs, H1, I1, r, q⟩ => ⟨I1.kIn, ?_⟩) he hpl
  exact run_fn F hr hb hd hx I1 r q
structure Mk (K : PySem.W.Frag) (C f : Addr) : Prop where
  makes : PySem.W.makesIn K C = true
  init : PySem.W.findIn K (.ref C) "__init__" = some (some (.ref f))
  fn : PySem.W.isFn K (.ref f) = true
  kp : PySem.W.keepIn K (.ref C) = true
end
def PK (X : Cx) (kws : List Keyword) (t : TA) : Prop :=
  ∀ (pos : Pos) (pins : List (Addr × Obj)) (s : Shared) (σ : St) (H : Hp) (Q : List V → Hp → Prop), Inv X pins σ H s → t σ H Q → wpAny (model X.prog X.w) X.A (evalAll ((backToKw pos (keywordEach kws X.env)).map (·.2))) (AP X pins σ Q) X.xe s
section
variable {X : Cx} {CX : CXT} {k : Nat} {f C : Addr} {fd : FuncData} {ps ks : List Str} {sp : Sp} {E : XK} {x m : Str} {p pos apos kpos : Pos} {e o : Expr} {es : List Expr} {kws : List Keyword} {te ta : TE} {t tk : TA} {nm : Option Str}
theorem pk_nil : PK X [] tNil := fun _ _ _ _ H Q I h => wpAny_evalAll_nil ⟨[], H, I, .nil, h⟩
theorem pk_cons (ha : PE X e te) (hr : PK X kws t) : PK X (⟨nm, e, kpos⟩ :: kws) (tCons te t) := by
  intro pos pins s σ H Q I h
  show wpAny _ _ (evalAll ((do let v ← eval e X.env; standAt pos; pure v) :: (backToKw pos (keywordEach kws X.env)).map (·.2))) _ _ s
  refine wpAny_evalAll_cons (wpAny_bind (thn (ha pins s σ H _ I h) fun u s1 ⟨x, H1, I1, r1, q1⟩ => wpAny_bind (wpAny_standAt (wpAny_pure ?_))))
  exact thn (hr pos pins s1 σ H1 _ I1 q1) fun us s2 ⟨xs, H2, I2, r2, q2⟩ => ⟨x :: xs, H2, I2, .cons r1 r2, q2⟩
structure KBinds (K : PySem.W.Frag) (fd : FuncData) (ps ks : List Str) (g : List Value → List Value → List Value) (gV : List V → List V → List V) : Prop where
  to : ∀ (s : Shared) (us ws : List Value), K.In s.heap → (g us ws).length = ps.length → BindsTo s fd ⟨us, ks.zip ws⟩ (ps.zip (g us ws))
  rel : ∀ {vs : List V} {us : List Value} {zs : List V} {ws : List Value}, Vals vs us → Vals zs ws → Vals (gV vs zs) (g us ws)
variable {g : List Value → List Value → List Value} {gV : List V → List V → List V}
end
structure FnScope (N P : List Str) (sc : Scope) : Prop where
  kind : sc.kind = .function
  co : sc.isCoroutine = false
  gen : sc.isGenerator = false
  nd : N.Nodup
  pre : N.take P.length = P
  par : ∀ x ∈ P, sc.names.lookup x = some .local ∨ sc.names.lookup x = some .cell
  nofree : ∀ y ∈ sc.names, y.2 ≠ .free
theorem bindL_out {kindOf : Str → Option NameKind} {x : Str} : ∀ {binds : List (Str × Value)} {m : Str → Option Value}, (∀ v, (x, v) ∉ binds) → bindL kindOf binds m x = m x
  | [], _, _ => rfl
  | (n, v) :: r, m, h => by
    unfold bindL
    rw [bindL_out fun w hw => h w (List.mem_cons_of_mem _ hw)]
    split
    · have : x ≠ n := by rintro rfl; exact h v List.mem_cons_self
      simp [this]
    · rfl
theorem bindC_out {kindOf : Str → Option NameKind} {x : Str} : ∀ {binds : List (Str × Value)} {m : Str → Option Value}, (∀ v, (x, v) ∉ binds) → bindC kindOf binds m x = m x
  | [], _, _ => rfl
  | (n, v) :: r, m, h => by
    unfold bindC
    rw [bindC_out fun w hw => h w (List.mem_cons_of_mem _ hw)]
    split
    · rfl
    · have : x ≠ n := by rintro rfl; exact h v List.mem_cons_self
      simp [this]
theorem bindL_get {kindOf : Str → Option NameKind} {x : Str} {v : Value} : ∀ {P : List Str} {vs : List Value} {i : Nat} {m : Str → Option Value}, P.Nodup → P[i]? = some x → vs[i]? = some v → kindOf x = some .local →
    bindL kindOf (P.zip vs) m x = some v
  | [], _, _, _, _, h, _, _ => by simp at h
  | _ :: _, [], _, _, _, _, h, _ => by simp at h
  | p :: P, w :: vs, 0, m, nd, h1, h2, hk => by
    simp at h1 h2; subst h1; subst h2
    show bindL kindOf ((p, w) :: P.zip vs) m p = _
    unfold bindL
    rw [bindL_out fun v hv => (List.nodup_cons.mp nd).1 (List.of_mem_zip hv).1, if_pos hk]
    simp
  | p :: P, w :: vs, i + 1, m, nd, h1, h2, hk => by
    show bindL kindOf ((p, w) :: P.zip vs) m x = _
    unfold bindL
    exact bindL_get (i := i) (List.nodup_cons.mp nd).2 (by simpa using h1) (by simpa using h2) hk
theorem bindC_get {kindOf : Str → Option NameKind} {x : Str} {v : Value} : ∀ {P : List Str} {vs : List Value} {i : Nat} {m : Str → Option Value}, P.Nodup → P[i]? = some x → vs[i]? = some v → kindOf x ≠ some .local →
    bindC kindOf (P.zip vs) m x = some v
  | [], _, _, _, _, h, _, _ => by simp at h
  | _ :: _, [], _, _, _, _, h, _ => by simp at h
  | p :: P, w :: vs, 0, m, nd, h1, h2, hk => by
    simp at h1 h2; subst h1; subst h2
    show bindC kindOf ((p, w) :: P.zip vs) m p = _
    unfold bindC
    rw [bindC_out fun v hv => (List.nodup_cons.mp nd).1 (List.of_mem_zip hv).1, if_neg hk]
    simp
  | p :: P, w :: vs, i + 1, m, nd, h1, h2, hk => by
    show bindC kindOf ((p, w) :: P.zip vs) m x = _
    unfold bindC
    exact bindC_get (i := i) (List.nodup_cons.mp nd).2 (by simpa using h1) (by simpa using h2) hk
def start (N : List Str) (vs : List V) : St := vs.map some ++ List.replicate (N.length - vs.length) none
def cxOf (CX : CXT) (P : Program) (w : World) (K : PySem.W.Frag) (mg : Str → Option Value) (base : Heap) (N : List Str) (qual : Str) (scope : Scope) (f : Addr) (cd : Value) (A : Around) (outer : List Env) (s : Shared) (H : Hp) (E : XK) : Cx where
  prog := P
  w := w
  K := K
  mg := mg
  base := base
  A := A.deeper (envOfC qual scope s.heap.objs.size f cd)
  N := N
  s₀ := s
  H₀ := H
  env := envOfC qual scope s.heap.objs.size f cd
  outer := outer
  stack := envOfC qual scope s.heap.objs.size f cd :: outer
  ex := []
  calm := true
  fn := fun _ => true
  pn := []
  xe := fun e s' => wpAny (model P w) (A.deeper (envOfC qual scope s.heap.objs.size f cd)) (leaving (envOfC qual scope s.heap.objs.size f cd) e) (fun _ s'' => CX outer H s E e s'') (fun e' s'' => CX outer H s E e' s'') s'
theorem cell_has {sc : Scope} {n : Nat} {x : Str} (h : sc.names.lookup x = some .cell) : ∃ c, (cellsFrom n sc.names []).lookup x = some c := by
  have q := PySem.W.cellsFrom_some sc.names n [] (.inl h)
  exact Option.isSome_iff_exists.mp q
theorem inv_start {CX : CXT} {P : Program} {w : World} {K : PySem.W.Frag} {mg : Str → Option Value} {base : Heap} {N ps : List Str} {qual : Str} {scope : Scope} {f : Addr} {cd : Value} {A : Around} {outer : List Env} {s s1 : Shared} {H : Hp} {E : XK} {us : List Value} {vs : List V}
    (S : FnScope N ps scope) (hd : A.handled = none) (e0 : Env0 P w K mg base A outer s H) (hl : vs.length = ps.length) (r : Vals vs us)
    (x : InCallC s s.heap.objs.size (bindL (envOfC qual scope s.heap.objs.size f cd).kindOf (ps.zip us) fun _ => none) (cellsFrom (s.heap.objs.size + 1) scope.names []) (bindC (envOfC qual scope s.heap.objs.size f cd).kindOf (ps.zip us) fun _ => none) s1) :
    Inv (cxOf CX P w K mg base N qual scope f cd A outer s H E) [] (start N vs) H s1 := by
  have hpl : ps.length ≤ N.length := by have := congrArg List.length S.pre; rw [List.length_take] at this; omega
  obtain ⟨h1, tk, rfl, hk⟩ := x.done
  have noA : ∀ b : Addr, b ∉ (cxOf CX P w K mg base N qual scope f cd A outer s H E).ex := fun b z => absurd (show b ∈ ([] : List Addr) from z) (by simp)
  refine ⟨⟨e0.mod, S.kind, rfl, rfl, Nat.le_refl _, fun y z c h1 h2 => ?_, fun y hy => ?_, fun y c _ h => ?_, fun _ => hd, Around.frames_deeper e0.frames, .inr ⟨rfl, rfl⟩, fun b z => absurd z (noA b), e0.bs, e0.bsz, fun b _ _ => noA b, fun b z => absurd z (noA b), e0.funs, e0.frf⟩,
    rfl, e0.bare, Un.kept hk, ⟨_, x.toInCall.ns, fun i y v h1 h2 h3 => ?_⟩, fun y c h => ⟨_, x.cell y c h⟩, e0.hok.fresh (Nat.le_refl _), fun y c h => ?_, fun p hp => absurd (show p ∈ ([] : List (Addr × Obj)) from hp) (by simp), e0.hok.kept hk, ?_⟩
  · exact name_of_addr x.apart (PySem.mem_of_lookup h1) (PySem.mem_of_lookup h2)
  · have hy : scope.names.lookup y = some .cell ∨ scope.names.lookup y = some .free := hy
    rcases hy with hy | hy
    · exact cell_has hy
    · exact absurd rfl (S.nofree _ (PySem.mem_of_lookup hy))
  · exact Nat.le_of_lt (x.above y c (PySem.mem_of_lookup h))
  · have hi : i < vs.length := by
      unfold start at h2
      by_cases hi : i < vs.length
      · exact hi
      · rw [List.getElem?_append_right (by simpa using hi)] at h2
        rw [List.getElem?_replicate] at h2
        split at h2 <;> cases h2
    have ha : vs[i]? = some v := by
      unfold start at h2
      rw [List.getElem?_append_left (by simpa using hi), List.getElem?_map] at h2
      cases e : vs[i]? with
      | none => rw [e] at h2; cases h2
      | some a => rw [e] at h2; cases h2; rfl
    obtain ⟨u, hu, rv⟩ := r.get ha
    have hp : ps[i]? = some y := by
      rw [← S.pre, List.getElem?_take_of_lt (by omega)]; exact h1
    have ndP : ps.Nodup := by rw [← S.pre]; exact S.nd.sublist (List.take_sublist _ _)
    refine ⟨u, rv, ?_⟩
    rcases S.par y (List.mem_of_getElem? hp) with k | k
    · exact .inl ⟨k, bindL_get ndP hp hu k⟩
    · obtain ⟨c, e⟩ := cell_has (n := s.heap.objs.size + 1) k
      refine .inr ⟨.inl k, c, e, ?_⟩
      have q := x.cell y c e
      rw [bindC_get ndP hp hu (by show scope.names.lookup y ≠ _; rw [k]; decide)] at q
      exact q
  · exact e0.hok.fresh (Nat.le_of_lt (x.above y c (PySem.mem_of_lookup h)))
  · unfold start
    show _ = N.length
    rw [List.length_append, List.length_map, List.length_replicate]
    omega
theorem fn_of {CX : CXT} {P : Program} {w : World} {K : PySem.W.Frag} {mg : Str → Option Value} {base : Heap} {k : Nat} {f : Addr} {name qual : Str} {params : Arguments} {body : List Stmt} {scope : Scope} {dV kV doc pm cdv ct oc : Value} {an od : Option Addr}
    {osl : Array (Option Value)} {N ps : List Str} {sp : Sp} (lk : K.lookup f = some ⟨oc, od, .func (PySem.W.fnOf name qual params body scope dV kV doc pm an cdv ct), osl⟩) (hcd : PySem.W.codeIn K cdv qual = true) (S : FnScope N ps scope)
    (len : ∀ vs H Q E, sp vs H Q E → vs.length = ps.length)
    (hbody : ∀ (A : Around) (outer : List Env) (s : Shared) (H : Hp) (vs : List V) (Q : VK) (E : XK), Room k (A.deeper (envOfC qual scope s.heap.objs.size f cdv)) → sp vs H Q E →
      ∃ t, PSs (cxOf CX P w K mg base N qual scope f cdv A outer s H E) body t ∧ t { nx := fun _ H' => Q .non H', rt := Q } (start N vs) H) :
    FnOk P w K mg base CX (k + 1) f (PySem.W.fnOf name qual params body scope dV kV doc pm an cdv ct) ps sp := by
  refine ⟨len, fun A outer s H args us vs Q E hr e0 hb r hsp => ?_⟩
  have hl := len _ _ _ _ hsp
  have KX : K.In s.heap := e0.mod.kin.keeps fun b o e => (e0.bs b o e).1
  have lim : s.heap.NoLimit := e0.mod.nolimit.keeps fun b o e => (e0.bs b o e).1
  have hkind : ∀ y ∈ ps.zip us, scope.names.lookup y.1 = some .local ∨ (scope.names.lookup y.1 = some .cell ∧ ((cellsFrom (s.heap.objs.size + 1) scope.names []).lookup y.1).isSome = true) := fun ⟨n, v⟩ hy => by
    rcases S.par n (List.of_mem_zip hy).1 with q | q
    · exact .inl q
    · exact .inr ⟨q, PySem.W.cellsFrom_some _ _ _ (.inl q)⟩
  refine codeAny_call_function hr.depth (KX _ _ lk) rfl S.co S.gen rfl (PySem.W.codeRec_of KX hcd) (hb _ _ _ _ ?_)
  refine wpAny_newFunctionEnv_cells S.kind hkind fun env he s1 x => ?_
  subst he
  refine ⟨lim.keeps x.toInCall.keep, codeAny_func ?_⟩
  obtain ⟨t, ht, hq⟩ := hbody A outer s H vs Q E (hr.deeper _) hsp
  have I : Inv (cxOf CX P w K mg base N qual scope f cdv A outer s H E) [] (start N vs) H s1 := inv_start S hr.hd e0 hl r x
  refine wpAny_mono (ht [] s1 (start N vs) H _ I hq) (fun fl s' hs => ?_) fun e s' hs => hs
  have fin : ∀ {σ' : St} {H' : Hp} {v : V} {u : Value}, Inv (cxOf CX P w K mg base N qual scope f cdv A outer s H E) [] σ' H' s' → RelV v u → Q v H' → CE outer P w H s Q u s' :=
    fun {σ' H' v u} J rv q => ⟨v, H', J.os, J.bare, J.base, J.hok, rv, q⟩
  cases fl with
  | ret u =>
    obtain ⟨v, σ', H', J, rv, q⟩ := hs
    exact fin J rv q
  | next =>
    obtain ⟨σ', H', J, q⟩ := hs
    exact fin (v := V.non) (u := Value.none) J rfl q
  | brk =>
    obtain ⟨_, _, _, q⟩ := hs
    exact False.elim q
  | cont =>
    obtain ⟨_, _, _, q⟩ := hs
    exact False.elim q
end L2
namespace L2
open PySem PySem.Spec PyProof.Rows
section
variable {X : Cx} {x : Str} {p pos : Pos} {e : Expr} {es : List Expr} {t : TA} {id T : String} {r : List V → Hp → VK → Prop}
def tCB (r : List V → Hp → VK → Prop) (t : TA) : TE := fun σ H Q => t σ H fun vs H1 => r vs H1 Q
theorem pe_callB (hc : CallR X (.builtin id) r) (hg : Gl X x) (hm : X.mg x = none) (hv : bootBuiltins x = some (.builtin id)) (ha : PA X (e :: es) t) (hn : x ≠ "__name__" := by decide) (hdb : (x == ("__debug__" : Str)) = false := by decide)
    (he : starEach (e :: es) X.env = (false, eval e X.env) :: starEach es X.env := by rfl) (hpl : (backTo pos (starEach es X.env)).any (·.1) = false := by rfl) : PE X (.Call (.Name x p) (e :: es) [] pos) (tCB r t) := by
  intro pins s σ H Q I h
  refine wpAny_Call_Name_kw (ld_blt I hg hm hv ?_ hn hdb)
  exact PyProof.Rows.callWith_builtin1 (thn (ha pos pins s σ H _ I h) fun us s1 ⟨vs, H1, I1, r1, q1⟩ => hc pins s1 σ H1 vs us Q I1 r1 q1) he hpl
theorem pe_callTy (hc : CallR X (.type T) r) (hg : Gl X x) (hm : X.mg x = none) (hv : bootBuiltins x = some (.type T)) (ha : PA X (e :: es) t) (hn : x ≠ "__name__" := by decide) (hdb : (x == ("__debug__" : Str)) = false := by decide)
    (he : starEach (e :: es) X.env = (false, eval e X.env) :: starEach es X.env := by rfl) (hpl : (backTo pos (starEach es X.env)).any (·.1) = false := by rfl) : PE X (.Call (.Name x p) (e :: es) [] pos) (tCB r t) := by
  intro pins s σ H Q I h
  refine wpAny_Call_Name_kw (ld_blt I hg hm hv ?_ hn hdb)
  exact PyProof.Rows.callWith_type1 (thn (ha pos pins s σ H _ I h) fun us s1 ⟨vs, H1, I1, r1, q1⟩ => hc pins s1 σ H1 vs us Q I1 r1 q1) he hpl
end
end L2
namespace HT
open PySem PyProof.Rows
section
open PySem.SeqAt
open PySem.AutoSeq1 (wpAny_loadPart')
open PySem.MeetsSeq PySem.MeetsSeq2 PySem.MeetsSeq3
end
section
variable {prog : Program} {w : World} {A : Around} {E : Value → Shared → Prop} {s : Shared}
def sIx (n d : Nat) : Option Int → Nat
  | none => d
  | some v => if v < 0 then (v + (n : Int)).toNat else min v.toNat n
theorem sIx_none (n d : Nat) : sIx n d none = d := rfl
theorem sIx_nat (n d k : Nat) : sIx n d (some (k : Int)) = min k n := by
  show (if (k : Int) < 0 then ((k : Int) + (n : Int)).toNat else min (k : Int).toNat n) = min k n
  rw [if_neg (by omega), Int.toNat_natCast]
theorem sIx_le (n d : Nat) (hd : d ≤ n) (o : Option Int) : sIx n d o ≤ n := by
  cases o with
  | none => exact hd
  | some v =>
    show (if v < 0 then (v + (n : Int)).toNat else min v.toNat n) ≤ n
    by_cases hv : v < 0
    · rw [if_pos hv]; omega
    · rw [if_neg hv]; exact Nat.min_le_right _ _
theorem clip_eq (v : Int) (n d : Nat) : (if v < 0 then max (v + (n : Int)) 0 else min v (n : Int)) = ((sIx n d (some v) : Nat) : Int) := by
  show (if v < 0 then max (v + (n : Int)) 0 else min v (n : Int)) = (((if v < 0 then (v + (n : Int)).toNat else min v.toNat n) : Nat) : Int)
  by_cases hv : v < 0
  · simp only [if_pos hv]; omega
  · simp only [if_neg hv]; omega
end
end HT
namespace L2
open PySem PySem.Spec PyProof.Rows
abbrev TO := St → Hp → (Option Int → Hp → Prop) → Prop
def PO (X : Cx) (e : Option Expr) (t : TO) : Prop :=
  ∀ (pins : List (Addr × Obj)) (s : Shared) (σ : St) (H : Hp) (Q : Option Int → Hp → Prop), Inv X pins σ H s → t σ H Q →
    wpAny (model X.prog X.w) X.A (evalPart e X.env) (fun u s' => ∃ o H', Inv X pins σ H' s' ∧ IsPart u o ∧ Q o H') X.xe s
def tNoPart : TO := fun _ H Q => Q none H
def tPart (t : TE) : TO := fun σ H Q => t σ H fun x H1 => ∃ i, x = .int i ∧ Q (some i) H1
section
variable {X : Cx} {e : Expr} {te : TE} {lo hi : Option Expr} {tl th : TO} {pos p2 : Pos}
theorem po_none : PO X none tNoPart := by
  intro pins s σ H Q I h
  rw [evalPart_none]
  exact wpAny_pure ⟨none, H, I, .none, h⟩
theorem po_some (h : PE X e te) : PO X (some e) (tPart te) := by
  intro pins s σ H Q I hw
  rw [evalPart_some]
  refine thn (h pins s σ H _ I hw) fun u s1 ⟨x, H1, I1, r1, q1⟩ => ?_
  obtain ⟨i, rfl, q⟩ := q1
  obtain ⟨t, rfl⟩ := r1
  exact ⟨some i, H1, I1, .int i t, q⟩
def SlR (X : Cx) (r : V → Option Int → Option Int → Hp → VK → Prop) : Prop :=
  ∀ (pins : List (Addr × Obj)) (s : Shared) (σ : St) (H : Hp) (x : V) (v vl vu : Value) (lo hi : Option Int) (sl : Addr) (Q : VK), Inv X pins σ H s → RelV x v → s.heap.IsSliceOf sl vl vu .none → IsPart vl lo → IsPart vu hi → r x lo hi H Q →
    ∃ T id, typeLookup (.type T) "__getitem__" = pure (some (.builtin id)) ∧ s.TypeIs v T ∧ wpAny (model X.prog X.w) X.A (getItem v (.ref sl)) (EP X pins σ Q) X.xe s
def tSl (r : V → Option Int → Option Int → Hp → VK → Prop) (te : TE) (tl th : TO) : TE := fun σ H Q => te σ H fun x H1 => tl σ H1 fun l H2 => th σ H2 fun u H3 => r x l u H3 Q
theorem pe_slice {r : V → Option Int → Option Int → Hp → VK → Prop} (hr : SlR X r) (he : PE X e te) (hl : PO X lo tl) (hu : PO X hi th) : PE X (.Subscript e (.Slice lo hi none p2) pos) (tSl r te tl th) := by
  intro pins s σ H Q I h
  refine Subscript_ (thn (he pins s σ H _ I h) fun v s1 ⟨x, H1, I1, r1, q1⟩ => ?_)
  refine wpAny_Slice (thn (hl pins s1 σ H1 _ I1 q1) fun vl s2 ⟨l, H2, I2, pl, q2⟩ => thn (hu pins s2 σ H2 _ I2 q2) fun vu s3 ⟨u, H3, I3, pu, q3⟩ => ?_)
  rw [evalPart_none]
  refine wpAny_pure ?_
  have I4 : Inv X pins σ H3 { s3 with heap := s3.heap.push { cls := .type "slice", data := .fields #[vl, vu, .none] } } := I3.kept (t' := s3.toks) fun b ob q => Heap.get?_push_of_some _ q
  obtain ⟨T, id, hT, ht, hg⟩ := hr pins { s3 with heap := s3.heap.push { cls := .type "slice", data := .fields #[vl, vu, .none] } } σ H3 x v vl vu l u s3.heap.objs.size Q I4 r1 (Heap.IsSliceOf.new ..) pl pu q3
  show wpAny (model X.prog X.w) X.A (subscriptTail e (.Slice lo hi none p2) v (.ref s3.heap.objs.size)) (EP X pins σ Q) X.xe { s3 with heap := s3.heap.push { cls := .type "slice", data := .fields #[vl, vu, .none] } }
  exact tail_any (ops := [.ref s3.heap.objs.size, v]) ht hT hg (by with_unfolding_all rfl)
def cutV (xs : List V) (lo hi : Option Int) : List V := (xs.drop (HT.sIx xs.length 0 lo)).take (HT.sIx xs.length xs.length hi - HT.sIx xs.length 0 lo)
theorem cutV_length (xs : List V) (lo hi : Option Int) : (cutV xs lo hi).length ≤ xs.length := by
  unfold cutV
  rw [List.length_take, List.length_drop]
  omega
end
end L2
namespace L2
open PySem PySem.Spec PyProof.Rows
def ixN (n : Nat) (i : Int) : Option Nat := if 0 ≤ i then (if i < n then some i.toNat else none) else if -(n : Int) ≤ i then some (i + n).toNat else none
def atI {α : Type} (xs : List α) (i : Int) : Option α := (ixN xs.length i).bind fun j => xs[j]?
theorem ixN_seq {n : Nat} {i : Int} {j : Nat} (h : ixN n i = some j) : seqIndex? i n = some j ∧ j < n ∧ -(n : Int) ≤ i ∧ i < n := by
  unfold ixN at h
  by_cases h0 : 0 ≤ i
  · rw [if_pos h0] at h
    by_cases h1 : i < n
    · rw [if_pos h1] at h
      have e : i.toNat = j := Option.some.inj h
      exact ⟨by rw [seqIndex_of h0 h1, e], by omega, by omega, h1⟩
    · rw [if_neg h1] at h; cases h
  · rw [if_neg h0] at h
    by_cases h1 : -(n : Int) ≤ i
    · rw [if_pos h1] at h
      have e : (i + n).toNat = j := Option.some.inj h
      exact ⟨by rw [seqIndex_neg (by omega) h1, e], by omega, h1, by omega⟩
    · rw [if_neg h1] at h; cases h
theorem atI_get {α : Type} {xs : List α} {i : Int} {v : α} (h : atI xs i = some v) : ∃ j, seqIndex? i xs.length = some j ∧ xs[j]? = some v ∧ j < xs.length ∧ -(xs.length : Int) ≤ i ∧ i < xs.length := by
  unfold atI at h
  cases e : ixN xs.length i with
  | none => rw [e] at h; cases h
  | some j =>
    rw [e] at h
    obtain ⟨h1, h2, h3, h4⟩ := ixN_seq e
    exact ⟨j, h1, h, h2, h3, h4⟩
theorem atI_nat {α : Type} {xs : List α} {j : Nat} {v : α} (h : xs[j]? = some v) : atI xs (j : Int) = some v := by
  have hj : j < xs.length := (List.getElem?_eq_some_iff.mp h).1
  have e : ixN xs.length (j : Int) = some j := by
    unfold ixN
    rw [if_pos (by omega), if_pos (by omega)]; simp
  unfold atI; rw [e]; exact h
def PlainIx (b : Expr) : Prop := ∀ o i, subscripted b false o i = operate [o, i] (getItem o i)
def IxR (X : Cx) (r : R2) : Prop :=
  ∀ (value slice : Expr) (pins : List (Addr × Obj)) (s : Shared) (σ : St) (H : Hp) (x y : V) (v u : Value) (Q : VK), Inv X pins σ H s → RelV x v → RelV y u → r x y H Q →
    subscripted slice false v u = operate [v, u] (getItem v u) → wpAny (model X.prog X.w) X.A (subscriptTail value slice v u) (EP X pins σ Q) X.xe s
def MtR (X : Cx) (id : String) (r : V → List V → Hp → VK → Prop) : Prop :=
  ∀ (pins : List (Addr × Obj)) (s : Shared) (σ : St) (H : Hp) (x : V) (xs : List V) (v : Value) (us : List Value) (Q : VK), Inv X pins σ H s → RelV x v → Vals xs us → r x xs H Q →
    wpAny (model X.prog X.w) X.A (call (.builtin id) (v :: us)) (EP X pins σ Q) X.xe s
section
variable {X : Cx} {a b : Expr} {ta tb : TE} {pos : Pos}
theorem pe_ix {r : R2} (hr : IxR X r) (ha : PE X a ta) (hb : PE X b tb) (hs : PlainIx b) : PE X (.Subscript a b pos) (tOp r ta tb) := by
  intro pins s σ H Q I h
  exact Subscript_ (binT ha hb I h fun v u s2 x y H2 I2 rx ry q => hr a b pins s2 σ H2 x y v u Q I2 rx ry q (hs _ _))
def rIxL (K : PySem.W.Frag) : R2 := fun x y H Q => ∃ p xs i v, x = .ref p ∧ y = .int i ∧ SqL K H p xs ∧ atI xs i = some v ∧ Q v H
def rIxT (K : PySem.W.Frag) : R2 := fun x y H Q => ∃ p xs i v, x = .ref p ∧ y = .int i ∧ SqT K H p xs ∧ atI xs i = some v ∧ Q v H
def rIxS : R2 := fun x y H Q => ∃ z i c, x = .str z ∧ y = .int i ∧ z.length ≤ sizeLine ∧ atI z.cps.toList i = some c ∧ Q (.str ⟨#[c]⟩) H
theorem ix_list : IxR X (rIxL X.K) := by
  intro value slice pins s σ H x y v u Q I rx ry h hs
  obtain ⟨p, xs, i, z, rfl, rfl, hq, he, q⟩ := h
  cases rx
  obtain ⟨t, rfl⟩ := ry
  obtain ⟨its, r, pl, hz⟩ := I.list hq
  obtain ⟨j, h1, h2, h3, h4, h5⟩ := atI_get he
  obtain ⟨w, ew, rw'⟩ := r.get h2
  have hl := r.length
  have hn := line63
  have fin : EP X pins σ Q w s := ⟨z, H, I, rw', q⟩
  by_cases h0 : 0 ≤ i
  · have hj : i.toNat = j := by
      rw [seqIndex_of h0 h5] at h1
      exact Option.some.inj h1
    exact item_listR pl.isList h0 (by omega) (by rw [hj]; simpa using ew) fin hs
  · have hj : (i + (its.toArray.size : Int)).toNat = j := by
      rw [seqIndex_neg (by omega) h4] at h1
      rw [List.size_toArray, ← hl]
      exact Option.some.inj h1
    exact subscriptTail_builtinR (x := w) pl.isList.typeIs slot_list_getitem.lookup
      (wpAny_getItem_list_neg (Q := fun r s' => r = w ∧ EP X pins σ Q r s') pl.isList (by omega) (by rw [List.size_toArray] <;> omega) (by omega) (by rw [hj]; simpa using ew) ⟨rfl, fin⟩) hs
theorem ix_tup : IxR X (rIxT X.K) := by
  intro value slice pins s σ H x y v u Q I rx ry h hs
  obtain ⟨p, xs, i, z, rfl, rfl, hq, he, q⟩ := h
  cases rx
  obtain ⟨t, rfl⟩ := ry
  obtain ⟨its, r, pl, hz⟩ := I.tuple hq
  obtain ⟨j, h1, h2, h3, h4, h5⟩ := atI_get he
  obtain ⟨w, ew, rw'⟩ := r.get h2
  have hl := r.length
  have hn := line63
  have fin : EP X pins σ Q w s := ⟨z, H, I, rw', q⟩
  exact subscriptTail_builtinR (x := w) pl.typeIs slot_tuple_getitem.lookup
    (getItem_tuple (j := j) (Q := fun r s' => r = w ∧ EP X pins σ Q r s') pl (by omega) (by omega) (by rw [List.size_toArray, ← hl]; exact h1) (by simpa using ew) ⟨rfl, fin⟩) hs
theorem ix_str : IxR X rIxS := by
  intro value slice pins s σ H x y v u Q I rx ry h hs
  obtain ⟨z, i, c, rfl, rfl, hz, he, q⟩ := h
  obtain ⟨t, rfl⟩ := rx
  obtain ⟨t', rfl⟩ := ry
  obtain ⟨j, h1, h2, h3, h4, h5⟩ := atI_get he
  have hl : z.cps.toList.length = z.length := by simp [Str.length]
  rw [hl] at h1 h4 h5
  have hn := line63
  exact tail_any (typeIs_str s z t) slot_str_getitem.lookup (getItem_str (c := c) (by
    have e1 : decide (i < -(2 ^ 63 : Int)) = false := decide_eq_false (by omega)
    have e2 : decide (i ≥ 2 ^ 63) = false := decide_eq_false (by omega)
    rw [e1, e2, Bool.or_false]) (by rw [h1]; simpa using h2) ⟨.str ⟨#[c]⟩, H, I.tok _, ⟨_, rfl⟩, q⟩) hs
theorem Inv.lst {pins : List (Addr × Obj)} {σ : St} {H : Hp} {s : Shared} {p : Addr} {xs : List V} (I : Inv X pins σ H s) (h : H p = some (.lst xs)) :
    ∃ (its : List Value) (n : Nat), Vals xs its ∧ s.heap.get? p = some { cls := .type "list", data := .seq its.toArray n } ∧ xs.length ≤ sizeLine := by
  obtain ⟨z, its, n, r, e⟩ := I.hok p _ h
  exact ⟨its, n, r, e, z⟩
theorem slice_bounds (lo hi : Option Int) (n : Nat) : (sliceBounds lo hi none n).1 = ((HT.sIx n 0 lo : Nat) : Int) ∧ (sliceBounds lo hi none n).2.1 = ((HT.sIx n n hi : Nat) : Int) ∧ (sliceBounds lo hi none n).2.2 = 1 := by
  refine ⟨?_, ?_, rfl⟩
  · cases lo with
    | none => simp [sliceBounds, HT.sIx]
    | some i =>
      simp only [sliceBounds, HT.sIx, Option.getD_none, show (1 : Int) > 0 by decide, if_true]
      by_cases h : i < 0
      · simp only [h, if_true] <;> omega
      · simp only [h, if_false] <;> omega
  · cases hi with
    | none => simp [sliceBounds, HT.sIx]
    | some i =>
      simp only [sliceBounds, HT.sIx, Option.getD_none, show (1 : Int) > 0 by decide, if_true]
      by_cases h : i < 0
      · simp only [h, if_true] <;> omega
      · simp only [h, if_false] <;> omega
theorem slicePick_cut (its : List Value) (lo hi : Option Int) : slicePick its.toArray lo hi none = ((its.drop (HT.sIx its.length 0 lo)).take (HT.sIx its.length its.length hi - HT.sIx its.length 0 lo)).toArray := by
  obtain ⟨h1, h2, h3⟩ := slice_bounds lo hi its.toArray.size
  unfold slicePick
  rw [h1, h2, h3]
  simp only [sliceRange_one, pick_run, List.size_toArray] <;> rfl
def rSlL (K : PySem.W.Frag) : V → Option Int → Option Int → Hp → VK → Prop := fun x lo hi H Q => ∃ a xs, x = .ref a ∧ SqL K H a xs ∧ ∀ p, H p = none → Q (.ref p) (upd H p (.lst (cutV xs lo hi)))
theorem sl_list : SlR X (rSlL X.K) := by
  intro pins s σ H x v vl vu lo hi sl Q I rx hs pl pu h
  obtain ⟨a, xs, rfl, hx, q⟩ := h
  cases rx
  obtain ⟨its, r, ht, hz⟩ := I.list hx
  have hlen := r.length
  refine ⟨"list", _, slot_list_getitem.lookup, ht.isList.typeIs, ?_⟩
  refine wpAny_getItem_list_slice ht.isList hs pl pu .none (by simp) ?_ (by rw [List.size_toArray] <;> omega)
  rw [slicePick_cut, ← hlen]
  refine ⟨.ref s.heap.objs.size, _, I.laid (t' := s.toks) (o := .lst (cutV xs lo hi)) (fun b ob q => Heap.get?_push_of_some _ q) (Nat.le_refl _) ?_, rfl, q _ (I.hok.fresh (Nat.le_refl _))⟩
  exact ⟨Nat.le_trans (cutV_length xs lo hi) hz, _, 0, (r.drop (HT.sIx xs.length 0 lo)).take (HT.sIx xs.length xs.length hi - HT.sIx xs.length 0 lo), Heap.get?_push_size _ rfl⟩
theorem call_list_of : CallR X (.type "list") (fun xs H Q => ∃ p ys, xs = [.ref p] ∧ (SqL X.K H p ys ∨ SqT X.K H p ys) ∧ ∀ l, H l = none → Q (.ref l) (upd H l (.lst ys))) := by
  intro pins s σ H xs us Q I r h
  obtain ⟨p, ys, rfl, hq, q⟩ := h
  obtain ⟨u, rfl, rx⟩ := vals1 r
  cases rx
  have fin : ∀ (its : List Value), Vals ys its → ys.length ≤ sizeLine → ∀ (h' : Heap) (c' : Nat), (∀ b o', s.heap.get? b = some o' → h'.get? b = some o') →
      h'.get? s.heap.objs.size = some { cls := .type "list", dict := none, data := .seq its.toArray c', slots := #[] } → EP X pins σ Q (.ref s.heap.objs.size) { s with heap := h' } := fun its r' hz h' c' kp e =>
    ⟨.ref s.heap.objs.size, _, I.laid (t' := s.toks) kp (Nat.le_refl _) (show ObjOk X.prog X.w _ h' _ (.lst ys) from ⟨hz, its, c', r', e⟩), rfl, q _ (I.hok.fresh (Nat.le_refl _))⟩
  rcases hq with hq | hq
  · obtain ⟨its, r', pl, hz⟩ := I.list hq
    have hlen := r'.length
    obtain ⟨o, ho, hc, n, hd⟩ := pl.isList
    exact call_list_seq p (.inl rfl) ho hc hd (fun h' c' kp e => fin its r' hz h' c' kp e) (by simp only [List.size_toArray] <;> omega)
  · obtain ⟨its, r', pl, hz⟩ := I.tuple hq
    have hlen := r'.length
    obtain ⟨o, ho, hc, n, hd⟩ := pl
    exact call_list_seq p (.inr rfl) ho hc hd (fun h' c' kp e => fin its r' hz h' c' kp e) (by simp only [List.size_toArray] <;> omega)
theorem call_tuple_of : CallR X (.type "tuple") (fun xs H Q => ∃ p ys, xs = [.ref p] ∧ ((SqL X.K H p ys ∧ ∀ l, H l = none → Q (.ref l) (upd H l (.tup ys))) ∨ (SqT X.K H p ys ∧ Q (.ref p) H))) := by
  intro pins s σ H xs us Q I r h
  obtain ⟨p, ys, rfl, h⟩ := h
  obtain ⟨u, rfl, rx⟩ := vals1 r
  cases rx
  rcases h with ⟨hq, q⟩ | ⟨hq, q⟩
  · obtain ⟨its, r', pl, hz⟩ := I.list hq
    have hlen := r'.length
    refine call_tuple_list pl.isList (fun h' kp => ?_) (by simp only [List.size_toArray] <;> omega)
    have I1 : Inv X pins σ H { s with heap := h' } := I.kept (t' := s.toks) kp
    have I2 : Inv X pins σ (upd H h'.objs.size (.tup ys)) { s with heap := h'.push { cls := .type "tuple", data := .seq its.toArray } } :=
      I1.laid (t' := s.toks) (fun b o e => Heap.get?_push_of_some _ e) (Nat.le_refl _) (show ObjOk X.prog X.w _ _ _ (.tup ys) from ⟨hz, its, r', IsTup.new _ _⟩)
    exact ⟨.ref h'.objs.size, _, I2, rfl, q _ (I1.hok.fresh (Nat.le_refl _))⟩
  · obtain ⟨its, r', pl, hz⟩ := I.tuple hq
    exact call_tuple_same pl ⟨.ref p, H, I, rfl, q⟩
def tyV (K : PySem.W.Frag) (T : String) (x : V) (H : Hp) : Prop := match x with
  | .str _ => T = "str"
  | .int _ => T = "int"
  | .ref p => (T = "list" ∧ ∃ xs, SqL K H p xs) ∨ (T = "tuple" ∧ ∃ o, K.lookup p = some o ∧ o.cls = .type "tuple" ∧ o.dict = none) ∨
      (T = "dict" ∧ ((∃ kvs, H p = some (.dK kvs)) ∨ ∃ kvs, H p = some (.dT kvs))) ∨ (T = "set" ∧ ∃ S n, H p = some (.set S n))
  | _ => False
theorem tyV_is {pins : List (Addr × Obj)} {σ : St} {H : Hp} {s : Shared} {T : String} {x : V} {v : Value} (I : Inv X pins σ H s) (r : RelV x v) (ty : tyV X.K T x H) :
    s.TypeIs v T ∧ ∀ a, v = .ref a → ∃ ob, s.heap.get? a = some ob ∧ ob.dict = none := by
  cases x with
  | str z =>
    obtain ⟨t, rfl⟩ := r
    cases (show T = "str" from ty)
    exact ⟨typeIs_str s z t, fun _ e => nomatch e⟩
  | int i =>
    obtain ⟨t, rfl⟩ := r
    cases (show T = "int" from ty)
    exact ⟨typeIs_int s i t, fun _ e => nomatch e⟩
  | ref p =>
    cases r
    rcases ty with ⟨rfl, xs, hq⟩ | ⟨rfl, o, hk, hc, hd⟩ | ⟨rfl, hk⟩ | ⟨rfl, S, n, hk⟩
    · obtain ⟨its, _, pl, _⟩ := I.list hq
      refine ⟨pl.isList.typeIs, fun a e => ?_⟩
      cases e
      obtain ⟨o, n, e, c, hd, _⟩ := pl
      exact ⟨o, e, hd⟩
    · refine ⟨⟨o, I.kIn p o hk, hc⟩, fun a e => ?_⟩
      cases e
      exact ⟨o, I.kIn _ o hk, hd⟩
    · have z : ∃ o, s.heap.get? p = some o ∧ o.ExactDict := by
        rcases hk with ⟨kvs, hk⟩ | ⟨kvs, hk⟩
        · obtain ⟨_, _, _, _, o, _, _, e, ex, _⟩ := I.hok p _ hk
          exact ⟨o, e, ex⟩
        · obtain ⟨_, _, _, _, o, _, _, e, ex, _⟩ := I.hok p _ hk
          exact ⟨o, e, ex⟩
      obtain ⟨o, e, ex⟩ := z
      refine ⟨⟨o, e, ex.1⟩, fun a e2 => ?_⟩
      cases e2
      exact ⟨o, e, ex.2.1⟩
    · obtain ⟨o, _, _, _, e, ex, _⟩ := I.hok p _ hk
      refine ⟨⟨o, e, ex.1⟩, fun a e2 => ?_⟩
      cases e2
      exact ⟨o, e, ex.2.1⟩
  | _ => exact False.elim ty
def tBM0 (K : PySem.W.Frag) (T : String) (r : V → List V → Hp → VK → Prop) (to : TE) : TE := fun σ H Q => to σ H fun x H1 => tyV K T x H1 ∧ r x [] H1 Q
def tBM (K : PySem.W.Frag) (T : String) (r : V → List V → Hp → VK → Prop) (to : TE) (t : TA) : TE := fun σ H Q => to σ H fun x H1 => tyV K T x H1 ∧ t σ H1 fun xs H2 => r x xs H2 Q
variable {o e : Expr} {es : List Expr} {to : TE} {t : TA} {name : Str} {apos cpos : Pos} {T id : String} {r : V → List V → Hp → VK → Prop}
theorem pe_bm0 (pa : PlainAttrs T) (slot : Slot T name id) (hty : typeOf (.builtin id) = pure (.type "method_descriptor")) (hm : MtR X id r) (ho : PE X o to)
    (hbase : attributeBase o name X.env (eval o X.env) = eval o X.env := by rfl) (hline : (apos.endLine == cpos.line) = true := by rfl) : PE X (.Call (.Attribute o name apos) [] [] cpos) (tBM0 X.K T r to) := by
  intro pins s σ H Q I h
  refine wpAny_Call_method0_late hbase hline (thn (ho pins s σ H _ I h) fun v s1 ⟨x, H1, I1, r1, ty, q1⟩ => ?_)
  obtain ⟨h1, h2⟩ := tyV_is I1 r1 ty
  exact ⟨T, id, pa, slot, hty, h1, h2, Calls.callWith_builtin rfl (PySem.evalArgs_none (hm pins s1 σ H1 x [] v [] Q I1 r1 .nil q1))⟩
theorem pe_bm (pa : PlainAttrs T) (slot : Slot T name id) (hty : typeOf (.builtin id) = pure (.type "method_descriptor")) (hm : MtR X id r) (ho : PE X o to) (ha : PA X (e :: es) t)
    (hbase : attributeBase o name X.env (eval o X.env) = eval o X.env := by rfl)
    (hfew : ((backTo cpos (starEach (e :: es) X.env)).all (fun x => !x.1) && (backToKw cpos (keywordEach [] X.env)).all (fun x => x.1.isSome)
      && decide ((e :: es).length + ([] : List Keyword).length + (if ([] : List Keyword).isEmpty then 0 else 1) < 30)) = true := by rfl)
    (hline : (apos.endLine == cpos.line) = true := by rfl) (hs : starEach (e :: es) X.env = (false, eval e X.env) :: starEach es X.env := by rfl) (hplain : (backTo cpos (starEach es X.env)).any (·.1) = false := by rfl) :
    PE X (.Call (.Attribute o name apos) (e :: es) [] cpos) (tBM X.K T r to t) := by
  intro pins s σ H Q I h
  refine wpAny_Call_method_late hbase hfew hline rfl (thn (ho pins s σ H _ I h) fun v s1 ⟨x, H1, I1, r1, ty, q1⟩ => ?_)
  obtain ⟨h1, h2⟩ := tyV_is I1 r1 ty
  refine ⟨T, id, pa, slot, hty, h1, h2, ?_⟩
  have hA := ha cpos pins s1 σ H1 _ I1 q1
  rw [hs] at hA ⊢
  refine Calls.callWith_builtin (by show (false || (backTo cpos (starEach es X.env)).any (·.1)) = false; rw [hplain] <;> rfl) (Calls.evalArgs_plain ?_)
  exact thn hA fun us s2 ⟨vs, H2, I2, r2, q2⟩ => hm pins s2 σ H2 x vs v us Q I2 r1 r2 q2
/- xs.append(e), list.index on a module's tuple .. are MtR facts of 06m -/
end
end L2
namespace L2
open PySem PySem.Spec PyProof.Rows
def MtM (X : Cx) (id : String) (r : V → List V → Hp → VK → Prop) : Prop :=
  ∀ (pins : List (Addr × Obj)) (s : Shared) (σ : St) (H : Hp) (x : V) (xs : List V) (v : Value) (us : List Value) (Q : VK), Inv X pins σ H s → RelV x v → Vals xs us → r x xs H Q →
    wpAny (model X.prog X.w) X.A (call (.builtin id) (v :: us)) (EP X pins σ Q) X.xe s
theorem Vals.one : ∀ {x : V} {us : List Value}, Vals [x] us → ∃ u, us = [u] ∧ RelV x u
  | _, _, .cons r .nil => ⟨_, rfl, r⟩
theorem Vals.zero : ∀ {us : List Value}, Vals [] us → us = []
  | _, .nil => rfl
theorem Vals.dropLast {xs : List V} {us : List Value} (h : Vals xs us) : Vals xs.dropLast us.dropLast := by
  induction h with
  | nil => exact .nil
  | cons r t ih =>
    cases t with
    | nil => exact .nil
    | cons q t' => exact .cons r ih
theorem Vals.eraseIdx : ∀ {xs : List V} {us : List Value} (i : Nat), Vals xs us → Vals (xs.eraseIdx i) (us.eraseIdx i)
  | _, _, _, .nil => .nil
  | _, _, 0, .cons _ t => t
  | _, _, i + 1, .cons r t => .cons r (Vals.eraseIdx i t)
theorem Vals.reverse {xs : List V} {us : List Value} (h : Vals xs us) : Vals xs.reverse us.reverse := by
  induction h with
  | nil => exact .nil
  | cons r t ih => rw [List.reverse_cons, List.reverse_cons]; exact Vals.append ih (.cons r .nil)
theorem erase_last {α : Type} (l : List α) : l.eraseIdx (l.length - 1) = l.dropLast := by
  induction l with
  | nil => rfl
  | cons a r ih =>
    cases r with
    | nil => rfl
    | cons b r =>
      have e : (a :: b :: r).length - 1 = ((b :: r).length - 1) + 1 := by
        have h1 : (a :: b :: r).length = r.length + 2 := rfl
        have h2 : (b :: r).length = r.length + 1 := rfl
        omega
      rw [e, List.eraseIdx_cons_succ, ih]
      all_goals rfl
section
variable {X : Cx} {pins : List (Addr × Obj)} {σ : St} {H : Hp} {s : Shared} {l b : Addr} {xs ys zs : List V}
theorem Inv.lset {its its' : List Value} {n : Nat} {f : Array Value → Array Value} {t' : Nat} (I : Inv X pins σ H s) (hH : H l = some (.lst xs))
    (e : s.heap.get? l = some { cls := .type "list", data := .seq its.toArray n }) (hf : f its.toArray = its'.toArray) (hv : Vals ys its') (hz : ys.length ≤ sizeLine) :
    Inv X pins σ (upd H l (.lst ys)) { s with heap := s.heap.update l (Obj.mapSeq f), toks := t' } := by
  have q := PySem.IsL.update e f
  rw [hf] at q
  refine I.write (x := l) (e := l) (by rw [hH]; exact trivial) (.inl rfl) (fun b' u hb hu => (Heap.get?_update_other s.heap (Obj.mapSeq f) (Ne.symm hb)).trans hu) ⟨_, q⟩ ?_
  exact ⟨hz, its', _, hv, q⟩
theorem Inv.lnew {its : List Value} {t' : Nat} (I : Inv X pins σ H s) (hv : Vals ys its) (hz : ys.length ≤ sizeLine) :
    Inv X pins σ (upd H s.heap.objs.size (.lst ys)) { s with heap := s.heap.push { cls := .type "list", data := .seq its.toArray }, toks := t' } :=
  I.laid (fun _ _ q => Heap.get?_push_of_some _ q) (Nat.le_refl _) ⟨hz, its, 0, hv, Heap.get?_push_size _ rfl⟩
theorem Inv.fresh (I : Inv X pins σ H s) : H s.heap.objs.size = none := I.hok.fresh (Nat.le_refl _)
theorem Inv.lstM (I : Inv X pins σ H s) (hH : H l = some (.lst xs)) : xs.length ≤ sizeLine ∧ ∃ (its : List Value) (n : Nat), Vals xs its ∧ xs.length = its.length ∧ s.heap.get? l = some { cls := .type "list", data := .seq its.toArray n } := by
  obtain ⟨z, its, n, r, e⟩ := I.hok l _ hH
  exact ⟨z, its, n, r, r.length, e⟩
theorem notLongL {n : Nat} (h : n ≤ sizeLine) : Builtin.List.listTooLong n = false := by
  unfold Builtin.List.listTooLong
  exact decide_eq_false (by omega)
end
section
variable {X : Cx}
def rAppend : V → List V → Hp → VK → Prop := fun x vs H Q => ∃ l xs y, x = .ref l ∧ vs = [y] ∧ H l = some (.lst xs) ∧ xs.length < sizeLine ∧ Q .non (upd H l (.lst (xs ++ [y])))
theorem mt_append : MtM X "list.append" rAppend := by
  intro pins s σ H x vs v us Q I rx rv h
  obtain ⟨l, xs, y, rfl, rfl, hH, hz, q⟩ := h
  cases rx
  obtain ⟨u, rfl, ru⟩ := rv.one
  obtain ⟨z, its, n, r, hl, e⟩ := I.lstM hH
  refine call_meets F.slot_list_append ⟨_, e, rfl⟩ F.entry_list_append (F.args_list_append_2 _ _) (PySem.list_append l its.toArray n u (by rw [List.size_toArray]; omega)) ⟨e, ?_⟩
  refine ⟨.non, _, I.lset (its' := its ++ [u]) hH e (by simp) (r.append (.cons ru .nil)) ?_, rfl, q⟩
  rw [List.length_append, List.length_singleton]
  omega
def rPop : V → List V → Hp → VK → Prop := fun x vs H Q => ∃ l xs y, x = .ref l ∧ vs = [] ∧ H l = some (.lst xs) ∧ xs[xs.length - 1]? = some y ∧ Q y (upd H l (.lst xs.dropLast))
theorem mt_pop : MtM X "list.pop" rPop := by
  intro pins s σ H x vs v us Q I rx rv h
  obtain ⟨l, xs, y, rfl, rfl, hH, hy, q⟩ := h
  cases rx
  have hus := rv.zero
  subst hus
  obtain ⟨z, its, n, r, hl, e⟩ := I.lstM hH
  obtain ⟨u, hu, ru⟩ := r.get hy
  have hy' : its.toArray[its.toArray.size - 1]? = some u := by
    show its.toArray[its.length - 1]? = some u
    rw [← Array.getElem?_toList, ← hl]
    exact hu
  refine call_meets F.slot_list_pop ⟨_, e, rfl⟩ F.entry_list_pop (F.args_list_pop_1 _) (MeetsSeq.list_pop_last l its.toArray n u hy' (by rw [List.size_toArray]; omega)) ⟨e, ?_⟩
  refine ⟨y, _, I.lset (its' := its.dropLast) hH e ?_ r.dropLast ?_, ru, q⟩
  · show its.toArray.eraseIdxIfInBounds (its.toArray.size - 1) = its.dropLast.toArray
    rw [List.size_toArray, List.eraseIdxIfInBounds_toArray, erase_last]
  · rw [List.length_dropLast]
    omega
def rCat : R2 := fun x y H Q => ∃ l b xs zs, x = .ref l ∧ y = .ref b ∧ H l = some (.lst xs) ∧ H b = some (.lst zs) ∧ xs.length + zs.length ≤ sizeLine ∧ ∀ p, H p = none → Q (.ref p) (upd H p (.lst (xs ++ zs)))
theorem op_cat : OpR X (binaryOp .Add) rCat := by
  intro pins s σ H x y v u Q I rx ry h
  obtain ⟨l, b, xs, zs, rfl, rfl, hH, hB, hz, q⟩ := h
  cases rx
  cases ry
  obtain ⟨z, its, n, r, hl, e⟩ := I.lstM hH
  obtain ⟨z2, its2, n2, r2, hl2, e2⟩ := I.lstM hB
  refine PySem.P.add_list e e2 ?_ (by rw [List.size_toArray, List.size_toArray]; omega)
  have ea : its.toArray ++ its2.toArray = (its ++ its2).toArray := by simp
  rw [ea]
  exact ⟨.ref _, _, I.lnew (t' := s.toks) (r.append r2) (by rw [List.length_append]; omega), rfl, q _ I.fresh⟩
end
section
variable {prog : Program} {w : World} {A : Around} {E : Value → Shared → Prop} {s : Shared}
end
section
variable {X : Cx}
end
end L2
namespace L2
open PySem PySem.Spec PyProof.Rows
section
variable {κ : Type} [DecidableEq κ]
def valV (kvs : List (κ × V)) (k : κ) : Option V := (kvs.find? fun kv => decide (kv.1 = k)).map (·.2)
def putK (kvs : List (κ × V)) (k : κ) (v : V) : List (κ × V) :=
  if (kvs.any fun kv => decide (kv.1 = k)) = true then kvs.map (fun kv => if kv.1 = k then (kv.1, v) else kv) else kvs ++ [(k, v)]
def dropK (kvs : List (κ × V)) (k : κ) : List (κ × V) := kvs.filter fun kv => decide (kv.1 ≠ k)
theorem valV_pos {p : κ × V} {r : List (κ × V)} {k : κ} (e : p.1 = k) : valV (p :: r) k = some p.2 := by simp [valV, List.find?_cons, e]
theorem valV_neg {p : κ × V} {r : List (κ × V)} {k : κ} (e : ¬ p.1 = k) : valV (p :: r) k = valV r k := by simp [valV, List.find?_cons, e]
theorem valV_any (k : κ) : ∀ kvs : List (κ × V), (kvs.any fun kv => decide (kv.1 = k)) = (valV kvs k).isSome
  | [] => rfl
  | p :: r => by
    rw [List.any_cons]
    by_cases e : p.1 = k
    · simp only [valV_pos e, decide_eq_true e, Bool.true_or, Option.isSome_some]
    · rw [valV_neg e, decide_eq_false e, Bool.false_or]; exact valV_any k r
theorem RelO.isSome_eq {o : Option V} {u : Option Value} (r : RelO o u) : o.isSome = u.isSome := by
  cases o with
  | none => cases u with
    | none => rfl
    | some _ => exact (show False from r).elim
  | some _ => cases u with
    | none => exact (show False from r).elim
    | some _ => rfl
theorem RelO.getD {o : Option V} {u : Option Value} {d : V} {d' : Value} (r : RelO o u) (rd : RelV d d') : RelV (o.getD d) (u.getD d') := by
  cases o with
  | none => cases u with
    | none => exact rd
    | some _ => exact (show False from r).elim
  | some _ => cases u with
    | none => exact (show False from r).elim
    | some _ => exact r
theorem KV.val {kvs : List (κ × V)} {vs : List (κ × Value)} (r : KV kvs vs) (k : κ) : RelO (valV kvs k) (valueAt vs k) := by
  unfold KV at r
  induction r with
  | nil => exact True.intro
  | @cons p q ps qs h t ih =>
    obtain ⟨h1, h2⟩ := h
    by_cases e : p.1 = k
    · have e' : q.1 = k := h1.symm.trans e
      have b : valueAt (q :: qs) k = some q.2 := by simp [valueAt, List.find?_cons, e']
      rw [valV_pos e, b]; exact h2
    · have e' : ¬ q.1 = k := fun z => e (h1.trans z)
      have b : valueAt (q :: qs) k = valueAt qs k := by simp [valueAt, List.find?_cons, e']
      rw [valV_neg e, b]; exact ih
theorem KV.any {kvs : List (κ × V)} {vs : List (κ × Value)} (r : KV kvs vs) (k : κ) : (kvs.any fun kv => decide (kv.1 = k)) = vs.any fun kv => decide (kv.1 = k) := by
  unfold KV at r
  induction r with
  | nil => rfl
  | cons h t ih => rw [List.any_cons, List.any_cons, ih, h.1]
theorem KV.repl {kvs : List (κ × V)} {vs : List (κ × Value)} (r : KV kvs vs) (k : κ) {y : V} {u : Value} (ry : RelV y u) :
    KV (kvs.map fun kv => if kv.1 = k then (kv.1, y) else kv) (vs.map fun kv => if kv.1 = k then (kv.1, u) else kv) := by
  unfold KV at r ⊢
  induction r with
  | nil => exact .nil
  | @cons p q ps qs h t ih =>
    rw [List.map_cons, List.map_cons]
    refine .cons ?_ ih
    obtain ⟨h1, h2⟩ := h
    by_cases e : p.1 = k
    · rw [if_pos e, if_pos (h1.symm.trans e)]; exact ⟨h1, ry⟩
    · rw [if_neg e, if_neg (fun z => e (h1.trans z))]; exact ⟨h1, h2⟩
theorem KV.put {kvs : List (κ × V)} {vs : List (κ × Value)} (r : KV kvs vs) (k : κ) {y : V} {u : Value} (ry : RelV y u) : KV (putK kvs k y) (stored vs k u) := by
  unfold putK stored
  rw [r.any k]
  by_cases e : (vs.any fun kv => decide (kv.1 = k)) = true
  · rw [if_pos e, if_pos e]; exact r.repl k ry
  · rw [if_neg e, if_neg e]; exact Paired.snoc r ⟨rfl, ry⟩
theorem KV.drop {kvs : List (κ × V)} {vs : List (κ × Value)} (r : KV kvs vs) (k : κ) : KV (dropK kvs k) (without vs k) := by
  unfold KV at r ⊢
  unfold dropK without
  induction r with
  | nil => exact .nil
  | @cons p q ps qs h t ih =>
    obtain ⟨h1, h2⟩ := h
    rw [List.filter_cons, List.filter_cons]
    by_cases e : p.1 = k
    · have a : ¬ decide (p.1 ≠ k) = true := by simp [e]
      have b : ¬ decide (q.1 ≠ k) = true := by simp [h1.symm.trans e]
      rw [if_neg a, if_neg b]; exact ih
    · have e' : ¬ q.1 = k := fun z => e (h1.trans z)
      have a : decide (p.1 ≠ k) = true := by simp [e]
      have b : decide (q.1 ≠ k) = true := by simp [e']
      rw [if_pos a, if_pos b]; exact .cons ⟨h1, h2⟩ ih
theorem KV.keys {kvs : List (κ × V)} {vs : List (κ × Value)} (r : KV kvs vs) : kvs.map (·.1) = vs.map (·.1) := by
  unfold KV at r
  induction r with
  | nil => rfl
  | cons h t ih => rw [List.map_cons, List.map_cons, ih, h.1]
theorem KV.length {kvs : List (κ × V)} {vs : List (κ × Value)} (r : KV kvs vs) : kvs.length = vs.length := Paired.length r
end
abbrev KT (H : Hp) : List (List Key × V) → List (List Key × Addr × Value) → Prop := Paired fun p q => p.1 = q.1 ∧ H q.2.1 = some (.tup (p.1.map kV)) ∧ RelV p.2 q.2.2
theorem KT.val {H : Hp} {kvs : List (List Key × V)} {xs : List (List Key × Addr × Value)} (r : KT H kvs xs) (k : List Key) : RelO (valV kvs k) ((atKey xs k).map (·.2)) := by
  induction r with
  | nil => exact True.intro
  | @cons p q ps qs h t ih =>
    obtain ⟨h1, _, h2⟩ := h
    by_cases e : p.1 = k
    · have e' : q.1 = k := h1.symm.trans e
      have b : atKey (q :: qs) k = some q.2 := by simp [atKey, List.find?_cons, e']
      rw [valV_pos e, b]; exact h2
    · have e' : ¬ q.1 = k := fun z => e (h1.trans z)
      have b : atKey (q :: qs) k = atKey qs k := by simp [atKey, List.find?_cons, e']
      rw [valV_neg e, b]; exact ih
theorem KT.repl {H : Hp} {kvs : List (List Key × V)} {xs : List (List Key × Addr × Value)} (r : KT H kvs xs) (k : List Key) {y : V} {u : Value} (ry : RelV y u) :
    KT H (kvs.map fun kv => if kv.1 = k then (kv.1, y) else kv) (xs.map (putAt k u)) := by
  induction r with
  | nil => exact .nil
  | @cons p q ps qs h t ih =>
    rw [List.map_cons, List.map_cons]
    refine .cons ?_ ih
    obtain ⟨h1, h2, h3⟩ := h
    unfold putAt
    by_cases e : p.1 = k
    · rw [if_pos e, if_pos (h1.symm.trans e)]; exact ⟨h1, h2, ry⟩
    · rw [if_neg e, if_neg (fun z => e (h1.trans z))]; exact ⟨h1, h2, h3⟩
theorem KT.put {H : Hp} {kvs : List (List Key × V)} {xs : List (List Key × Addr × Value)} (r : KT H kvs xs) (k : List Key) {b : Addr} {y : V} {u : Value} (hb : H b = some (.tup (k.map kV))) (ry : RelV y u) :
    KT H (putK kvs k y) (storedH xs k b u) := by
  have e : (kvs.any fun kv => decide (kv.1 = k)) = (atKey xs k).isSome := by
    rw [valV_any, (r.val k).isSome_eq, Option.isSome_map]
  unfold putK storedH
  rw [e]
  by_cases q : (atKey xs k).isSome = true
  · rw [if_pos q, if_pos q]; exact r.repl k ry
  · rw [if_neg q, if_neg q]; exact Paired.snoc r ⟨rfl, hb, ry⟩
theorem KT.keeps {H H' : Hp} {kvs : List (List Key × V)} {xs : List (List Key × Addr × Value)} (r : KT H kvs xs) (ht : ∀ b ys, H b = some (.tup ys) → H' b = some (.tup ys)) : KT H' kvs xs :=
  Paired.mapP r fun _ _ z => ⟨z.1, ht _ _ z.2.1, z.2.2⟩
section
variable {P : Program} {w : World} {H : Hp} {h : Heap} {a : Addr}
end
def DGet (H : Hp) (a : Addr) (y : V) (r : Option V) : Prop :=
  (∃ kvs k, Rd H a (.dK kvs) ∧ y = kV k ∧ r = valV kvs k) ∨ ∃ kvs k b, Rd H a (.dT kvs) ∧ y = .ref b ∧ H b = some (.tup (k.map kV)) ∧ r = valV kvs k
def DPut (H : Hp) (a : Addr) (y v : V) (H' : Hp) : Prop :=
  (∃ kvs k, H a = some (.dK kvs) ∧ y = kV k ∧ kvs.length < sizeLine ∧ H' = upd H a (.dK (putK kvs k v))) ∨
  ∃ kvs k b, H a = some (.dT kvs) ∧ y = .ref b ∧ H b = some (.tup (k.map kV)) ∧ kvs.length < sizeLine ∧ H' = upd H a (.dT (putK kvs k v))
theorem DGet.k {H : Hp} {a : Addr} {kvs : List (Key × V)} {k : Key} (e : H a = some (.dK kvs)) : DGet H a (kV k) (valV kvs k) := .inl ⟨kvs, k, .inl e, rfl, rfl⟩
theorem DGet.t {H : Hp} {a b : Addr} {kvs : List (List Key × V)} {k : List Key} (e : H a = some (.dT kvs)) (eb : H b = some (.tup (k.map kV))) : DGet H a (.ref b) (valV kvs k) := .inr ⟨kvs, k, b, .inl e, rfl, eb, rfl⟩
theorem DPut.k {H : Hp} {a : Addr} {kvs : List (Key × V)} {k : Key} {v : V} (e : H a = some (.dK kvs)) (hl : kvs.length < sizeLine) : DPut H a (kV k) v (upd H a (.dK (putK kvs k v))) := .inl ⟨kvs, k, e, rfl, hl, rfl⟩
theorem DPut.t {H : Hp} {a b : Addr} {kvs : List (List Key × V)} {k : List Key} {v : V} (e : H a = some (.dT kvs)) (eb : H b = some (.tup (k.map kV))) (hl : kvs.length < sizeLine) :
    DPut H a (.ref b) v (upd H a (.dT (putK kvs k v))) := .inr ⟨kvs, k, b, e, rfl, eb, hl, rfl⟩
section
variable {X : Cx} {pins : List (Addr × Obj)} {σ : St} {H : Hp} {s : Shared} {a : Addr} {y v : V} {u r : Value} {o : Option V} {A : Around} {E : Value → Shared → Prop}
theorem Inv.big (I : Inv X pins σ H s) : sysModules < s.heap.objs.size := by
  have h : mainGlobals < s.heap.objs.size := (I.mod.glob.keeps I.bk).lt
  exact Nat.lt_trans (by decide) h
end
section
variable {X : Cx} {pins : List (Addr × Obj)} {σ : St} {H : Hp} {s : Shared} {a : Addr} {kvs : List (Key × V)} {k : Key} {u : Value} {A : Around} {E : Value → Shared → Prop}
end
section
variable {X : Cx} {o i e value : Expr} {pos pos' tpos : Pos} {td ty tv : TE}
end
section
variable {X : Cx} {pos : Pos}
end
def mergeK (kvs more : List (Key × V)) : List (Key × V) := more.foldl (fun acc kv => putK acc kv.1 kv.2) kvs
theorem KV.merge : ∀ {more : List (Key × V)} {rs : List (Key × Value)} {kvs : List (Key × V)} {vs : List (Key × Value)}, KV more rs → KV kvs vs → KV (mergeK kvs more) (merged vs rs) := by
  intro more rs kvs vs r
  unfold KV at r
  induction r generalizing kvs vs with
  | nil => intro q; exact q
  | @cons p q ps qs h t ih =>
    intro r0
    have e : KV (putK kvs p.1 p.2) (stored vs q.1 q.2) := by
      have := r0.put p.1 h.2
      rw [← h.1]; exact this
    exact ih e
structure M1 (X : Cx) (o : Expr) (m : Str) (apos : Pos) (e : Expr) (cpos : Pos) : Prop where
  base : attributeBase o m X.env (eval o X.env) = eval o X.env
  few : ((backTo cpos (starEach [e] X.env)).all (fun x => !x.1) && (backToKw cpos (keywordEach [] X.env)).all (fun x => x.1.isSome)
    && decide (([e] : List Expr).length + ([] : List Keyword).length + (if ([] : List Keyword).isEmpty then 0 else 1) < 30)) = true
  line : (apos.endLine == cpos.line) = true
  trees : backTo cpos (starEach [e] X.env) = [(false, eval e X.env)]
structure M2 (X : Cx) (o : Expr) (m : Str) (apos : Pos) (e f : Expr) (cpos : Pos) : Prop where
  base : attributeBase o m X.env (eval o X.env) = eval o X.env
  few : ((backTo cpos (starEach [e, f] X.env)).all (fun x => !x.1) && (backToKw cpos (keywordEach [] X.env)).all (fun x => x.1.isSome)
    && decide (([e, f] : List Expr).length + ([] : List Keyword).length + (if ([] : List Keyword).isEmpty then 0 else 1) < 30)) = true
  line : (apos.endLine == cpos.line) = true
  trees : backTo cpos (starEach [e, f] X.env) = [(false, eval e X.env), (false, eval f X.env)]
section
variable {X : Cx} {pins : List (Addr × Obj)} {σ : St} {H : Hp} {s : Shared} {a : Addr} {y d : V} {u r : Value} {o : Option V} {A : Around} {E : Value → Shared → Prop}
end
section
variable {X : Cx} {o e f : Expr} {apos cpos : Pos} {td ty tx : TE}
end
section
variable {X : Cx} {pins : List (Addr × Obj)} {σ : St} {H : Hp} {s : Shared} {a : Addr} {kvs : List (Key × V)} {A : Around} {E : Value → Shared → Prop}
end
section
variable {X : Cx} {pins : List (Addr × Obj)} {σ : St} {H : Hp} {s : Shared} {a : Addr} {y : V} {u : Value} {A : Around} {E : Value → Shared → Prop}
end
end L2
namespace Att
open PySem PySem.W PySem.Calls PyProof.Rows
theorem ints_of_wellAll {P : Params} {h : Heap} : ∀ (ns : List Int) (vs : List Value), WellAll P h vs (ns.map WData.int) → IntsAre vs ns := by
  intro ns
  induction ns with
  | nil =>
    intro vs w
    rw [List.map_nil] at w
    cases w
    exact .nil
  | cons n ns ih =>
    intro vs w
    rw [List.map_cons] at w
    cases w with
    | cons a b =>
      cases a
      exact .cons _ _ (ih _ b)
theorem script_of {l : OpenLaw} {n : Nat} (hn : l.most = some n) {P : Params} {h : Heap} {args : List WData} {vals : List Value}
    (hpre : l.row.toRowW.claim.pre args = true) (hwl : WellAll P h vals args) :
    ∃ a vs ns, vals = [Value.ref a] ∧ args = [WData.list (ns.map WData.int)] ∧ h.get? a = some { cls := .type "list", data := .seq vs.toArray } ∧ IntsAre vs ns ∧ ns.length ≤ n := by
  have hsh : WShape.hasAll [] args [.list .int] = true := (pre_splitW hpre).1
  have hc : l.pre.holds [] { args := args } = true := (pre_splitW hpre).2
  obtain ⟨d, r, rfl, h1, h2⟩ := hasAllW_cons hsh
  obtain rfl := hasAllW_nil h2
  obtain ⟨xs, rfl, h3⟩ := hasW_list h1
  obtain ⟨ns, rfl⟩ := items_int h3
  have hlen : ns.length ≤ n := by
    unfold OpenLaw.pre at hc
    have h4 : (WTm.not (.lt (.lit (.int (n : Int))) (.len (.arg 0)))).holds [] { args := [.list (ns.map .int)] } = true := by
      have h4 := (holds_andW hc).1
      rw [hn] at h4
      exact h4
    have h5 := condW_of h4 (w_not (w_lt w_lit (w_len_list (w_arg rfl))))
    rw [List.length_map] at h5
    refine Nat.le_of_not_lt fun q => ?_
    have q' : (n : Int) < ((ns.length : Nat) : Int) := by omega
    first
      | (rw [decide_eq_true q'] at h5; exact absurd h5 (by decide))
      | (simp at h5; omega)
  cases hwl with
  | cons w1 w2 =>
    cases w2
    cases w1 with
    | list ho hall => exact ⟨_, _, ns, rfl, rfl, ho, ints_of_wellAll ns _ hall, hlen⟩
theorem post_true (l : OpenLaw) (args : List WData) : l.row.toRowW.claim.post args (.bool true) args = true :=
  postW_of (r := l.row.toRowW) (X := (true == true))
    (show WShape.has [] (.bool true) .bool = true by first | rfl | decide | simp [WShape.has, WShape.arms, WShape.armsAll])
    (show (WTm.eq .res (.lit (.bool true))).value [] { args := args, res := some (.bool true), after := args } = some (.bool (true == true)) from w_eq_bool (w_res rfl) w_lit) rfl
theorem attach_call {l : OpenLaw} {n : Nat} {q : Program} {loose : List Str} {XP : (Str → Option Value) → Heap → Prop} {YP : World → Heap → Prop} {d : DefRec}
    (hn : l.most = some n) (hdf : d.params.defaults = [])
    (call : ∀ (w : World) (s₀ s₁ : Shared) (mg mb : Str → Option Value) (fa : Addr) (o : Obj) (pm cd doc : Value) (a : Addr) (vs : List Value) (ns : List Int),
      Ground q loose [] XP w s₀ mg mb s₁.heap → YP w s₁.heap →
      s₁.heap.get? fa = some o → o.data = .func (docDef d.name d.params d.body d.scope pm cd doc) → s₁.heap.CodeRec cd d.name → mg d.name = some (.ref fa) →
      s₁.heap.get? a = some { cls := .type "list", data := .seq vs.toArray } → IntsAre vs ns → ns.length ≤ n → s₁.gens = #[] →
      codeAny (model l.prog w) callerA (.call (.ref fa) ⟨[.ref a], []⟩) (fun r s' => r = .ok (.ret (.bool true)) ∧ OldK s₁.heap s'.heap ∧ s'.os = s₁.os ∧ AllBare s'.gens) s₁) :
    WalkO q loose XP YP l.row.toRowW d [] (fun f vs => PySem.call f vs) := by
  intro w s₀ s₁ mg mb G Y fa o pm cd doc dV kV ho hd hcd hD hmg hg args vals as hpre hlay hrd hwl hlo
  obtain rfl : dV = .none := Dflts.none hD hdf
  obtain rfl : kV = .none := Dflts.noKw hD
  obtain ⟨a, vs, ns, rfl, rfl, hobj, hints, hlen⟩ := script_of hn hpre hwl
  refine enter_call (codeAny_mono (call w s₀ s₁ mg mb fa o pm cd doc a vs ns G Y ho (fd_plain hd) hcd hmg hobj hints hlen hg) fun r s' hq => ?_)
  obtain ⟨rfl, h2, h3, h4⟩ := hq
  exact ⟨.inl ⟨.bool true, .bool true, [], rfl, fun _ => rfl, .bool true, post_true l _, fun _ => ⟨List.Pairwise.nil, fun _ hm => (nomatch hm)⟩⟩, h2, h3, h4⟩
section
variable {prog : Program} {w : World} {A : Around} {E : Value → Shared → Prop} {s : Shared} {K : Frag}
end
end Att
namespace L2
open PySem PySem.Spec PyProof.Rows
theorem vals_ints : ∀ {vs : List Value} {ns : List Int}, IntsAre vs ns → Vals (ns.map V.int) vs
  | _, _, .nil => .nil
  | _, _, .cons n t h => .cons ⟨t, rfl⟩ (vals_ints h)
def Only (H : Hp) : Prop := ∀ b, H b = none ∨ ∃ o xs, H b = some (.frz o (.lst xs))
theorem law_call {P : Program} {w : World} {K : PySem.W.Frag} {mg mb : Str → Option Value} {CX : CXT} {k : Nat} {fa a : Addr} {fd : FuncData} {x : Str} {sp : Sp} {s₁ : Shared} {vs : List Value} {ns : List Int}
    (KX : K.In s₁.heap) (hns : s₁.heap.Ns mainGlobals mg) (hb : s₁.heap.Ns builtinsNs mb) (hbb : ∀ x : Str, x ≠ "__name__" → mb x = bootBuiltins x) (hlim : s₁.heap.NoLimit) (hg : s₁.gens = #[])
    (ha : s₁.heap.get? a = some { cls := .type "list", data := .seq vs.toArray }) (hi : IntsAre vs ns) (hl : ns.length ≤ sizeLine) (hr : Room k callerA)
    (F : ∀ base : Heap, K.In base → base.Ns mainGlobals mg → FnOk P w K mg base CX k fa fd [x] sp) (hbind : ∀ (s : Shared) (u : Value), BindsTo s fd ⟨[u], []⟩ [(x, u)])
    (hsp : ∀ H : Hp, Only H → SqL K H a (ns.map V.int) → sp [.ref a] H (fun v _ => v = .bl true) fun _ _ _ => False)
    (hCX : ∀ H e s', CX [] H s₁ (fun _ _ _ => False) e s' → False) :
    codeAny (model P w) callerA (.call (.ref fa) ⟨[.ref a], []⟩) (fun r s' => r = .ok (.ret (.bool true)) ∧ OldK s₁.heap s'.heap ∧ s'.os = s₁.os ∧ AllBare s'.gens) s₁ := by
  have rv := vals_ints hi
  have lenV := hi.length
  have core : ∀ H : Hp, Only H → SqL K H a (ns.map V.int) → HOk P w H s₁.heap → (∀ b, H b ≠ none → b = a) → (H a ≠ none → K.lookup a = none) →
      codeAny (model P w) callerA (.call (.ref fa) ⟨[.ref a], []⟩) (fun r s' => r = .ok (.ret (.bool true)) ∧ OldK s₁.heap s'.heap ∧ s'.os = s₁.os ∧ AllBare s'.gens) s₁ := by
    intro H hO hS hok hA hK
    have base_of : ∀ {b : Addr} {o : Obj}, s₁.heap.get? b = some o → H b = none → (hidT s₁.heap H).get? b = some o := fun e n => hidT_get e n
    have noA : ∀ {b : Addr} {o : Obj} {es : Array DictEntry} {ep : Nat}, s₁.heap.get? b = some o → o.data = .dict es ep → H b = none := fun {b o es ep} e d => by
      cases q : H b with
      | none => rfl
      | some u =>
        have e' : b = a := hA b (by rw [q]; simp)
        subst e'
        rw [ha] at e; cases e
        have d' : Data.seq vs.toArray _ = Data.dict es ep := d
        cases d'
    have nsK : ∀ {b : Addr} {m : Str → Option Value}, s₁.heap.Ns b m → (hidT s₁.heap H).Ns b m := fun {b m} ⟨o, es, ep, e, d, r⟩ => ⟨o, es, ep, base_of e (noA e d), d, r⟩
    have hKb : K.In (hidT s₁.heap H) := fun b o e => base_of (KX b o e) (by
      cases q : H b with
      | none => rfl
      | some u =>
        have e' : b = a := hA b (by rw [q]; simp)
        subst e'
        rw [hK (by rw [q]; simp)] at e; cases e)
    have hM : Mod K mg (hidT s₁.heap H) := ⟨hKb, nsK hns, ⟨mb, nsK hb, hbb⟩, let ⟨mc, h1, h2⟩ := hlim; ⟨mc, nsK h1, h2⟩⟩
    have e0 : Env0 P w K mg (hidT s₁.heap H) callerA [] s₁ H := ⟨rfl, hM, fun b o e => of_hidT e, Nat.le_of_eq (hidT_size _ _), trivial, fun b hb => absurd (show b ∈ ([] : List Addr) from hb) (by simp), hok, .of_eq hg⟩
    refine codeAny_mono ((F _ hKb (nsK hns)).run callerA [] s₁ H ⟨[.ref a], []⟩ [.ref a] [.ref a] _ _ hr e0 (hbind s₁ (.ref a)) (.cons rfl .nil) (hsp H hO hS)) fun r s' h => ?_
    cases r with
    | error e => exact (hCX H e s' h).elim
    | ok fl =>
      cases fl with
      | next => exact False.elim h
      | brk => exact False.elim h
      | cont => exact False.elim h
      | ret u =>
        obtain ⟨v, H', os, bare, un, hok', r', q⟩ := h
        have q' : v = .bl true := q
        subst q'
        obtain rfl : u = Value.bool true := r'
        refine ⟨rfl, OldK.of_keep fun b o e => ?_, os, bare⟩
        cases q : H b with
        | none => exact un.keep b o e q (by intro z; exact absurd (show b ∈ ([] : List Addr) from z) (by simp)) (by simp)
        | some u =>
          rcases hO b with z | ⟨ob, xs, z⟩
          · rw [q] at z; cases z
          · have z2 := un.frzs b ob _ z
            obtain ⟨e1, _⟩ := hok b _ z
            obtain ⟨e2, _⟩ := hok' b _ z2
            rw [e] at e1; cases e1
            exact e2
  cases hk : K.lookup a with
  | some o =>
    have e := KX a o hk
    rw [ha] at e
    cases e
    refine core (fun _ => none) (fun _ => .inl rfl) (.inr ⟨_, vs.toArray, _, hk, rfl, rfl, rfl, by rw [List.size_toArray, lenV]; exact hl, by simpa using rv⟩) (fun b u z => by have z' : (none : Option HO) = some u := z; cases z') (fun b z => absurd rfl z) fun z => absurd rfl z
  | none =>
    refine core (fun b => if b = a then some (.frz { cls := .type "list", data := .seq vs.toArray } (.lst (ns.map V.int))) else none) (fun b => ?_) (.inl (.inr ⟨{ cls := .type "list", data := .seq vs.toArray }, if_pos rfl⟩)) (fun b u z => ?_) (fun b z => ?_) fun _ => hk
    · by_cases hb : b = a
      · exact .inr ⟨_, _, if_pos hb⟩
      · exact .inl (if_neg hb)
    · by_cases hb : b = a
      · have z' := (if_pos hb).symm.trans z
        cases z'
        subst hb
        exact ⟨ha, by rw [List.length_map]; exact hl, vs, _, rv, ha⟩
      · have z' := (if_neg hb).symm.trans z
        cases z'
    · by_cases hb : b = a
      · exact hb
      · exact absurd (if_neg hb) z
end L2
namespace L2
open PySem PySem.Spec PyProof.Rows
abbrev KOf {K : PySem.W.Frag} {h : Heap} (_ : K.In h) : PySem.W.Frag := K
theorem walk_of {l : PySem.W.OpenLaw} {n k : Nat} {q : Program} {loose : List Str} {XP : (Str → Option Value) → Heap → Prop} {YP : World → Heap → Prop} {d : DefRec} {K : Params → PySem.W.Frag} {CX : World → CXT} {sp : World → Sp} {x : Str}
    (hn : l.most = some n) (hn2 : n ≤ sizeLine) (hdf : d.params.defaults = []) (hr : Room k callerA)
    (hY : ∀ (w : World) (h : Heap), YP w h → (K w.params).In h)
    (F : ∀ (w : World) (mg : Str → Option Value) (fa : Addr) (h : Heap), (K w.params).In h → h.Ns mainGlobals mg → mg d.name = some (.ref fa) →
      ∃ fd : FuncData, (∀ (s : Shared) (u : Value), BindsTo s fd ⟨[u], []⟩ [(x, u)]) ∧
        ∀ base : Heap, (K w.params).In base → base.Ns mainGlobals mg → FnOk l.prog w (K w.params) mg base (CX w) k fa fd [x] (sp w))
    (hsp : ∀ (w : World) (H : Hp) (a : Addr) (ns : List Int), ns.length ≤ n → Only H → SqL (K w.params) H a (ns.map V.int) → sp w [.ref a] H (fun v _ => v = .bl true) fun _ _ _ => False)
    (hCX : ∀ (w : World) (H : Hp) (s : Shared) (e : Value) (s' : Shared), CX w [] H s (fun _ _ _ => False) e s' → False) :
    PySem.W.WalkO q loose XP YP l.row.toRowW d [] (fun f vs => PySem.call f vs) := by
  refine Att.attach_call hn hdf fun w s₀ s₁ mg mb fa o pm cd doc a vs ns G Y ho hd hcd hmg hobj hints hlen hg => ?_
  have KX := hY w _ Y
  obtain ⟨fd, hb, hF⟩ := F w mg fa _ KX G.T.g hmg
  exact law_call KX G.T.g G.T.b G.T.builtins G.T.nolimit hg hobj hints (Nat.le_trans hlen hn2) hr hF hb (fun H hO hS => hsp w H a ns hlen hO hS) fun H e s' => hCX w H s₁ e s'
theorem walk_ofK {l : PySem.W.OpenLaw} {n k : Nat} {q : Program} {loose : List Str} {XP : (Str → Option Value) → Heap → Prop} {YP : World → Heap → Prop} {d : DefRec} {K : Params → PySem.W.Frag} {CX : CXT} {sp : PySem.W.Frag → Sp} {x : Str}
    (hn : l.most = some n) (hn2 : n ≤ sizeLine) (hdf : d.params.defaults = []) (hr : Room k callerA)
    (hY : ∀ (w : World) (h : Heap), YP w h → (K w.params).In h)
    (F : ∀ (w : World) (mg : Str → Option Value) (fa : Addr) (h : Heap), (K w.params).In h → h.Ns mainGlobals mg → mg d.name = some (.ref fa) →
      ∃ fd : FuncData, (∀ (s : Shared) (u : Value), BindsTo s fd ⟨[u], []⟩ [(x, u)]) ∧
        ∀ base : Heap, (K w.params).In base → base.Ns mainGlobals mg → FnOk l.prog w (K w.params) mg base CX k fa fd [x] (sp (K w.params)))
    (hsp : ∀ (K : PySem.W.Frag) (H : Hp) (a : Addr) (ns : List Int), ns.length ≤ n → Only H → SqL K H a (ns.map V.int) → sp K [.ref a] H (fun v _ => v = .bl true) fun _ _ _ => False)
    (hCX : ∀ (H : Hp) (s : Shared) (e : Value) (s' : Shared), CX [] H s (fun _ _ _ => False) e s' → False) :
    PySem.W.WalkO q loose XP YP l.row.toRowW d [] (fun f vs => PySem.call f vs) :=
  walk_of (K := K) (CX := fun _ => CX) (sp := fun w => sp (K w.params)) hn hn2 hdf hr hY F (fun w H a ns h1 h2 h3 => hsp (K w.params) H a ns h1 h2 h3) fun _ H s e s' => hCX H s e s'
end L2
/- THE LAST THEOREM (shape; LID, My.* are yours):
   My.Adr: a structure of the addresses that your layer names (classes, functions); My.Txt K t: a structure (Prop) of the equations over K;
   My.txt_mk : {K} {implicit addresses ..} (e1 : nsIn K mainGlobals "law" = some (some (.ref f))) (e2 : K.lookup f = some ⟨oc, od, .func (fnOf "law" "law" params body scope dV kV doc pm an cdv ct), sl⟩) (e3 : codeIn K cdv "law" = true) .. : ∃ t, My.Txt K t
set_option maxRecDepth 100000 in
set_option maxHeartbeats 0 in
theorem PySem.Challenge.cw_LID_holds : PySem.Challenge.rw_LID.Holds := by
  w_on; o_law; k_head; (case hw => w_witness2)
  k_fill
  refine L2.walk_of (l := PySem.Challenge.rw_LID) (n := 63) (k := 40) (x := "script") (CX := fun w => ..) (sp := fun _ => My.sp_law) rfl (by decide) rfl ⟨rfl, by decide, by decide⟩ (fun w h Y => PySem.W.kIn_of Y) ?F ?S ?C
  case F =>
    intro w mg fa h KX G hmg
    have T : ∃ t, My.Txt (L2.KOf KX) t := by
      dsimp only [L2.KOf]                          -- K must stand as «<heap const> w.params» for k_is
      refine' My.txt_mk ?e1 ?e2 ?e3 ..
      (case e1 => PySem.W.k_is)                    -- in the order: a name -> its address -> its object -> its parts
      (case e2 => PySem.W.k_is)
      ..
    obtain ⟨t, T⟩ := T
    have e0 := hmg.symm.trans (PySem.W.mg_of KX G T.law)
    cases e0                                       -- fa is the law's own address
    exact ⟨_, fun s u => .of_eq rfl, fun base kb nb => My.law_fn T kb nb⟩     -- if «.of_eq rfl» comes too early: refine' ⟨_, ?b, fun base kb nb => My.law_fn T kb nb⟩; exact fun s u => .of_eq rfl
  case S => exact fun w H a ns hl hO hS => ..
  case C => exact ..
(the tactic k_is has no namespace: write k_is) -/
namespace L2
open PySem PySem.Spec PyProof.Rows
def defArgs (s : Stmt) : Arguments := match s with
  | .FunctionDef _ a _ _ _ _ _ _ _ _ => a
  | _ => { posonlyargs := [], args := [], vararg := none, kwonlyargs := [], kw_defaults := [], kwarg := none, defaults := [] }
def defBody (s : Stmt) : List Stmt := match s with
  | .FunctionDef _ _ b _ _ _ _ _ _ _ => b
  | _ => []
def defScope (s : Stmt) : Scope := match s with
  | .FunctionDef _ _ _ _ _ _ sc _ _ _ => sc
  | _ => { kind := .function, names := [], isGenerator := false, isCoroutine := false }
abbrev CX0 : CXT := fun _ _ _ _ _ _ => False
abbrev E0 : XK := fun _ _ _ => False
theorem pass0 {X : Cx} : Passes CX0 X E0 := fun _ _ _ _ _ _ _ h => h.elim
structure Fun (K : PySem.W.Frag) (x qual : Str) (st : Stmt) (f : Addr) (fd : FuncData) : Prop where
  ex : ∃ (oc : Value) (od : Option Addr) (kV doc pm : Value) (an : Option Addr) (cdv ct : Value) (osl : Array (Option Value)),
    fd = PySem.W.fnOf x qual (defArgs st) (defBody st) (defScope st) .none kV doc pm an cdv ct ∧ K.lookup f = some ⟨oc, od, .func fd, osl⟩ ∧ PySem.W.codeIn K cdv qual = true
  kp : PySem.W.keepIn K (.ref f) = true
section
variable {P : Program} {w : World} {K : PySem.W.Frag} {mg : Str → Option Value} {base : Heap}
theorem Fun.ok {x qual : Str} {st : Stmt} {f : Addr} {fd : FuncData} {N ps : List Str} {k : Nat} {sp : Sp} (F : Fun K x qual st f fd) (S : FnScope N ps (defScope st)) (len : ∀ vs H Q E, sp vs H Q E → vs.length = ps.length)
    (hbody : ∀ (cdv : Value) (A : Around) (outer : List Env) (s : Shared) (H : Hp) (vs : List V) (Q : VK) (E : XK), Room k (A.deeper (envOfC qual (defScope st) s.heap.objs.size f cdv)) → sp vs H Q E →
      ∃ t, PSs (cxOf CX0 P w K mg base N qual (defScope st) f cdv A outer s H E).nox (defBody st) t ∧ t { nx := fun _ H' => Q .non H', rt := Q } (start N vs) H) : FnOk P w K mg base CX0 (k + 1) f fd ps sp := by
  obtain ⟨oc, od, kV, doc, pm, an, cdv, ct, osl, rfl, lk, hcd⟩ := F.ex
  refine fn_of lk hcd S len fun A outer s H vs Q E hr hsp => ?_
  obtain ⟨t, h, q⟩ := hbody cdv A outer s H vs Q E hr hsp
  exact ⟨t, h.nox, q⟩
theorem Fun.binds {x qual : Str} {st : Stmt} {f : Addr} {fd : FuncData} {ps : List Str} (F : Fun K x qual st f fd)
    (h : ∀ (kV doc pm : Value) (an : Option Addr) (cdv ct : Value) (us : List Value), us.length = ps.length → bindArgs (PySem.W.fnOf x qual (defArgs st) (defBody st) (defScope st) .none kV doc pm an cdv ct) ⟨us, []⟩ = pure (ps.zip us)) : Binds K fd ps [] := by
  obtain ⟨oc, od, kV, doc, pm, an, cdv, ct, osl, rfl, lk, hcd⟩ := F.ex
  exact .all (h kV doc pm an cdv ct)
theorem fun_mk {x qual : Str} {st : Stmt} {f : Addr} {oc : Value} {od an : Option Addr} {osl : Array (Option Value)} {kV doc pm cdv ct : Value} (l : K.lookup f = some ⟨oc, od, .func (PySem.W.fnOf x qual (defArgs st) (defBody st) (defScope st) .none kV doc pm an cdv ct), osl⟩)
    (c : PySem.W.codeIn K cdv qual = true) (k : PySem.W.keepIn K (.ref f) = true) : Fun K x qual st f (PySem.W.fnOf x qual (defArgs st) (defBody st) (defScope st) .none kV doc pm an cdv ct) := ⟨⟨oc, od, kV, doc, pm, an, cdv, ct, osl, rfl, l, c⟩, k⟩
end
theorem small1000 {n : Nat} (h : n ≤ 1000) : n < sizeLine := Nat.lt_of_le_of_lt h (by decide)
section
variable {X : Cx}
theorem pv (i : Nat) {x : Str} {pos : Pos} (hN : X.N[i]? = some x := by rfl) (hv : Vis X.env.scope x := by first | exact Or.inl rfl | exact Or.inr (Or.inl rfl) | exact Or.inr (Or.inr rfl)) (hd : (x == ("__debug__" : Str)) = false := by decide)
    (hcd : (x == ("__classdict__" : Str)) = false := by decide) : PE X (.Name x pos) (tVar i) := pe_var hN hv hd hcd
end
theorem iteF {A B : Prop} (h : B) : if false = true then A else B := by
  rw [if_neg Bool.false_ne_true]
  exact h
theorem iteT {A B : Prop} (h : A) : if true = true then A else B := by
  rw [if_pos rfl]
  exact h
theorem ite2 {c A B : Prop} [Decidable c] (h1 : c → A) (h2 : ¬ c → B) : if c then A else B := by
  by_cases h : c
  · rw [if_pos h]
    exact h1 h
  · rw [if_neg h]
    exact h2 h
def Same (H H' : Hp) : Prop := ∀ b o, H b = some o → H' b = some o
theorem Same.refl (H : Hp) : Same H H := fun _ _ h => h
theorem Same.trans {H H1 H2 : Hp} (a : Same H H1) (b : Same H1 H2) : Same H H2 := fun c o h => b c o (a c o h)
theorem Same.free {H H' : Hp} (e : Same H H') {l : Addr} (h : H' l = Option.none) : H l = Option.none := by
  cases q : H l with
  | none => rfl
  | some o =>
    rw [e l o q] at h
    cases h
theorem Same.seq {K : PySem.W.Frag} {H H' : Hp} {a : Addr} {xs : List V} (e : Same H H') (h : SqL K H a xs) : SqL K H' a xs := by
  rcases h with (h | ⟨o, h⟩) | h
  · exact .inl (.inl (e _ _ h))
  · exact .inl (.inr ⟨o, e _ _ h⟩)
  · exact .inr h
section
variable {X : Cx}
end
section
variable {κ : Type} [DecidableEq κ]
end
end L2
namespace L2
open PySem PySem.Spec PyProof.Rows
theorem lookup_cons_or {β : Type} {x n : Str} {b c : β} {l : List (Str × β)} (h : ((n, b) :: l).lookup x = some c) : (x = n ∧ b = c) ∨ l.lookup x = some c := by
  rw [List.lookup_cons] at h
  cases e : x == n with
  | true =>
    rw [e] at h
    exact .inl ⟨eq_of_beq e, Option.some.inj h⟩
  | false =>
    rw [e] at h
    exact .inr h
theorem lookup_cons_some {β : Type} {x n : Str} {b : β} {l : List (Str × β)} (h : x = n ∨ ∃ c, l.lookup x = some c) : ∃ c, ((n, b) :: l).lookup x = some c := by
  rw [List.lookup_cons]
  cases e : x == n with
  | true => exact ⟨b, rfl⟩
  | false =>
    rcases h with h | h
    · subst h
      simp at e
    · exact h
theorem closFor_go {env : Env} : ∀ (names : List (Str × NameKind)) (acc : List (Str × Addr)), (∀ y ∈ names, y.2 = .free → ∃ c, env.cells.lookup y.1 = some c) →
    (∀ x c, acc.lookup x = some c → env.cells.lookup x = some c) →
    ∃ cl, (forIn names acc (fun x r => if (x.2 == NameKind.free) = true then (cellOf env x.1 >>= fun c => pure (ForInStep.yield ((x.1, c) :: r))) else pure (ForInStep.yield r)) : Sem (List (Str × Addr))) = pure cl ∧
      (∀ x c, cl.lookup x = some c → env.cells.lookup x = some c) ∧ (∀ y ∈ names, y.2 = .free → ∃ c, cl.lookup y.1 = some c) ∧ (∀ x c, acc.lookup x = some c → ∃ c', cl.lookup x = some c')
  | [], acc, _, h => ⟨acc, rfl, h, (fun _ z => nomatch z), fun x c e => ⟨c, e⟩⟩
  | (n, k) :: r, acc, hn, h => by
    rw [List.forIn_cons]
    by_cases hk : k = .free
    · subst hk
      obtain ⟨c, hc⟩ := hn (n, .free) List.mem_cons_self rfl
      have e1 : (cellOf env n : Sem Addr) = pure c := by
        have hc' : env.cells.lookup n = some c := hc
        unfold cellOf
        rw [hc']
      obtain ⟨cl, e, h1, h2, h3⟩ := closFor_go r ((n, c) :: acc) (fun y hy => hn y (List.mem_cons_of_mem _ hy)) (fun x c' e => by
        rcases lookup_cons_or e with ⟨e1, e2⟩ | e
        · subst e1; subst e2; exact hc
        · exact h x c' e)
      refine ⟨cl, ?_, h1, ?_, fun x c' e => ?_⟩
      · show ((if ((n, NameKind.free).2 == NameKind.free) = true then (cellOf env n >>= fun c => pure (ForInStep.yield ((n, c) :: acc))) else pure (ForInStep.yield acc)) >>= _) = _
        rw [if_pos (show ((n, NameKind.free).2 == NameKind.free) = true from rfl), e1]
        exact e
      · intro y hy hf
        rcases List.mem_cons.mp hy with rfl | hy
        · exact h3 n c (by simp)
        · exact h2 y hy hf
      · obtain ⟨c2, e2⟩ := lookup_cons_some (n := n) (b := c) (.inr ⟨c', e⟩)
        exact h3 x c2 e2
    · obtain ⟨cl, e, h1, h2, h3⟩ := closFor_go r acc (fun y hy => hn y (List.mem_cons_of_mem _ hy)) h
      refine ⟨cl, ?_, h1, ?_, h3⟩
      · show ((if ((n, k).2 == NameKind.free) = true then (cellOf env n >>= fun c => pure (ForInStep.yield ((n, c) :: acc))) else pure (ForInStep.yield acc)) >>= _) = _
        rw [if_neg (by simpa using hk)]
        exact e
      · intro y hy hf
        rcases List.mem_cons.mp hy with rfl | hy
        · exact absurd hf hk
        · exact h2 y hy hf
theorem closFor {scope : Scope} {env : Env} (h : ∀ y ∈ scope.names, y.2 = .free → ∃ c, env.cells.lookup y.1 = some c) :
    ∃ cl, closureFor scope env = pure cl ∧ (∀ x c, cl.lookup x = some c → env.cells.lookup x = some c) ∧ (∀ y ∈ scope.names, y.2 = .free → ∃ c, cl.lookup y.1 = some c) := by
  obtain ⟨cl, e, h1, h2, _⟩ := closFor_go scope.names [] h (fun x c e => by simp at e)
  refine ⟨cl, ?_, h1, h2⟩
  unfold closureFor
  show ((forIn scope.names [] (fun x r => if (x.2 == NameKind.free) = true then (cellOf env x.1 >>= fun c => pure (ForInStep.yield ((x.1, c) :: r))) else pure (ForInStep.yield r)) : Sem (List (Str × Addr))) >>= fun r => pure r) = _
  rw [e]
  rfl
def relK (env : Env) (x : Str) (k : NameKind) : NameKind := if (k == .free && env.scope.kind == .function && env.kindOf x == some .cell) = true then .cell else k
theorem lookup_relabel {env : Env} {x : Str} : ∀ (names : List (Str × NameKind)),
    (names.map fun (n, k) => if (k == NameKind.free && env.scope.kind == .function && env.kindOf n == some .cell) = true then (n, NameKind.cell) else (n, k)).lookup x = (names.lookup x).map (relK env x)
  | [] => rfl
  | (n, k) :: r => by
    have ih := lookup_relabel (env := env) (x := x) r
    have e : (if (k == NameKind.free && env.scope.kind == .function && env.kindOf n == some .cell) = true then (n, NameKind.cell) else (n, k)) = (n, relK env n k) := by
      unfold relK
      split <;> rfl
    show List.lookup x ((if (k == NameKind.free && env.scope.kind == .function && env.kindOf n == some .cell) = true then (n, NameKind.cell) else (n, k)) :: _) = _
    rw [e, List.lookup_cons, List.lookup_cons]
    cases hx : x == n with
    | true =>
      have := eq_of_beq hx
      subst this
      rfl
    | false => exact ih
theorem kindOf_comp {scope : Scope} {cl : List (Str × Addr)} {C : Addr} {env : Env} {x : Str} : (compEnvC scope cl C env).kindOf x = (scope.names.lookup x).map (relK env x) := lookup_relabel (env := env) (x := x) scope.names
theorem relK_free {env : Env} {x : Str} : relK env x .free = .cell ∨ relK env x .free = .free := by
  unfold relK
  split
  · exact .inl rfl
  · exact .inr rfl
theorem relK_of {env : Env} {x : Str} {k : NameKind} (h : relK env x k = .cell ∨ relK env x k = .free) : k = .cell ∨ k = .free := by
  unfold relK at h
  split at h
  · rename_i z
    simp only [Bool.and_eq_true, beq_iff_eq] at z
    exact .inr z.1.1
  · exact h
def capt (caps : List (Option Nat)) (σ : St) : St := caps.map fun o => match o with
  | none => none
  | some j => (σ[j]?).join
def compOk (oN : List Str) (osc : Scope) (N : List Str) (caps : List (Option Nat)) (sc : Scope) : Bool :=
  (sc.kind == .function) && decide N.Nodup && (N.length == caps.length) && sc.names.all (fun y => !(y.2 == .cell)) &&
  sc.names.all (fun y => !(y.2 == .local) || sc.names.lookup y.1 == some .local) &&
  sc.names.all (fun y => !(y.2 == .free) || (osc.names.lookup y.1 == some .cell || osc.names.lookup y.1 == some .free)) &&
  (N.zip caps).all (fun p => match p.2 with
    | none => true
    | some j => oN[j]? == some p.1 && sc.names.lookup p.1 == some .free)
structure CompOk (oN : List Str) (osc : Scope) (N : List Str) (caps : List (Option Nat)) (sc : Scope) : Prop where
  kind : sc.kind = .function
  nd : N.Nodup
  len : N.length = caps.length
  nocell : ∀ y ∈ sc.names, y.2 ≠ .cell
  loc : ∀ y ∈ sc.names, y.2 = .local → sc.names.lookup y.1 = some .local
  fr : ∀ y ∈ sc.names, y.2 = .free → osc.names.lookup y.1 = some .cell ∨ osc.names.lookup y.1 = some .free
  cap : ∀ (i j : Nat) (x : Str), N[i]? = some x → caps[i]? = some (some j) → oN[j]? = some x ∧ sc.names.lookup x = some .free
theorem compOk_of {oN : List Str} {osc : Scope} {N : List Str} {caps : List (Option Nat)} {sc : Scope} (h : compOk oN osc N caps sc = true) : CompOk oN osc N caps sc := by
  unfold compOk at h
  simp only [Bool.and_eq_true, List.all_eq_true, decide_eq_true_eq, beq_iff_eq, Bool.or_eq_true, Bool.not_eq_true', beq_eq_false_iff_ne, ne_eq] at h
  obtain ⟨⟨⟨⟨⟨⟨h1, h2⟩, h3⟩, h4⟩, h5⟩, h6⟩, h7⟩ := h
  refine ⟨h1, h2, h3, h4, fun y hy e => ?_, fun y hy e => ?_, fun i j x hi hj => ?_⟩
  · rcases h5 y hy with z | z
    · exact absurd e z
    · exact z
  · rcases h6 y hy with z | z
    · exact absurd e z
    · exact z
  · have hm : (x, some j) ∈ N.zip caps := by
      refine List.mem_of_getElem? (i := i) ?_
      rw [List.getElem?_zip_eq_some]
      exact ⟨hi, hj⟩
    have := h7 _ hm
    simpa using this
def cxComp (X : Cx) (N : List Str) (scope : Scope) (cl : List (Str × Addr)) (C : Addr) (fp : List Addr) (s : Shared) (H : Hp) : Cx :=
  { X with N := N, s₀ := s, H₀ := H, env := compEnvC scope cl C X.env, outer := X.stack, ex := fp, fn := fun _ => false, pn := [], xe := fun _ _ => False }
section
variable {X : Cx} {pins : List (Addr × Obj)} {σ : St} {H : Hp} {s : Shared} {N : List Str} {caps : List (Option Nat)} {scope : Scope} {cl : List (Str × Addr)} {fp : List Addr}
theorem inv_comp (I : Inv X pins σ H s) (hf : ∀ b ∈ fp, FpOk X pins H b) (ho : ∀ b ∈ fp, ∃ o, s.heap.get? b = some o) (S : CompOk X.N X.env.scope N caps scope)
    (c1 : ∀ x c, cl.lookup x = some c → X.env.cells.lookup x = some c) (c2 : ∀ y ∈ scope.names, y.2 = .free → ∃ c, cl.lookup y.1 = some c)
    {h' : Heap} {m : Str → Option Value} {tk : Nat} (hn : h'.Ns s.heap.objs.size m) (hk : ∀ b u, s.heap.get? b = some u → h'.get? b = some u) :
    Inv (cxComp X N scope cl s.heap.objs.size fp s H) [] (capt caps σ) H { s with heap := h', toks := tk } := by
  have noS : ∀ b ∈ fp, b ∉ frs X.stack := fun b hb z => by
    obtain ⟨_, f1, f2, _⟩ := hf b hb
    rcases List.mem_cons.mp (I.stkSub b z) with e | e
    · exact f1 e
    · exact f2 e
  have frOf : ∀ x, scope.names.lookup x = some .free → ∃ c, cl.lookup x = some c := fun x e => c2 (x, .free) (PySem.mem_of_lookup e) rfl
  refine ⟨⟨I.ok.mod, S.kind, I.ok.glob, I.ok.blt, Nat.le_refl _, fun x y c e1 e2 => I.ok.inj x y c (c1 x c e1) (c1 y c e2), fun x hx => ?_, fun x c z _ => absurd (show false = true from z) (by decide), I.ok.hd, I.ok.frames, .inl rfl,
    fun b hb => ⟨?_, fun x c e => (hf b hb).2.2.2.2.1 x c (c1 x c e)⟩, I.bs, Nat.le_trans I.ok.bsz I.sz, fun b o e hb => ?_, noS, I.stack, I.stkFree⟩,
    rfl, I.bare, Un.kept hk, ⟨m, hn, fun i x v e1 e2 e3 => ?_⟩, fun x c e => ?_, I.hok.fresh (Nat.le_refl _), fun x c e => I.freeC x c (c1 x c e), fun p hp => absurd (show p ∈ ([] : List (Addr × Obj)) from hp) (by simp), I.hok.kept hk, ?_⟩
  · have hx' : (scope.names.lookup x).map (relK X.env x) = some .cell ∨ (scope.names.lookup x).map (relK X.env x) = some .free := by
      rw [← kindOf_comp (cl := cl) (C := s.heap.objs.size)]
      exact hx
    cases e : scope.names.lookup x with
    | none =>
      rw [e] at hx'
      rcases hx' with z | z <;> cases z
    | some k =>
      rw [e] at hx'
      have z : relK X.env x k = .cell ∨ relK X.env x k = .free := by
        rcases hx' with z | z
        · exact .inl (Option.some.inj z)
        · exact .inr (Option.some.inj z)
      rcases relK_of z with z | z
      · subst z
        exact absurd rfl (S.nocell _ (PySem.mem_of_lookup e))
      · subst z
        exact frOf x e
  · obtain ⟨o, e⟩ := ho b hb
    exact Nat.ne_of_lt (Heap.lt_size e)
  · obtain ⟨_, _, _, f3, _⟩ := hf b hb
    rcases f3 with z | z
    · exact I.ok.noex b o e z
    · exact absurd (Nat.lt_of_lt_of_le (Heap.lt_size e) (Nat.le_trans I.ok.bsz z)) (Nat.lt_irrefl _)
  · have hi : i < caps.length := by
      unfold capt at e2
      obtain ⟨h1, _⟩ := List.getElem?_eq_some_iff.mp e2
      simpa using h1
    have ec : (capt caps σ)[i]? = (caps[i]?).map fun o => match o with
        | none => none
        | some j => (σ[j]?).join := by
      unfold capt
      rw [List.getElem?_map]
    rw [e2] at ec
    cases q : caps[i]? with
    | none =>
      rw [q] at ec
      cases ec
    | some o =>
      rw [q] at ec
      cases o with
      | none =>
        cases (Option.some.inj ec)
      | some j =>
        have ej : σ[j]? = some (some v) := by
          have z : some v = (σ[j]?).join := Option.some.inj ec
          cases q2 : σ[j]? with
          | none => rw [q2] at z; cases z
          | some w => rw [q2] at z; exact congrArg some z.symm
        obtain ⟨n1, n2⟩ := S.cap i j x e1 q
        have vis : X.env.kindOf x = some .cell ∨ X.env.kindOf x = some .free := S.fr (x, .free) (PySem.mem_of_lookup n2) rfl
        obtain ⟨m0, _, hl⟩ := I.loc
        obtain ⟨u, r, l⟩ := hl j x v n1 ej (.inr vis)
        refine ⟨u, r, ?_⟩
        rcases l with ⟨k, _⟩ | ⟨_, c, ec, z⟩
        · rw [k] at vis
          rcases vis with z | z <;> cases z
        · obtain ⟨c', e'⟩ := frOf x n2
          have : c' = c := Option.some.inj ((c1 x c' e').symm.trans ec)
          subst this
          refine .inr ⟨?_, c', e', ?_⟩
          · have kk : (compEnvC scope cl s.heap.objs.size X.env).kindOf x = some (relK X.env x .free) := by rw [kindOf_comp, n2]; rfl
            rcases relK_free (env := X.env) (x := x) with z | z
            · rw [z] at kk; exact .inl kk
            · rw [z] at kk; exact .inr kk
          · obtain ⟨o, ho1, ho2⟩ := z
            exact ⟨o, hk _ _ ho1, ho2⟩
  · obtain ⟨v, o, ho1, ho2⟩ := I.cell x c (c1 x c e)
    exact ⟨v, o, hk _ _ ho1, ho2⟩
  · show (capt caps σ).length = N.length
    unfold capt
    rw [List.length_map]
    exact S.len.symm
end
end L2
namespace L2
open PySem PySem.Spec PyProof.Rows
def PF (X : Cx) (ifs : List Expr) (t : TT) : Prop :=
  ∀ (pins : List (Addr × Obj)) (s : Shared) (σ : St) (H : Hp) (Q : Bool → Hp → Prop), Inv X pins σ H s → t σ H Q →
    wpAny (model X.prog X.w) X.A (forIn ifs true fun c r => if r = true then do let ok ← isTrue c X.env (eval c X.env); pure (ForInStep.yield ok) else pure (ForInStep.yield r)) (TP X pins σ Q) X.xe s
def tYes : TT := fun _ H Q => Q true H
section
variable {X : Cx}
theorem pf_nil : PF X [] tYes := fun _ _ _ H _ I h => wpAny_pure ⟨H, I, h⟩
end
theorem compLoop_any {prog : Program} {w : World} {A : Around} {R : Result → Shared → Prop} {s : Shared} {elt target iter : Expr} {ifs : List Expr} {scope : Scope} {pos : Pos} {it acc : Value} {env : Env} (I : Nat → Shared → Prop)
    (turn : ∀ n s, I n s → wpAny (model prog w) A (pyNext it) (fun r s₁ => match r with
      | none => R (.ok .next) s₁
      | some v => wpAny (model prog w) A (letOwnedTupleGo target it v) (fun _ s₁' => wpAny (model prog w) A (assign target env v) (fun _ s₂ =>
          wpAny (model prog w) A (forIn ifs true fun c r => if r = true then do let ok ← isTrue c env (eval c env); pure (ForInStep.yield ok) else pure (ForInStep.yield r)) (fun ok s₃ =>
            if ok = true then wpAny (model prog w) A (eval elt env) (fun x s₄ =>
              wpAny (model prog w) A (call (.builtin "list.append") [acc, x]) (fun _ s₅ => ∃ m, m < n ∧ I m s₅) (fun _ _ => False) s₄) (fun _ _ => False) s₃
            else ∃ m, m < n ∧ I m s₃) (fun _ _ => False) s₂) (fun _ _ => False) s₁') (fun _ _ => False) s₁) (fun _ _ => False) s)
    (n : Nat) (h : I n s) :
    codeAny (model prog w) A (.compLoop (.ListComp elt [⟨target, iter, ifs, 0⟩] scope pos) 0 it acc env) R s := by
  refine codeAny_loop rfl I (fun n s hI => ?_) n h
  show wpAny _ A ((compTurn (.ListComp elt [⟨target, iter, ifs, 0⟩] scope pos) 0 it acc env).onRaise (fun x => do noteFrame x env; theTreesLotGoes x)) _ _ s
  refine wpAny_noted ?_
  rw [compTurn_list]
  refine wpAny_bind (wpAny_standAt (wpAny_bind (wpAny_mono (turn n s hI) (fun r s₁ h₁ => ?_) fun _ _ z => False.elim z)))
  cases r with
  | none => exact wpAny_pure h₁
  | some v =>
    refine wpAny_bind (wpAny_mono h₁ (fun _ s₁' h₁' => ?_) fun _ _ z => False.elim z)
    refine wpAny_bind (wpAny_mono h₁' (fun _ s₂ h₂ => wpAny_bind (wpAny_mono h₂ (fun ok s₃ h₃ => ?_) fun _ _ z => False.elim z)) fun _ _ z => False.elim z)
    cases ok with
    | false => exact wpAny_pure ⟨rfl, h₃⟩
    | true =>
      exact wpAny_bind (wpAny_bind (wpAny_mono h₃ (fun x s₄ h₄ => wpAny_bind (wpAny_mono h₄ (fun _ s₅ h₅ => wpAny_pure (wpAny_pure ⟨rfl, h₅⟩)) fun _ _ z => False.elim z)) fun _ _ z => False.elim z))
def CompW (J : It) (g : TG) (tf : TT) (te : TE) (D : Addr) (QE : Hp → Prop) (W : Nat → Nat → St → Hp → Prop) : Prop := ∀ i m σ H, W i m σ H →
  (J.stop i H ∧ QE H) ∨ (J.go i H ∧ ∃ N : St → Hp → Prop, (∀ σ' H', N σ' H' → ∃ m', m' < m ∧ W (i + 1) m' σ' H') ∧ ∀ x H', J.yld i H x H' → g x σ H' fun σ2 H2 => tf σ2 H2 fun b H3 =>
    if b = true then te σ2 H3 fun v H4 => ∃ xs, H4 D = some (.lst xs) ∧ xs.length < sizeLine ∧ N σ2 (upd H4 D (.lst (xs ++ [v]))) else N σ2 H3)
def tComp (caps : List (Option Nat)) (wi : TI) (g : TG) (tf : TT) (te : TE) : TE := fun σ H Q => wi σ H fun J H1 => ∀ D, H1 D = none →
  ∃ W : Nat → Nat → St → Hp → Prop, (∃ m, W 0 m (capt caps σ) (upd H1 D (.lst []))) ∧ CompW J g tf te D (fun H' => Q (.ref D) H') W
section
variable {X : Cx} {pins : List (Addr × Obj)} {σ : St} {H : Hp} {s : Shared} {N : List Str} {caps : List (Option Nat)} {scope : Scope} {elt tg iter : Expr} {ifs : List Expr} {wi : TI} {g : TG} {tf : TT} {te : TE} {pos : Pos}
theorem comp_core {RR : Value → Addr → Result → Shared → Prop} {cl : List (Str × Addr)} {Q : VK} (hc : X.calm = true) (S : CompOk X.N X.env.scope N caps scope) (hi : PI X tg iter wi)
    (hg : ∀ cl C fp s H, PG (cxComp X N scope cl C fp s H) tg g) (hf : ∀ cl C fp s H, PF (cxComp X N scope cl C fp s H) ifs tf) (he : ∀ cl C fp s H, PE (cxComp X N scope cl C fp s H) elt te)
    (c1 : ∀ x c, cl.lookup x = some c → X.env.cells.lookup x = some c) (c2 : ∀ y ∈ scope.names, y.2 = .free → ∃ c, cl.lookup y.1 = some c)
    (I : Inv X pins σ H s) (h : tComp caps wi g tf te σ H Q)
    (fin : ∀ (D C : Addr) (m : Str → Option Value) (H5 : Hp) (s5 : Shared), Inv X pins σ H5 s5 → s5.heap.Ns C m → FpOk X pins H5 C → Q (.ref D) H5 → RR (.ref D) C (.ok .next) s5) :
    wpAny (model X.prog X.w) X.A (eval iter X.env) (fun x s₁ => wpAny (model X.prog X.w) X.A (pyIter x) (fun it s₂ => wpAny (model X.prog X.w) X.A (newList []) (fun acc s₃ =>
      wpAny (model X.prog X.w) X.A (newFunctionEnv scope X.env.globals cl [] X.env.qual none .none (some X.env)) (fun cenv s₄ =>
        codeAny (model X.prog X.w) X.A (.compStart (.ListComp elt [⟨tg, iter, ifs, 0⟩] scope pos) 0 it acc { cenv with scope := relabel scope X.env }) (RR acc cenv.locals) s₄) X.xe s₃) X.xe s₂) X.xe s₁) X.xe s := by
  refine thn (hi pins s σ H _ I h) fun v s1 h1 => thn h1 fun itv s2 h2 => ?_
  obtain ⟨it, fp, tn, J, H2, e, I2, T, st2, f2, q⟩ := h2
  subst e
  have nD : H2 s2.heap.objs.size = none := I2.hok.fresh (Nat.le_refl _)
  obtain ⟨W, ⟨m0, w0⟩, turn⟩ := q s2.heap.objs.size nD
  refine wpAny_newObj_type ?_
  have I3 : Inv X pins σ (upd H2 s2.heap.objs.size (.lst [])) { s2 with heap := s2.heap.push { cls := .type "list", data := .seq ([] : List Value).toArray } } :=
    I2.laid (t' := s2.toks) (o := .lst []) (fun b ob e => Heap.get?_push_of_some _ e) (Nat.le_refl _) ⟨Nat.zero_le _, [], 0, .nil, Heap.get?_push_size _ rfl⟩
  have ob2 : ∀ b ∈ fp, ∃ o, s2.heap.get? b = some o := fun b hb => let ⟨o, e, _⟩ := T.obj 0 s2.heap st2 b hb; ⟨o, e⟩
  have nfD : ∀ b ∈ fp, b ≠ s2.heap.objs.size := fun b hb => let ⟨o, e⟩ := ob2 b hb; Nat.ne_of_lt (Heap.lt_size e)
  generalize hs3 : ({ s2 with heap := s2.heap.push { cls := .type "list", data := .seq ([] : List Value).toArray } } : Shared) = s3 at I3
  have eh : s3.heap = s2.heap.push { cls := .type "list", data := .seq ([] : List Value).toArray } := by rw [← hs3]
  generalize hD : s2.heap.objs.size = D at *
  generalize hH3 : upd H2 D (.lst []) = H3 at I3 w0
  have f3 : ∀ b ∈ fp, FpOk X pins H3 b := fun b hb => ⟨by rw [← hH3, upd_ne (nfD b hb)]; exact (f2 b hb).1, (f2 b hb).2⟩
  have ob3 : ∀ b ∈ fp, ∃ o, s3.heap.get? b = some o := fun b hb => let ⟨o, e⟩ := ob2 b hb; ⟨o, by rw [eh]; exact Heap.get?_push_of_some _ e⟩
  have st3 : tn 0 s3.heap := T.keep 0 _ _ st2 fun b hb o e => by rw [eh]; exact Heap.get?_push_of_some _ e
  show wpAny (model X.prog X.w) X.A (newFunctionEnv scope X.env.globals cl [] X.env.qual none .none (some X.env)) _ X.xe s3
  refine wpAny_newFunctionEnv S.nocell (by intro y hy; simp at hy) (fun h₁ hns₁ hsb₁ => ?_) S.kind
  have k1 : ∀ b u, s3.heap.get? b = some u → h₁.get? b = some u := fun b u e => hsb₁.extBut b u (Nat.ne_of_lt (Heap.lt_size e)) (Heap.get?_push_of_some _ e)
  have J0 := inv_comp (tk := s3.toks + ([] : List (Str × Value)).length) I3 f3 ob3 S c1 c2 hns₁ k1
  generalize hC : s3.heap.objs.size = C at *
  generalize hX' : cxComp X N scope cl C fp s3 H3 = X' at J0
  have st4 : tn 0 h₁ := T.keep 0 _ _ st3 fun b hb o e => k1 b o e
  have stat : ∀ {H' : Hp}, (∀ b ∈ fp, H' b = none) → ∀ b ∈ fp, FpOk X' [] H' b := fun {H'} hn b hb => by
    subst hX'
    exact ⟨hn b hb, (J0.ok.exf b hb).1, J0.ok.exfs b hb, .inl hb, (J0.ok.exf b hb).2, fun p hp => absurd (show p ∈ ([] : List (Addr × Obj)) from hp) (by simp)⟩
  have loop : ∀ s4 : Shared, s4 = { s3 with heap := h₁, toks := s3.toks + ([] : List (Str × Value)).length } →
      codeAny (model X.prog X.w) X.A (.compLoop (.ListComp elt [⟨tg, iter, ifs, 0⟩] scope pos) 0 (.ref it) (.ref D) (compEnvC scope cl C X.env)) (RR (.ref D) C) s4 := by
    rintro s4 rfl
    refine compLoop_any (fun n s' => ∃ i σ' H', Inv X' [] σ' H' s' ∧ tn i s'.heap ∧ (∀ b ∈ fp, H' b = none) ∧ W i n σ' H') ?_ m0 ⟨0, _, H3, J0, st4, fun b hb => (f3 b hb).1, w0⟩
    rintro n s4 ⟨i, σ4, H4, J4, st4, fr4, w4⟩
    rcases turn i n σ4 H4 w4 with ⟨stop, qn⟩ | ⟨go, Nn, hNn, step⟩
    · have d := T.done X' (by subst hX'; rfl) (by subst hX'; rfl) (by subst hX'; rfl) (by subst hX'; exact hc) i [] s4 σ4 H4 (fun _ _ => False) J4 (stat fr4) st4 stop
      have eA : X'.A = X.A := by subst hX'; rfl
      rw [eA] at d
      refine wpAny_mono d (fun r s5 hr => ?_) fun _ _ z => z
      obtain ⟨hr, J5⟩ := hr
      subst hr
      have I5 : Inv X pins σ H4 s5 := by
        subst hX'
        exact I3.call' J5.os J5.base J5.hok J5.bare fun b hb => ⟨(f3 b hb).2.2.2.1, (f3 b hb).2.1, (f3 b hb).2.2.2.2.1, (f3 b hb).2.2.2.2.2⟩
      obtain ⟨m, hn, _⟩ := J5.loc
      have fr := J5.free
      subst hX'
      exact fin D C m H4 s5 I5 hn (I3.fpOk (b := C) (Nat.le_of_eq hC) fr) qn
    · have d := T.item X' (by subst hX'; rfl) (by subst hX'; rfl) (by subst hX'; rfl) (by subst hX'; exact hc) i [] s4 σ4 H4 (fun _ _ => False) J4 (stat fr4) st4 go
      have eA : X'.A = X.A := by subst hX'; rfl
      rw [eA] at d
      refine wpAny_mono d (fun r s5 hr => ?_) fun _ _ z => z
      obtain ⟨u, hr, h5⟩ := hr
      subst hr
      refine wpAny_mono h5 (fun _ s6 q6 => ?_) fun _ _ z => z
      obtain ⟨x, H6, J6, r6, y6, st6, fr6⟩ := q6
      have J6' := J6.pinned (stat fr6) (T.obj _ _ st6)
      have again : ∀ {H9 : Hp} {s9 : Shared} {σ9 : St}, Inv X' ([] ++ pinsAt fp s6.heap) σ9 H9 s9 → Nn σ9 H9 → ∃ m, m < n ∧ ∃ i σ' H', Inv X' [] σ' H' s9 ∧ tn i s9.heap ∧ (∀ b ∈ fp, H' b = none) ∧ W i m σ' H' := fun {H9 s9 σ9} J9 q9 => by
        obtain ⟨m', hm, w9⟩ := hNn σ9 H9 q9
        refine ⟨m', hm, i + 1, σ9, H9, J9.unpinned, T.keep _ _ _ st6 fun b hb o e => (J9.pin (b, o) (List.mem_append_right _ (List.mem_append_right _ (mem_pinsAt hb e)))).1, fun b hb => ?_, w9⟩
        obtain ⟨o, e, d⟩ := T.obj _ _ st6 b hb
        exact (J9.pin (b, o) (List.mem_append_right _ (List.mem_append_right _ (mem_pinsAt hb e)))).2.1
      subst hX'
      refine wpAny_mono (hg cl C fp s3 H3 _ s6 σ4 H6 x u _ J6' r6 (step x H6 y6)) (fun _ s7 q7 => ?_) fun _ _ z => z
      obtain ⟨σ7, H7, J7, q7⟩ := q7
      refine wpAny_mono (hf cl C fp s3 H3 _ s7 σ7 H7 _ J7 q7) (fun ok s8 q8 => ?_) fun _ _ z => z
      obtain ⟨H8, J8, q8⟩ := q8
      cases ok with
      | false =>
        rw [if_neg (by decide)] at q8
        rw [if_neg (by decide)]
        exact again J8 q8
      | true =>
        rw [if_pos rfl] at q8
        rw [if_pos rfl]
        refine wpAny_mono (he cl C fp s3 H3 _ s8 σ7 H8 _ J8 q8) (fun v9 s9 q9 => ?_) fun _ _ z => z
        obtain ⟨y, H9, J9, r9, xs, hD9, hz, q9⟩ := q9
        refine wpAny_mono (mt_append (X := cxComp X N scope cl C fp s3 H3) _ s9 σ7 H9 (.ref D) [y] (.ref D) [v9] (fun _ H' => Nn σ7 H') J9 rfl (.cons r9 .nil) ⟨D, xs, y, rfl, rfl, hD9, hz, q9⟩) (fun _ s10 q10 => ?_) fun _ _ z => z
        obtain ⟨_, H10, J10, _, q10⟩ := q10
        exact again J10 q10
  exact codeAny_compStart_list (loop _ rfl) (T.self _ 0 _ _ _ st4 (loop _ rfl))
theorem pe_comp (hc : X.calm = true) (ho : compOk X.N X.env.scope N caps scope = true) (hi : PI X tg iter wi)
    (hg : ∀ cl C fp s H, PG (cxComp X N scope cl C fp s H) tg g) (hf : ∀ cl C fp s H, PF (cxComp X N scope cl C fp s H) ifs tf) (he : ∀ cl C fp s H, PE (cxComp X N scope cl C fp s H) elt te)
    (hs : ∀ x, foldedSetIterable iter X.env x = pure x := by intro _; rfl) : PE X (.ListComp elt [⟨tg, iter, ifs, 0⟩] scope pos) (tComp caps wi g tf te) := by
  intro pins s σ H Q I h
  have S := compOk_of ho
  obtain ⟨cl, hcl, c1, c2⟩ := closFor (scope := scope) (env := X.env) (fun y hy e => I.ok.has y.1 (S.fr y hy e))
  rw [eval_ListComp]
  refine wpAny_comprehension_free (use := none) rfl hs hcl S.kind S.loc (comp_core (RR := fun acc C => compPost (model X.prog X.w) X.A X.xe none (EP X pins σ Q) acc C) hc S hi hg hf he c1 c2 I h ?_)
  intro D C m H5 s5 I5 hn fC q
  exact ⟨m, hn, fun h' sb => ⟨.ref D, H5, I5.turned (t' := s5.toks) (fun b o hb e => (sb.2 b hb).trans e) fC.1 fC.2.1 fC.2.2.2.1 fC.2.2.2.2.1 fC.2.2.2.2.2, rfl, q⟩⟩
end
end L2
namespace L2
open PySem PySem.Spec PyProof.Rows
theorem comp_by {J : It} {g : TG} {tf : TT} {te : TE} {D : Addr} {QE : Hp → Prop} {σ : St} {H : Hp} (n : Nat) (Pv : Nat → St → Hp → Prop) (h0 : Pv 0 σ H) (hgo : ∀ i σ H, i < n → Pv i σ H → J.go i H) (hst : ∀ σ H, Pv n σ H → J.stop n H ∧ QE H)
    (hs : ∀ i σ H, i < n → Pv i σ H → ∀ x H', J.yld i H x H' → g x σ H' fun σ2 H2 => tf σ2 H2 fun b H3 => if b = true then te σ2 H3 fun v H4 => ∃ xs, H4 D = some (.lst xs) ∧ xs.length < sizeLine ∧ Pv (i + 1) σ2 (upd H4 D (.lst (xs ++ [v]))) else Pv (i + 1) σ2 H3) :
    ∃ W : Nat → Nat → St → Hp → Prop, (∃ m, W 0 m σ H) ∧ CompW J g tf te D QE W := by
  refine ⟨fun i m σ H => m = n - i ∧ i ≤ n ∧ Pv i σ H, ⟨n, by simp, Nat.zero_le _, h0⟩, ?_⟩
  rintro i m σ H ⟨rfl, hi, p⟩
  by_cases hlt : i < n
  · exact .inr ⟨hgo i σ H hlt p, Pv (i + 1), fun σ' H' p' => ⟨n - (i + 1), by omega, rfl, hlt, p'⟩, hs i σ H hlt p⟩
  · have e : i = n := by omega
    subst e
    exact .inl (hst σ H p)
section
variable {X : Cx} {tg : Expr}
end
def cutS (z : Str) (lo hi : Option Int) : Str := ⟨((z.cps.toList.drop (HT.sIx z.length 0 lo)).take (HT.sIx z.length z.length hi - HT.sIx z.length 0 lo)).toArray⟩
theorem strSlice_pick (lo hi : Option Int) (n : Nat) : Builtin.Str.strSliceIndices lo hi 1 n = (List.range (HT.sIx n n hi - HT.sIx n 0 lo)).map (HT.sIx n 0 lo + ·) := by
  have h : Builtin.Str.strSliceIndices lo hi 1 n = sliceRange ((HT.sIx n 0 lo : Nat) : Int) ((HT.sIx n n hi : Nat) : Int) 1 := by
    unfold Builtin.Str.strSliceIndices
    simp only [show (1 : Int) > 0 by decide, if_true]
    congr 1
    · cases lo with
      | none => rfl
      | some i =>
        rw [← HT.clip_eq i n 0]
        show max 0 (min (if i < 0 then i + (n : Int) else i) (n : Int)) = _
        split <;> omega
    · cases hi with
      | none => rfl
      | some i =>
        rw [← HT.clip_eq i n n]
        show max 0 (min (if i < 0 then i + (n : Int) else i) (n : Int)) = _
        split <;> omega
  rw [h]
  unfold sliceRange
  simp only [show (1 : Int) > 0 by decide, if_true]
  have e2 : (if ((HT.sIx n 0 lo : Nat) : Int) < ((HT.sIx n n hi : Nat) : Int) then (((HT.sIx n n hi : Nat) : Int) - ((HT.sIx n 0 lo : Nat) : Int) + 1 - 1) / 1 else 0).toNat = HT.sIx n n hi - HT.sIx n 0 lo := by
    split
    · rw [Int.ediv_one]; omega
    · omega
  rw [e2]
  apply List.map_congr_left
  intro k _
  omega
theorem pick_signs (xs : Array Nat) (i k : Nat) : (((List.range k).map (i + ·)).filterMap (xs[·]?)) = (xs.toList.drop i).take k := by
  induction k with
  | zero => simp
  | succ k ih =>
    rw [List.range_succ, List.map_append, List.filterMap_append, ih, List.take_succ]
    congr 1
    simp only [List.map_cons, List.map_nil, List.getElem?_drop, Array.getElem?_toList]
    cases h : xs[i + k]? <;> simp [h]
theorem cutS_length (z : Str) (lo hi : Option Int) : (cutS z lo hi).length ≤ z.length := by
  show ((z.cps.toList.drop _).take _).toArray.size ≤ z.length
  rw [List.size_toArray, List.length_take, List.length_drop]
  have : z.cps.toList.length = z.length := by simp [Str.length]
  omega
section
variable {X : Cx}
def rSlS : V → Option Int → Option Int → Hp → VK → Prop := fun x lo hi H Q => ∃ z, x = .str z ∧ z.length ≤ sizeLine ∧ Q (.str (cutS z lo hi)) H
theorem sl_str : SlR X rSlS := by
  intro pins s σ H x v vl vu lo hi sl Q I rx hs pl pu h
  obtain ⟨z, rfl, hzl, q⟩ := h
  obtain ⟨t, rfl⟩ := rx
  refine ⟨"str", _, F.slot_str_getitem.lookup, typeIs_str s z t, ?_⟩
  obtain ⟨l, rfl, el⟩ : ∃ l : Option (Int × Tok), vl = partValue l ∧ l.map (·.1) = lo := by
    cases pl with
    | none => exact ⟨none, rfl, rfl⟩
    | int i t => exact ⟨some (i, t), rfl, rfl⟩
  obtain ⟨u, rfl, eu⟩ : ∃ u : Option (Int × Tok), vu = partValue u ∧ u.map (·.1) = hi := by
    cases pu with
    | none => exact ⟨none, rfl, rfl⟩
    | int i t => exact ⟨some (i, t), rfl, rfl⟩
  refine wpAny_getItem_str_slice (l := l) (u := u) (st := none) hs rfl ?_
  have ep : slicePicked z l u none = (List.range (HT.sIx z.length z.length hi - HT.sIx z.length 0 lo)).map (HT.sIx z.length 0 lo + ·) := by
    unfold slicePicked
    rw [el, eu]
    exact strSlice_pick lo hi z.length
  have ec : (slicePicked z l u none).filterMap (z.cps[·]?) = (z.cps.toList.drop (HT.sIx z.length 0 lo)).take (HT.sIx z.length z.length hi - HT.sIx z.length 0 lo) := by
    rw [ep, pick_signs]
  unfold sliceMade
  split
  · rename_i hw
    have hlen : (slicePicked z l u none).length = z.length := by simpa using hw
    have e : cutS z lo hi = z := by
      have hl : z.cps.toList.length = z.length := by simp [Str.length]
      rw [ep, List.length_map, List.length_range] at hlen
      have h1 := HT.sIx_le z.length z.length (Nat.le_refl _) hi
      have a0 : HT.sIx z.length 0 lo = 0 ∨ z.length = 0 := by omega
      unfold cutS
      rcases a0 with a0 | a0
      · rw [hlen, a0, List.drop_zero, List.take_of_length_le (by omega)]
      · have z0 : z.cps.toList = [] := List.eq_nil_of_length_eq_zero (by omega)
        rw [z0, List.drop_nil, List.take_nil]
        cases z with
        | mk cps =>
          congr 1
          exact (Array.toList_inj.mp z0).symm
    rw [e] at q
    exact ⟨.str z, H, I, ⟨t, rfl⟩, q⟩
  · have e : (⟨((slicePicked z l u none).filterMap (z.cps[·]?)).toArray⟩ : Str) = cutS z lo hi := by
      unfold cutS
      rw [ec]
    rw [e]
    exact ⟨Nat.le_trans (cutS_length z lo hi) hzl, .str (cutS z lo hi), H, I.tok _, ⟨_, rfl⟩, q⟩
end
end L2
namespace L2
open PySem PySem.Spec PyProof.Rows
theorem all_range (bs : List Bool) : (List.range bs.length).all (fun i => (bs[i]?).getD true) = bs.all id := by
  rw [Bool.eq_iff_iff, List.all_eq_true, List.all_eq_true]
  constructor
  · intro h b hb
    obtain ⟨i, hi, e⟩ := List.mem_iff_getElem.mp hb
    have := h i (List.mem_range.mpr hi)
    rw [List.getElem?_eq_getElem hi, e] at this
    exact this
  · intro h i hi
    have hi' := List.mem_range.mp hi
    rw [List.getElem?_eq_getElem hi']
    exact h _ (List.getElem_mem hi')
theorem vals_bl {bs : List Bool} {us : List Value} (r : Vals (bs.map V.bl) us) {i : Nat} {v : Value} (h : us[i]? = some v) : ∃ b, bs[i]? = some b ∧ v = .bool b := by
  have hl := r.length
  obtain ⟨hi, _⟩ := List.getElem?_eq_some_iff.mp h
  rw [← hl, List.length_map] at hi
  have e : (bs.map V.bl)[i]? = some (V.bl bs[i]) := by rw [List.getElem?_map, List.getElem?_eq_getElem hi]; rfl
  obtain ⟨u, hu, ru⟩ := r.get e
  rw [h] at hu
  cases hu
  exact ⟨bs[i], List.getElem?_eq_getElem hi, ru⟩
section
variable {X : Cx}
theorem call_allL (hc : X.calm = true) (K : PySem.W.Frag) (hK : X.K = K := by rfl) : CallR X (.builtin "all") (fun xs H Q => ∃ (p : Addr) (bs : List Bool), xs = [.ref p] ∧ SqL K H p (bs.map V.bl) ∧ Q (.bl (bs.all id)) H) := by
  subst hK
  intro pins s σ H xs us Q I r h
  obtain ⟨p, bs, rfl, hp, q⟩ := h
  obtain ⟨u, rfl, ru⟩ := vals1 r
  cases ru
  obtain ⟨its, rv, pl, hz⟩ := I.list hp
  have hl : its.toArray.size = bs.length := by
    have := rv.length
    rw [List.length_map] at this
    rw [List.size_toArray]
    exact this.symm
  have hh : X.A.in1.handled = none := I.ok.hd hc
  have hne : p ≠ s.heap.objs.size := fun e => by
    obtain ⟨o, n, e1, _⟩ := pl
    exact absurd (Heap.lt_size e1) (by rw [e]; exact Nat.lt_irrefl _)
  refine call_all_walk (wpAny_pyIter_list pl.isList ?_)
  refine ⟨s.heap.objs.size, _, _, _, _, _, fun i => (bs[i]?).getD true, rfl, Walks.list hh _ p hne its.toArray, ⟨⟨_, Heap.get?_push_size _ rfl, rfl, rfl⟩, pl.isList.at fun o e => Heap.get?_push_of_some _ e⟩, ?_, fun h' tk kk => ?_⟩
  · intro i v s' Q' E' hv hq
    have hv' : its[i]? = some v := by simpa using hv
    obtain ⟨b, e, rfl⟩ := vals_bl rv hv'
    have hq' : Q' ((bs[i]?).getD true) s' := hq
    rw [e] at hq'
    exact wpAny_truthy_bool hq'
  · rw [hl, all_range]
    exact ⟨.bl _, H, I.kept fun b o e => kk b o (by simp; exact Nat.ne_of_lt (Heap.lt_size e)) (Heap.get?_push_of_some _ e), rfl, q⟩
def tyTs : List String := ["NoneType", "bool", "int", "str", "list", "tuple", "dict"]
def tyNs : List String := ["bool", "int", "str", "list", "tuple", "dict"]
def tyIs (T n : String) : Bool := T == n || (T == "bool" && n == "int")
theorem kit_tab : ∀ T ∈ tyTs, ∀ n ∈ tyNs, PySem.W.kitMeta n = true ∧ (PySem.fastBuiltinMro T).map (·.contains (Value.type n)) = some (tyIs T n) := by decide +kernel
theorem kit_one {K : PySem.W.Frag} {T n : String} (hT : T ∈ tyTs) (hn : n ∈ tyNs) : PySem.W.kitOne K (.type T) (.type n) = some (tyIs T n) := by
  obtain ⟨h1, h2⟩ := kit_tab T hT n hn
  unfold PySem.W.kitOne
  split
  · rename_i e
    have e' := eq_of_beq e
    injection e' with e''
    subst e''
    simp [tyIs]
  · unfold PySem.W.kitCls
    show (if PySem.W.kitMeta n = true then PySem.W.subIn K (.type T) (.type n) else none) = _
    rw [if_pos h1]
    exact h2
theorem call_isi (K : PySem.W.Frag) (hK : X.K = K := by rfl) : CallR X (.builtin "isinstance") (fun xs H Q => ∃ x n T, xs = [x, .ty n] ∧ TyOf K H x (.type T) ∧ T ∈ tyTs ∧ n ∈ tyNs ∧ Q (.bl (tyIs T n)) H) := by
  subst hK
  intro pins s σ H xs us Q I r h
  obtain ⟨x, n, T, rfl, ty, hT, hn, q⟩ := h
  obtain ⟨u, c, rfl, ru, rc⟩ := vals2 r
  cases rc
  exact isinst_ok I ru ty (kit_one hT hn) fun tk => ⟨.bl _, H, I.tok tk, rfl, q⟩
theorem pe_ty {x : Str} {n : String} {pos : Pos} (hg : Gl X x) (hm : X.mg x = none) (hv : bootBuiltins x = some (.type n)) (hn : x ≠ "__name__" := by decide) (hd : (x == ("__debug__" : Str)) = false := by decide) : PE X (.Name x pos) (tC (.ty n)) :=
  pe_bltn hg hm hv rfl hn hd
end
structure Top (K : PySem.W.Frag) (mg : Str → Option Value) (x : Str) (st : Stmt) (ps : List Str) : Prop where
  ex : ∃ f fd, Fun K x x st f fd ∧ mg x = some (.ref f) ∧ ∀ us : List Value, us.length = ps.length → bindArgs fd ⟨us, []⟩ = pure (ps.zip us)
theorem top_mk {K : PySem.W.Frag} {h : Heap} {mg : Str → Option Value} {x : Str} {st : Stmt} {ps : List Str} {f : Addr} {oc : Value} {od an : Option Addr} {osl : Array (Option Value)} {kV doc pm cdv ct : Value} (X : K.In h) (G : h.Ns mainGlobals mg)
    (b : ∀ (kV doc pm : Value) (an : Option Addr) (cdv ct : Value) (us : List Value), us.length = ps.length → bindArgs (PySem.W.fnOf x x (defArgs st) (defBody st) (defScope st) .none kV doc pm an cdv ct) ⟨us, []⟩ = pure (ps.zip us))
    (a : PySem.W.nsIn K mainGlobals x = some (some (.ref f)))
    (l : K.lookup f = some ⟨oc, od, .func (PySem.W.fnOf x x (defArgs st) (defBody st) (defScope st) .none kV doc pm an cdv ct), osl⟩) (c : PySem.W.codeIn K cdv x = true) (k : PySem.W.keepIn K (.ref f) = true) : Top K mg x st ps := by
  have F := fun_mk (st := st) l c k
  exact ⟨f, _, F, PySem.W.mg_of X G a, b kV doc pm an cdv ct⟩
structure Def (P : Program) (w : World) (K : PySem.W.Frag) (mg : Str → Option Value) (base : Heap) (k : Nat) (x : Str) (ps : List Str) (sp : Sp) : Prop where
  ex : ∃ f fd, FnOk P w K mg base CX0 k f fd ps sp ∧ mg x = some (.ref f) ∧ PySem.W.keepIn K (.ref f) = true ∧ Binds K fd ps []
theorem Top.ok {P : Program} {w : World} {K : PySem.W.Frag} {mg : Str → Option Value} {base : Heap} {x : Str} {st : Stmt} {N ps : List Str} {k : Nat} {sp : Sp} (T : Top K mg x st ps) (S : FnScope N ps (defScope st)) (len : ∀ vs H Q E, sp vs H Q E → vs.length = ps.length)
    (hbody : ∀ (f : Addr) (cdv : Value) (A : Around) (outer : List Env) (s : Shared) (H : Hp) (vs : List V) (Q : VK) (E : XK), Room k (A.deeper (envOfC x (defScope st) s.heap.objs.size f cdv)) → sp vs H Q E →
      ∃ t, PSs (cxOf CX0 P w K mg base N x (defScope st) f cdv A outer s H E).nox (defBody st) t ∧ t { nx := fun _ H' => Q .non H', rt := Q } (start N vs) H) : Def P w K mg base (k + 1) x ps sp := by
  obtain ⟨f, fd, F, hm, hb⟩ := T.ex
  exact ⟨f, fd, F.ok S len (hbody f), hm, F.kp, Binds.all hb⟩
theorem Top.fin {l : PySem.W.OpenLaw} {w : World} {K : PySem.W.Frag} {mg : Str → Option Value} {fa : Addr} {x : Str} {st : Stmt} {N : List Str} {k : Nat} {sp : Sp} (T : Top K mg "law" st [x]) (hfa : mg "law" = some (.ref fa)) (S : FnScope N [x] (defScope st))
    (len : ∀ vs H Q E, sp vs H Q E → vs.length = [x].length)
    (hbody : ∀ (base : Heap) (f : Addr) (cdv : Value) (A : Around) (outer : List Env) (s : Shared) (H : Hp) (vs : List V) (Q : VK) (E : XK), Room k (A.deeper (envOfC "law" (defScope st) s.heap.objs.size f cdv)) → sp vs H Q E →
      ∃ t, PSs (cxOf CX0 l.prog w K mg base N "law" (defScope st) f cdv A outer s H E).nox (defBody st) t ∧ t { nx := fun _ H' => Q .non H', rt := Q } (start N vs) H) :
    ∃ fd : FuncData, (∀ (s : Shared) (v : Value), BindsTo s fd ⟨[v], []⟩ [(x, v)]) ∧ ∀ base : Heap, K.In base → base.Ns mainGlobals mg → FnOk l.prog w K mg base CX0 (k + 1) fa fd [x] sp := by
  obtain ⟨f, fd, F, hm, hb⟩ := T.ex
  have e := hfa.symm.trans hm
  injection e with e
  injection e with e
  subst e
  exact ⟨fd, fun s v => .of_eq (hb [v] rfl), fun base _ _ => F.ok S len (hbody base fa)⟩
theorem Def.mono {P : Program} {w : World} {K : PySem.W.Frag} {mg : Str → Option Value} {base : Heap} {x : Str} {ps : List Str} {j k : Nat} {sp : Sp} (D : Def P w K mg base j x ps sp) (h : j ≤ k) : Def P w K mg base k x ps sp := by
  obtain ⟨f, fd, F, r⟩ := D.ex
  exact ⟨f, fd, F.mono h, r⟩
section
variable {X : Cx} {k k' : Nat} {x : Str} {ps : List Str} {sp : Sp} {p pos : Pos} {e : Expr} {es : List Expr} {t : TA}
theorem pe_def (D : Def X.prog X.w X.K X.mg X.base k x ps sp) (hr : Room k' X.A) (hg : Gl X x) (ha : PA X (e :: es) t) (hkk : k ≤ k' := by decide)
    (hdb : (x == ("__debug__" : Str)) = false := by decide) (he : starEach (e :: es) X.env = (false, eval e X.env) :: starEach es X.env := by rfl) (hpl : (backTo pos (starEach es X.env)).any (·.1) = false := by rfl) :
    PE X (.Call (.Name x p) (e :: es) [] pos) (tCall sp [] E0 t) := by
  obtain ⟨f, fd, F, hm, hk, hb⟩ := D.ex
  exact pe_call F (hr.mono hkk) hg hm hk hb .nil pass0 ha hdb he hpl
end
end L2
namespace L2
open PySem PySem.Spec PyProof.Rows
section
variable {X : Cx} {tg : Expr}
theorem call_lenK (K : PySem.W.Frag) (hK : X.K = K := by rfl) : CallR X (.builtin "len") (fun xs H Q => ∃ x n, xs = [x] ∧ LenV K x H n ∧ Q (.int n) H) := by subst hK; exact call_len
theorem ix_listK (K : PySem.W.Frag) (hK : X.K = K := by rfl) : IxR X (rIxL K) := by subst hK; exact ix_list
theorem ix_tupK (K : PySem.W.Frag) (hK : X.K = K := by rfl) : IxR X (rIxT K) := by subst hK; exact ix_tup
theorem sl_listK (K : PySem.W.Frag) (hK : X.K = K := by rfl) : SlR X (rSlL K) := by subst hK; exact sl_list
theorem pi_listK (K : PySem.W.Frag) {l : Expr} {tl : TE} (hl : PE X l tl) (hK : X.K = K := by rfl) : PI X tg l (iList K tl) := by subst hK; exact pi_list hl
theorem pi_tupK (K : PySem.W.Frag) {l : Expr} {tl : TE} (hl : PE X l tl) (hK : X.K = K := by rfl) : PI X tg l (iTup K tl) := by subst hK; exact pi_tup hl
theorem call_listK (K : PySem.W.Frag) (hK : X.K = K := by rfl) : CallR X (.type "list") (fun xs H Q => ∃ p ys, xs = [.ref p] ∧ (SqL K H p ys ∨ SqT K H p ys) ∧ ∀ l, H l = none → Q (.ref l) (upd H l (.lst ys))) := by subst hK; exact call_list_of
theorem call_tupleK (K : PySem.W.Frag) (hK : X.K = K := by rfl) : CallR X (.type "tuple") (fun xs H Q => ∃ p ys, xs = [.ref p] ∧ ((SqL K H p ys ∧ ∀ l, H l = none → Q (.ref l) (upd H l (.tup ys))) ∨ (SqT K H p ys ∧ Q (.ref p) H))) := by subst hK; exact call_tuple_of
end
theorem atI_in {α : Type} {xs : List α} {i : Int} (h0 : 0 ≤ i) (h1 : i < xs.length) : ∃ v, atI xs i = some v ∧ v ∈ xs := by
  have hlt : i.toNat < xs.length := by omega
  refine ⟨xs[i.toNat], ?_, List.getElem_mem hlt⟩
  unfold atI ixN
  rw [if_pos h0, if_pos h1]
  show xs[i.toNat]? = _
  exact List.getElem?_eq_getElem hlt
theorem atI_lt {α : Type} {xs : List α} {i : Int} (h0 : 0 ≤ i) (h1 : i < xs.length) : atI xs i = xs[i.toNat]? := by
  unfold atI ixN
  rw [if_pos h0, if_pos h1]
  rfl
theorem same_upd {H : Hp} {a : Addr} {o : HO} (h : H a = none) : Same H (upd H a o) := fun b u e => by
  rw [upd_ne (ne_of_none e h)]
  exact e
theorem Same.set {H H' : Hp} {a : Addr} {o : HO} (h : Same H H') (n : H a = none) : Same H (upd H' a o) := fun b u e => by
  rw [upd_ne (ne_of_none e n)]
  exact h b u e
theorem Same.seqT {K : PySem.W.Frag} {H H' : Hp} {a : Addr} {xs : List V} (e : Same H H') (h : SqT K H a xs) : SqT K H' a xs := by
  rcases h with (h | ⟨o, h⟩) | h
  · exact .inl (.inl (e _ _ h))
  · exact .inl (.inr ⟨o, e _ _ h⟩)
  · exact .inr h
theorem TyOf.same {K : PySem.W.Frag} {H H' : Hp} {x : V} {t : Value} (s : Same H H') (h : TyOf K H x t) : TyOf K H' x t := by
  cases h with
  | non => exact .non
  | bl b => exact .bl b
  | int i => exact .int i
  | str x => exact .str x
  | flt x => exact .flt x
  | lst e => exact .lst (s _ _ e)
  | frz e => exact .frz (s _ _ e)
  | tup e => exact .tup (s _ _ e)
  | dK e => exact .dK (s _ _ e)
  | dT e => exact .dT (s _ _ e)
  | ins e cl ha hn ht hm => exact .ins (s _ _ e) cl ha hn ht hm
def notStar : Expr → Bool
  | .Starred _ _ => false
  | _ => true
theorem starEach_cons {e : Expr} {es : List Expr} {env : Env} (h : notStar e = true) : starEach (e :: es) env = (false, eval e env) :: starEach es env := by
  cases e <;> first
    | rfl
    | cases h
theorem pa_con {X : Cx} {e : Expr} {es : List Expr} {te : TE} {t : TA} (ha : PE X e te) (hr : PA X es t) (hs : notStar e = true := by rfl) : PA X (e :: es) (tCons te t) := pa_cons ha hr (starEach_cons hs)
theorem bt_len : bootBuiltins "len" = some (.builtin "len") := by decide +kernel
theorem bt_isinstance : bootBuiltins "isinstance" = some (.builtin "isinstance") := by decide +kernel
theorem bt_all : bootBuiltins "all" = some (.builtin "all") := by decide +kernel
theorem bt_sorted : bootBuiltins "sorted" = some (.builtin "sorted") := by decide +kernel
theorem bt_min : bootBuiltins "min" = some (.builtin "min") := by decide +kernel
theorem bt_max : bootBuiltins "max" = some (.builtin "max") := by decide +kernel
theorem bt_str : bootBuiltins "str" = some (.type "str") := by decide +kernel
theorem bt_int : bootBuiltins "int" = some (.type "int") := by decide +kernel
theorem bt_bool : bootBuiltins "bool" = some (.type "bool") := by decide +kernel
theorem bt_list : bootBuiltins "list" = some (.type "list") := by decide +kernel
theorem bt_tuple : bootBuiltins "tuple" = some (.type "tuple") := by decide +kernel
theorem getD_lt {α : Type} {l : List α} {i : Nat} {d : α} (h : i < l.length) : l.getD i d = l[i] := by
  rw [List.getD_eq_getElem?_getD, List.getElem?_eq_getElem h]
  rfl
theorem getD_ge {α : Type} {l : List α} {i : Nat} {d : α} (h : l.length ≤ i) : l.getD i d = d := by
  rw [List.getD_eq_getElem?_getD, List.getElem?_eq_none_iff.mpr h]
  rfl
theorem pa_1 {X : Cx} {e0 : Expr} {t0 : TE} (h0 : PE X e0 t0) (hs0 : notStar e0 = true := by rfl) : PA X [e0] (tCons t0 tNil) := (pa_con h0 pa_nil hs0)
theorem pa_2 {X : Cx} {e0 e1 : Expr} {t0 t1 : TE} (h0 : PE X e0 t0) (h1 : PE X e1 t1) (hs0 : notStar e0 = true := by rfl) (hs1 : notStar e1 = true := by rfl) : PA X [e0, e1] (tCons t0 (tCons t1 tNil)) := (pa_con h0 (pa_con h1 pa_nil hs1) hs0)
theorem pa_3 {X : Cx} {e0 e1 e2 : Expr} {t0 t1 t2 : TE} (h0 : PE X e0 t0) (h1 : PE X e1 t1) (h2 : PE X e2 t2) (hs0 : notStar e0 = true := by rfl) (hs1 : notStar e1 = true := by rfl) (hs2 : notStar e2 = true := by rfl) : PA X [e0, e1, e2] (tCons t0 (tCons t1 (tCons t2 tNil))) := (pa_con h0 (pa_con h1 (pa_con h2 pa_nil hs2) hs1) hs0)
theorem pa_5 {X : Cx} {e0 e1 e2 e3 e4 : Expr} {t0 t1 t2 t3 t4 : TE} (h0 : PE X e0 t0) (h1 : PE X e1 t1) (h2 : PE X e2 t2) (h3 : PE X e3 t3) (h4 : PE X e4 t4) (hs0 : notStar e0 = true := by rfl) (hs1 : notStar e1 = true := by rfl) (hs2 : notStar e2 = true := by rfl) (hs3 : notStar e3 = true := by rfl) (hs4 : notStar e4 = true := by rfl) : PA X [e0, e1, e2, e3, e4] (tCons t0 (tCons t1 (tCons t2 (tCons t3 (tCons t4 tNil))))) := (pa_con h0 (pa_con h1 (pa_con h2 (pa_con h3 (pa_con h4 pa_nil hs4) hs3) hs2) hs1) hs0)
theorem pss_2 {X : Cx} {s0 s1 : Stmt} {t0 t1 : TS} (h0 : PS X s0 t0) (h1 : PS X s1 t1) : PSs X [s0, s1] (tSeq t0 t1) := (pss_cons h0 (pss_one h1))
theorem pss_3 {X : Cx} {s0 s1 s2 : Stmt} {t0 t1 t2 : TS} (h0 : PS X s0 t0) (h1 : PS X s1 t1) (h2 : PS X s2 t2) : PSs X [s0, s1, s2] (tSeq t0 (tSeq t1 t2)) := (pss_cons h0 (pss_cons h1 (pss_one h2)))
theorem pss_4 {X : Cx} {s0 s1 s2 s3 : Stmt} {t0 t1 t2 t3 : TS} (h0 : PS X s0 t0) (h1 : PS X s1 t1) (h2 : PS X s2 t2) (h3 : PS X s3 t3) : PSs X [s0, s1, s2, s3] (tSeq t0 (tSeq t1 (tSeq t2 t3))) := (pss_cons h0 (pss_cons h1 (pss_cons h2 (pss_one h3))))
theorem pss_5 {X : Cx} {s0 s1 s2 s3 s4 : Stmt} {t0 t1 t2 t3 t4 : TS} (h0 : PS X s0 t0) (h1 : PS X s1 t1) (h2 : PS X s2 t2) (h3 : PS X s3 t3) (h4 : PS X s4 t4) : PSs X [s0, s1, s2, s3, s4] (tSeq t0 (tSeq t1 (tSeq t2 (tSeq t3 t4)))) := (pss_cons h0 (pss_cons h1 (pss_cons h2 (pss_cons h3 (pss_one h4)))))
theorem pss_6 {X : Cx} {s0 s1 s2 s3 s4 s5 : Stmt} {t0 t1 t2 t3 t4 t5 : TS} (h0 : PS X s0 t0) (h1 : PS X s1 t1) (h2 : PS X s2 t2) (h3 : PS X s3 t3) (h4 : PS X s4 t4) (h5 : PS X s5 t5) : PSs X [s0, s1, s2, s3, s4, s5] (tSeq t0 (tSeq t1 (tSeq t2 (tSeq t3 (tSeq t4 t5))))) := (pss_cons h0 (pss_cons h1 (pss_cons h2 (pss_cons h3 (pss_cons h4 (pss_one h5))))))
theorem psr_5 {X : Cx} {s0 s1 s2 s3 s4 : Stmt} {ss : List Stmt} {t0 t1 t2 t3 t4 u : TS} (h0 : PS X s0 t0) (h1 : PS X s1 t1) (h2 : PS X s2 t2) (h3 : PS X s3 t3) (h4 : PS X s4 t4) (hu : PSs X ss u) : PSs X (s0 :: s1 :: s2 :: s3 :: s4 :: ss) (tSeq t0 (tSeq t1 (tSeq t2 (tSeq t3 (tSeq t4 u))))) := (pss_cons h0 (pss_cons h1 (pss_cons h2 (pss_cons h3 (pss_cons h4 hu)))))
theorem join_at {X : Cx} {body : List Stmt} {D : Ends} {σ : St} {H : Hp} (n : Nat) (C : St → Hp → Prop) (rest : ∃ u, PSs X (body.drop n) u ∧ ∀ σ H, C σ H → u D σ H)
    (first : ∀ u, PSs X (body.drop n) u → (∀ σ H, C σ H → u D σ H) → ∃ t, PSs X body t ∧ t D σ H) : ∃ t, PSs X body t ∧ t D σ H :=
  let ⟨u, h1, h2⟩ := rest
  first u h1 h2
end L2
namespace L2
open PySem PySem.Spec PyProof.Rows
mutual
inductive Dat (K : PySem.W.Frag) (H : Hp) : PyData → V → Prop
  | non : Dat K H .none .non
  | bl (b : Bool) : Dat K H (.bool b) (.bl b)
  | int (i : Int) : Dat K H (.int i) (.int i)
  | str (x : Str) (h : PyData.strOk x = true) : Dat K H (.str x) (.str x)
  | lst {a : Addr} {xs : List V} {ds : List PyData} : SqL K H a xs → Dats K H ds xs → Dat K H (.list ds) (.ref a)
  | tup {a : Addr} {xs : List V} {ds : List PyData} : SqT K H a xs → Dats K H ds xs → Dat K H (.tuple ds) (.ref a)
inductive Dats (K : PySem.W.Frag) (H : Hp) : List PyData → List V → Prop
  | nil : Dats K H [] []
  | cons {d : PyData} {x : V} {ds : List PyData} {xs : List V} : Dat K H d x → Dats K H ds xs → Dats K H (d :: ds) (x :: xs)
end
section
variable {K : PySem.W.Frag} {H H' : Hp}
mutual
theorem Dat.same (s : Same H H') : ∀ (d : PyData) (x : V), Dat K H d x → Dat K H' d x
  | _, _, .non => .non
  | _, _, .bl b => .bl b
  | _, _, .int i => .int i
  | _, _, .str x h => .str x h
  | _, _, .lst h r => .lst (s.seq h) (Dats.same s _ _ r)
  | _, _, .tup h r => .tup (s.seqT h) (Dats.same s _ _ r)
theorem Dats.same (s : Same H H') : ∀ (ds : List PyData) (xs : List V), Dats K H ds xs → Dats K H' ds xs
  | _, _, .nil => .nil
  | _, _, .cons a b => .cons (Dat.same s _ _ a) (Dats.same s _ _ b)
end
mutual
theorem Dat.lay : ∀ (d : PyData) (x : V), Dat K H d x → d.canLay0 = true
  | _, _, .non => rfl
  | _, _, .bl _ => rfl
  | _, _, .int _ => rfl
  | _, _, .str _ h => h
  | _, _, .lst _ r => Dats.lay _ _ r
  | _, _, .tup _ r => Dats.lay _ _ r
theorem Dats.lay : ∀ (ds : List PyData) (xs : List V), Dats K H ds xs → PyData.canLayAll0 ds = true
  | _, _, .nil => rfl
  | _, _, .cons a b => by rw [PyData.canLayAll0, Dat.lay _ _ a, Dats.lay _ _ b]; rfl
end
end
section
variable {X : Cx} {pins : List (Addr × Obj)} {σ : St} {H : Hp} {s : Shared}
mutual
theorem Dat.reads (I : Inv X pins σ H s) : ∀ (d : PyData) (x : V) (u : Value), Dat X.K H d x → RelV x u → ∃ as, Reads s.heap u d as
  | _, _, _, .non, r => by cases r; exact ⟨_, .none⟩
  | _, _, _, .bl b, r => by cases r; exact ⟨_, .bool b⟩
  | _, _, _, .int i, r => by obtain ⟨t, rfl⟩ := r; exact ⟨_, .int i t⟩
  | _, _, _, .str x _, r => by obtain ⟨t, rfl⟩ := r; exact ⟨_, .str x t⟩
  | _, _, _, .lst h q, r => by
    cases r
    obtain ⟨its, rv, ⟨o, n, e, c, _, d⟩, _⟩ := I.list h
    obtain ⟨as, ra⟩ := Dats.reads I _ _ _ q rv
    exact ⟨_, .list e c d (by simpa using ra)⟩
  | _, _, _, .tup h q, r => by
    cases r
    obtain ⟨its, rv, ⟨o, e, c, n, d⟩, _⟩ := I.tuple h
    obtain ⟨as, ra⟩ := Dats.reads I _ _ _ q rv
    exact ⟨_, .tuple e c d (by simpa using ra)⟩
theorem Dats.reads (I : Inv X pins σ H s) : ∀ (ds : List PyData) (xs : List V) (us : List Value), Dats X.K H ds xs → Vals xs us → ∃ as, ReadsAll s.heap us ds as
  | _, _, _, .nil, r => by cases r; exact ⟨_, .nil⟩
  | _, _, _, .cons a b, r => by
    cases r with
    | cons r1 r2 =>
      obtain ⟨as, h1⟩ := Dat.reads I _ _ _ a r1
      obtain ⟨bs, h2⟩ := Dats.reads I _ _ _ b r2
      exact ⟨_, .cons h1 h2⟩
end
end
section
variable {X : Cx}
theorem units_of {u d e : Nat} (hu : u + 64 < cLine) (hd : d ≤ 60) : u + min d e < cLine := by
  have : min d e ≤ d := Nat.min_le_left _ _
  omega
end
def LtAt (A : Around) (s : Shared) (u v : Value) (r : Bool) : Prop :=
  ∀ (prog : Program) (w : World) (E : Value → Shared → Prop) (Q : Value → Shared → Prop), Q (.bool r) s → wpAny (model prog w) A (richCompare .Lt u v) Q E s
inductive LexAt (A : Around) (s : Shared) : List Value → List Value → Bool → Prop
  | nn : LexAt A s [] [] false
  | nc {v : Value} {vs : List Value} : LexAt A s [] (v :: vs) true
  | cn {u : Value} {us : List Value} : LexAt A s (u :: us) [] false
  | eq {u v : Value} {us vs : List Value} {r : Bool} : SeqAt.EqAt A s u v true → LexAt A s us vs r → LexAt A s (u :: us) (v :: vs) r
  | lt {u v : Value} {us vs : List Value} {r : Bool} : SeqAt.EqAt A s u v false → LtAt A s u v r → LexAt A s (u :: us) (v :: vs) r
section
open PySem.SeqAt
open PySem.AutoSeq1 (wpAny_loadPart')
open PySem.MeetsSeq PySem.MeetsSeq2 PySem.MeetsSeq3
theorem tuple_lt_any (l b : Addr) (items items2 : Array Value) (n n2 : Nat) (dd dd2 : Option Addr) (sl sl2 : Array (Option Value)) (r : Bool) :
    Meets (Builtin.«tuple.__lt__» ⟨[.ref l, .ref b], []⟩)
      (fun A R s => s.heap.get? l = some { cls := .type "tuple", dict := dd, data := .seq items n, slots := sl } ∧ s.heap.get? b = some { cls := .type "tuple", dict := dd2, data := .seq items2 n2, slots := sl2 } ∧
        LexAt A.in1 s items.toList items2.toList r ∧ R (.ok (.ret (.bool r))) s) :=
  .of_wp fun prog w A R s h => by
    obtain ⟨hp, g, d, tk, os⟩ := s; obtain ⟨hl, hb, hx, h⟩ := h
    have f2 := AutoSeq1.sub_tuple_tuple
    wp_walk using wpAny_loadPart' hl, wpAny_loadPart' hb, wpAny_forIn_list _ (fun rest b s' => b.1 = none ∧ s' = ⟨hp, g, d, tk, os⟩ ∧ ∃ (vs ws : List Value), rest = vs.zip ws ∧
      LexAt A.in1 ⟨hp, g, d, tk, os⟩ vs ws r ∧ vs.length + items2.size = ws.length + items.size) _
    case turn =>
      rintro ⟨y, x⟩ rest b s' ⟨hb', rfl, vs, ws, hz, hvi, hlen⟩
      cases hvi with
      | nn => rw [List.zip_nil_left] at hz; cases hz
      | nc => rw [List.zip_nil_left] at hz; cases hz
      | cn => rw [List.zip_nil_right] at hz; cases hz
      | eq he hr =>
        rw [List.zip_cons_cons] at hz
        injection hz with hyx hrest
        injection hyx with hy hx
        subst hy hx
        simp only [List.length_cons] at hlen
        refine wpAny_bind (he prog w _ _ ?_)
        wp_walk
        exact ⟨rfl, rfl, _, _, hrest, hr, by omega⟩
      | lt he hr =>
        rw [List.zip_cons_cons] at hz
        injection hz with hyx hrest
        injection hyx with hy hx
        subst hy hx
        refine wpAny_bind (he prog w _ _ ?_)
        have hri := hr prog w
        wp_walk using hri
        exact ⟨_, rfl, by simpa using h⟩
    case fin =>
      rintro ⟨b1, b2⟩ s' ⟨hb', rfl, vs, ws, hz, hvi, hlen⟩
      simp only at hb'
      subst hb'
      have hv : r = decide (items.size < items2.size) := by
        cases hvi with
        | nn =>
          simp only [List.length_nil] at hlen
          exact (decide_eq_false (by omega)).symm
        | nc =>
          simp only [List.length_nil, List.length_cons] at hlen
          exact (decide_eq_true (by omega)).symm
        | cn =>
          simp only [List.length_nil, List.length_cons] at hlen
          exact (decide_eq_false (by omega)).symm
        | eq _ _ => rw [List.zip_cons_cons] at hz; cases hz
        | lt _ _ => rw [List.zip_cons_cons] at hz; cases hz
      rw [hv] at h
      wp_walk
      exact ⟨_, rfl, by simpa [Builtin.Tuple.tupleCompareSizes] using h⟩
    case h =>
      exact ⟨rfl, rfl, items.toList, items2.toList, rfl, hx, by simp; omega⟩
end
theorem ltAt_tup {A : Around} {s : Shared} {l b : Addr} {items items2 : Array Value} {r : Bool} (hl : IsTup s.heap l items) (hb : IsTup s.heap b items2) (hx : LexAt A.in1 s items.toList items2.toList r) (hu : A.units < cLine) : LtAt A s (.ref l) (.ref b) r := by
  intro prog w E Q h
  obtain ⟨⟨cls, dd, data, sl⟩, ho, hc, n, hd⟩ := id hl
  obtain ⟨⟨cls2, dd2, data2, sl2⟩, ho2, hc2, n2, hd2⟩ := id hb
  simp only at hc hd hc2 hd2
  subst hc hd hc2 hd2
  exact richCompare_meets_room (op := .Lt) ⟨_, ho, rfl⟩ ⟨_, ho2, rfl⟩ PySem.F.slot_tuple_lt PySem.F.entry_tuple_lt (PySem.F.args_tuple_lt_2 _ _) (tuple_lt_any l b items items2 n n2 dd dd2 sl sl2 r)
    ⟨ho, ho2, hx, show Value.bool r ≠ Value.notImplemented ∧ Q (.bool r) s from ⟨(fun x => nomatch x), h⟩⟩ hu
mutual
def ltD? : PyData → PyData → Option Bool
  | .int a, .int b => some (decide (a < b))
  | .str a, .str b => some (decide (a.cps.toList < b.cps.toList))
  | .tuple as, .tuple bs => lexD? as bs
  | _, _ => none
def lexD? : List PyData → List PyData → Option Bool
  | [], [] => some false
  | [], _ :: _ => some true
  | _ :: _, [] => some false
  | a :: as, b :: bs => if PyData.eqv a b = true then lexD? as bs else ltD? a b
end
mutual
theorem ltAt_reads : ∀ (da db : PyData) (A : Around) (s : Shared) (a b : Value) (as bs : List Addr) (r : Bool), Reads s.heap a da as → Reads s.heap b db bs → da.canLay0 = true → db.canLay0 = true →
    A.units + min da.depth db.depth < cLine → ltD? da db = some r → LtAt A s a b r
  | .int x, db, A, s, _, _, _, _, r, ra, rb, ha, hb, hu, e => by
    cases ra
    cases rb <;> first
      | (cases e; intro prog w E Q h; exact (lt_int h : wpAny (model prog w) A (compareOp .Lt _ _) Q E s))
      | (exact nomatch e)
  | .str x, db, A, s, _, _, _, _, r, ra, rb, ha, hb, hu, e => by
    cases ra
    cases rb <;> first
      | (cases e; intro prog w E Q h; exact (lt_str h : wpAny (model prog w) A (compareOp .Lt _ _) Q E s))
      | (exact nomatch e)
  | .tuple xs, db, A, s, _, _, _, _, r, ra, rb, ha, hb, hu, e => by
    cases ra with
    | tuple h1 h2 h3 h4 =>
      cases rb with
      | tuple k1 k2 k3 k4 =>
        exact ltAt_tup ⟨_, h1, h2, _, h3⟩ ⟨_, k1, k2, _, k3⟩ (lexAt_reads xs _ A.in1 s _ _ _ _ r h4 k4 ha hb (SeqAt.room_in hu) e) (SeqAt.room_here hu)
      | none => exact nomatch e
      | bool => exact nomatch e
      | int => exact nomatch e
      | str => exact nomatch e
      | list => exact nomatch e
      | dict => exact nomatch hb
  | .none, _, _, _, _, _, _, _, _, _, _, _, _, _, e => by simp [ltD?] at e
  | .bool _, _, _, _, _, _, _, _, _, _, _, _, _, _, e => by simp [ltD?] at e
  | .list _, _, _, _, _, _, _, _, _, _, _, _, _, _, e => by simp [ltD?] at e
  | .dict _, _, _, _, _, _, _, _, _, _, _, ha, _, _, _ => nomatch ha
theorem lexAt_reads : ∀ (xs ys : List PyData) (A : Around) (s : Shared) (vs ws : List Value) (as bs : List Addr) (r : Bool), ReadsAll s.heap vs xs as → ReadsAll s.heap ws ys bs → PyData.canLayAll0 xs = true → PyData.canLayAll0 ys = true →
    A.units + min (PyData.depthAll xs) (PyData.depthAll ys) < cLine → lexD? xs ys = some r → LexAt A s vs ws r
  | [], [], _, _, _, _, _, _, r, ra, rb, _, _, _, e => by cases ra; cases rb; cases e; exact .nn
  | [], _ :: _, _, _, _, _, _, _, r, ra, rb, _, _, _, e => by cases ra; cases rb; cases e; exact .nc
  | _ :: _, [], _, _, _, _, _, _, r, ra, rb, _, _, _, e => by cases ra; cases rb; cases e; exact .cn
  | x :: xs, y :: ys, A, s, _, _, _, _, r, ra, rb, ha, hb, hu, e => by
    have ha' : x.canLay0 = true ∧ PyData.canLayAll0 xs = true := by simpa [PyData.canLayAll0] using ha
    have hb' : y.canLay0 = true ∧ PyData.canLayAll0 ys = true := by simpa [PyData.canLayAll0] using hb
    cases ra with
    | cons r1 rs =>
      cases rb with
      | cons r1' rs' =>
        have eq := SeqAt.eqAt_reads x y A s _ _ _ _ r1 r1' ha'.1 hb'.1 (SeqAt.room_head hu)
        rw [lexD?] at e
        cases q : PyData.eqv x y with
        | true =>
          rw [q] at eq
          rw [if_pos q] at e
          exact .eq eq (lexAt_reads xs ys A s _ _ _ _ r rs rs' ha'.2 hb'.2 (SeqAt.room_tail hu) e)
        | false =>
          rw [q] at eq
          rw [if_neg (by rw [q]; exact Bool.false_ne_true)] at e
          exact .lt eq (ltAt_reads x y A s _ _ _ _ r r1 r1' ha'.1 hb'.1 (SeqAt.room_head hu) e)
end
section
variable {X : Cx}
end
end L2
namespace L2
open PySem PySem.Spec PyProof.Rows
section
variable {X : Cx}
def rNeD (K : PySem.W.Frag) : R2 := fun x y H Q => ∃ d e, Dat K H d x ∧ Dat K H e y ∧ d.depth ≤ 60 ∧ Q (.bl (!PyData.eqv d e)) H
theorem op_neD (hu : X.A.units + 64 < cLine) (K : PySem.W.Frag) (hK : X.K = K := by rfl) : OpR X (compareOp .NotEq) (rNeD K) := by
  subst hK
  intro pins s σ H x y v u Q I rx ry h
  obtain ⟨d, e, hd, he, hz, q⟩ := h
  obtain ⟨as, ra⟩ := Dat.reads I _ _ _ hd rx
  obtain ⟨bs, rb⟩ := Dat.reads I _ _ _ he ry
  exact SeqAt.compareNe_reads ra rb (Dat.lay _ _ hd) (Dat.lay _ _ he) (units_of hu hz) (fin_bl I q rfl)
end
end L2
namespace L2
open PySem PySem.Spec PyProof.Rows PySem.W
def RawD (h : Heap) (d : Addr) (es : Array DictEntry) (ep : Nat) : Prop := ∃ o, h.get? d = some o ∧ o.ExactDict ∧ o.data = .dict es ep
theorem RawD.lt {h : Heap} {d : Addr} {es : Array DictEntry} {ep : Nat} (x : RawD h d es ep) : d < h.objs.size := let ⟨_, e, _⟩ := x; Heap.lt_size e
theorem RawD.ty {s : Shared} {d : Addr} {es : Array DictEntry} {ep : Nat} (x : RawD s.heap d es ep) : s.TypeIs (.ref d) "dict" := let ⟨o, e, c, _⟩ := x; ⟨o, e, c.1⟩
theorem RawD.at {h h' : Heap} {d : Addr} {es : Array DictEntry} {ep : Nat} (x : RawD h d es ep) (k : ∀ o, h.get? d = some o → h'.get? d = some o) : RawD h' d es ep := let ⟨o, e, r⟩ := x; ⟨o, k o e, r⟩
section
variable {prog : Program} {w : World} {A : Around} {E : Value → Shared → Prop} {s : Shared} {d it : Addr} {es : Array DictEntry} {ep i : Nat}
theorem collect_sq {T : String} {o : Obj} {items : Array Value} {n : Nat} {l : Addr} {R : List Value → Shared → Prop} (hT : T = "list" ∨ T = "tuple") (ho : s.heap.get? l = some o) (hc : o.cls = .type T) (hd : o.data = .seq items n) (hz : items.size ≤ sizeLine)
    (h : ∀ (h' : Heap) (tk : Nat), (∀ b o, s.heap.get? b = some o → h'.get? b = some o) → s.heap.objs.size ≤ h'.objs.size → R items.toList { s with heap := h', toks := tk }) : wpAny (model prog w) A (collect (.ref l)) R E s := by
  unfold collect
  refine wpAny_bind (wpAny_runValue (codeAny_builtin entry_proto_collect' ?_))
  show wpAny _ _ (do again (.builtin "list.__iadd__" ⟨[← newList [], .ref l], []⟩)) _ _ s
  refine wpAny_bind (wpAny_newList (wpAny_pure ⟨Code.quiet_builtin _ (by decide +kernel), codeAny_builtin entry_list_iadd' ?_⟩))
  show wpAny _ _ (Builtin.List.listExtendWith (.ref s.heap.objs.size) (.ref l) (.ref s.heap.objs.size)) _ _ { s with heap := s.heap.push (seqObj "list" #[] 0) }
  unfold Builtin.List.listExtendWith
  have ho' : (s.heap.push (seqObj "list" #[] 0)).get? l = some o := Heap.get?_push_of_some _ ho
  refine wpAny_bind (wpAny_typeOf (T := T) ⟨o, ho', hc⟩ ?_)
  have ht : ((Value.type T == Value.type "list") || (Value.type T == Value.type "tuple")) = true := by rcases hT with rfl | rfl <;> rfl
  rw [if_pos (by rw [Bool.or_assoc, ht]; simp)]
  refine wpAny_bind (listItems_at ho' hd ?_)
  refine wpAny_bind (listItems_at (xs := #[]) (n := 0) (Heap.get?_push_size _ rfl) rfl ?_)
  rw [if_neg (by simp)]
  refine wpAny_bind (listUpdate_at (xs := #[]) (n := 0) (Heap.get?_push_size _ rfl) rfl ?_ (Nat.zero_le _) (by rw [Array.size_append]; simp; omega))
  refine wpAny_pure ?_
  show wpAny (model prog w) A (load s.heap.objs.size >>= fun o => match o.data with
      | .seq xs _ => pure xs.toList
      | _ => unsupported "internal:collect") R E { s with heap := (s.heap.push (seqObj "list" #[] 0)).update s.heap.objs.size (Obj.mapSeq (· ++ items)) }
  refine wpAny_bind (wpAny_load (get?_update_seq (Heap.get?_push_size _ rfl) _) ?_)
  show wpAny _ _ (pure ((#[] : Array Value) ++ items).toList) R E _
  rw [show ((#[] : Array Value) ++ items).toList = items.toList by simp]
  refine wpAny_pure (h _ s.toks (fun b o e => ?_) (by rw [Heap.size_update, size_push']; omega))
  exact (Heap.get?_update_other _ _ (Nat.ne_of_gt (Heap.lt_size e))).trans (Heap.get?_push_of_some _ e)
theorem sorted_any {x : Value} {vs : List Value} {rk : Value → Int} {Q : Value → Shared → Prop} (hz : vs.length ≤ sizeLine)
    (hc : ∀ (A' : Around) (E' : Value → Shared → Prop) (R : List Value → Shared → Prop), A'.handled = A.handled → (∀ h' tk, (∀ b o, s.heap.get? b = some o → h'.get? b = some o) → s.heap.objs.size ≤ h'.objs.size → R vs { s with heap := h', toks := tk }) → wpAny (model prog w) A' (collect x) R E' s)
    (hk : ∀ (A' : Around) (s' : Shared) (a : Addr), A'.units ≤ A.units + 4 → s.heap.objs.size ≤ a → (∀ b o, s.heap.get? b = some o → s'.heap.get? b = some o) → Tim.Keys prog w A' s' a vs rk)
    (h : ∀ (out : Array Value) (l : Addr) (n : Nat) (h' : Heap) (tk : Nat), Tim.Sorted rk vs out.toList → (∀ b o, s.heap.get? b = some o → h'.get? b = some o) → s.heap.objs.size ≤ l → h'.get? l = some (seqObj "list" out n) → Q (.ref l) { s with heap := h', toks := tk }) :
    wpAny (model prog w) A (call (.builtin "sorted") [x]) Q E s := by
  refine Calls.call_function_entry kind_sorted plain_sorted entry_sorted (args_sorted1 _) ?_
  unfold Builtin.«sorted»
  refine wpAny_bind (m := checkCount "sorted" 1 1 _) (wpAny_pure ?_)
  refine wpAny_bind (hc _ _ _ rfl fun h1 tk keep hsz => ?_)
  refine wpAny_bind (wpAny_newList ?_ hz)
  have hoL : (h1.push (seqObj "list" vs.toArray 0)).get? h1.objs.size = some (seqObj "list" vs.toArray 0) := Heap.get?_push_size _ rfl
  show wpAny _ _ _ _ _ { s with heap := h1.push (seqObj "list" vs.toArray 0), toks := tk }
  have keep2 : ∀ b o, s.heap.get? b = some o → (h1.push (seqObj "list" vs.toArray 0)).get? b = some o := fun b o e => Heap.get?_push_of_some _ (keep b o e)
  refine wpAny_bind (wpAny_holding (wpAny_call_entry slot_list_sort ⟨_, hoL, rfl⟩ entry_list_sort (Tim.list_sort_any hoL hz (hk _ _ _ ?_ hsz keep2) fun out so => ⟨_, rfl, ?_⟩) (args_list_sort _)))
  · show A.units + 2 ≤ A.units + 4
    omega
  · have hne : ∀ b o, s.heap.get? b = some o → b ≠ h1.objs.size := fun b o e => Nat.ne_of_lt (Nat.lt_of_lt_of_le (Heap.lt_size e) hsz)
    have u1 := Heap.SameBut.update (h1.push (seqObj "list" vs.toArray 0)) h1.objs.size (Obj.mapSeq fun _ => (#[] : Array Value))
    obtain ⟨e1, g1⟩ : ∃ e1, ((h1.push (seqObj "list" vs.toArray 0)).update h1.objs.size (Obj.mapSeq fun _ => (#[] : Array Value))).get? h1.objs.size = some (seqObj "list" #[] e1) := ⟨_, get?_update_seq hoL fun _ => #[]⟩
    have g2 := Heap.get?_push_of_some (seqObj "list" #[] 0) (Heap.get?_push_of_some (seqObj "tuple" vs.toArray 0) g1)
    have g3 := get?_update_seq g2 fun _ => out
    have u4 := Heap.SameBut.update (((((h1.push (seqObj "list" vs.toArray 0)).update h1.objs.size (Obj.mapSeq fun _ => (#[] : Array Value))).push (seqObj "tuple" vs.toArray 0)).push (seqObj "list" #[] 0))) h1.objs.size (Obj.mapSeq fun _ => out)
    refine wpAny_pure ⟨_, rfl, h out h1.objs.size _ _ tk so (fun b o e => ?_) hsz g3⟩
    refine (u4.2 b (hne b o e)).trans (Heap.get?_push_of_some _ (Heap.get?_push_of_some _ ((u1.2 b (hne b o e)).trans (keep2 b o e))))
end
end L2
namespace Tim
section
variable {α : Type}
def srt (lt : α → α → Bool) (l : List α) : List α := l.mergeSort fun a b => !lt b a
theorem srt_perm (lt : α → α → Bool) (l : List α) : (srt lt l).Perm l := List.mergeSort_perm _ _
theorem srt_asc {lt : α → α → Bool} (h : STO lt) (l : List α) : (srt lt l).Pairwise fun a b => lt b a = false := by
  have := List.pairwise_mergeSort (le := fun a b => !lt b a) (fun a b c h1 h2 => by
    cases e : lt c a with
    | false => rfl
    | true =>
      rcases h.nt b e with q | q
      · rw [q] at h2
        cases h2
      · rw [q] at h1
        cases h1) (fun a b => by
    cases e : lt b a with
    | false => rfl
    | true =>
      rw [h.asym e]
      rfl) l
  exact List.Pairwise.imp (fun {a b} (z : (!lt b a) = true) => by simpa using z) this
theorem srt_eq {lt : α → α → Bool} (h : STO lt) {l k : List α} (p : k.Perm l) (a : k.Pairwise fun a b => lt b a = false) : k = srt lt l := h.uniq (p.trans (srt_perm lt l).symm) a (srt_asc h l)
end
section
open PySem
theorem sorted_data {α : Type} {lt : α → α → Bool} (h : STO lt) (dec : Value → α) {vs out : List Value} (so : Sorted (fun v => rank lt (vs.map dec) (dec v)) vs out) : out.map dec = srt lt (vs.map dec) := by
  refine srt_eq h (so.perm.map dec) ?_
  rw [List.pairwise_map]
  refine List.Pairwise.imp_of_mem (fun {x y} hx hy hr => ?_) so.asc
  have mx : dec x ∈ vs.map dec := List.mem_map.mpr ⟨x, so.perm.mem_iff.mp hx, rfl⟩
  have my : dec y ∈ vs.map dec := List.mem_map.mpr ⟨y, so.perm.mem_iff.mp hy, rfl⟩
  rw [rank_lt (fun a _ => h.irr a) (fun a _ b _ c _ => h.tr a b c) (fun a _ b _ c _ z => h.nt b z) my mx]
  exact decide_eq_false (by omega)
theorem rank_dec {α : Type} {lt : α → α → Bool} (h : STO lt) (dec : Value → α) {vs : List Value} {x y : Value} (hx : x ∈ vs) (hy : y ∈ vs) : lt (dec x) (dec y) = decide (rank lt (vs.map dec) (dec x) < rank lt (vs.map dec) (dec y)) :=
  rank_lt (fun a _ => h.irr a) (fun a _ b _ c _ => h.tr a b c) (fun a _ b _ c _ z => h.nt b z) (List.mem_map.mpr ⟨x, hx, rfl⟩) (List.mem_map.mpr ⟨y, hy, rfl⟩)
end
end Tim
namespace L2
open PySem PySem.Spec PyProof.Rows PySem.W
def strLt (x y : Str) : Bool := decide (x.cps.toList < y.cps.toList)
theorem sto_str : Tim.STO strLt := by
  have h := (Tim.sto_nat.lex).map (fun z : Str => z.cps.toList) (fun a b e => by
    cases a
    cases b
    congr
    exact Array.toList_inj.mp e)
  have e : strLt = fun a b : Str => Tim.lexB (fun x y : Nat => decide (x < y)) a.cps.toList b.cps.toList := by
    funext a b
    exact Tim.lex_nat _ _
  rw [e]
  exact h
def sOf : Value → Str
  | .str x _ => x
  | _ => ""
theorem vals_str {ws : List Str} : ∀ {us : List Value}, Vals (ws.map V.str) us → us.map sOf = ws ∧ (∀ u ∈ us, ∃ x t, u = .str x t) ∧ StrsAre us ws := by
  induction ws with
  | nil =>
    intro us r
    cases r
    exact ⟨rfl, (fun _ z => nomatch z), .nil⟩
  | cons x ws ih =>
    intro us r
    cases r with
    | cons r1 rr =>
      obtain ⟨t, rfl⟩ := r1
      obtain ⟨a, b, c⟩ := ih rr
      refine ⟨by rw [List.map_cons, a]; rfl, fun u hu => ?_, .cons x t c⟩
      rcases List.mem_cons.mp hu with rfl | hu
      · exact ⟨x, t, rfl⟩
      · exact b u hu
theorem vals_of_strs : ∀ {us : List Value}, (∀ u ∈ us, ∃ x t, u = .str x t) → Vals ((us.map sOf).map V.str) us
  | [], _ => .nil
  | u :: us, h => by
    obtain ⟨x, t, rfl⟩ := h u (List.mem_cons_self ..)
    exact .cons ⟨t, rfl⟩ (vals_of_strs fun v hv => h v (List.mem_cons_of_mem _ hv))
section
variable {prog : Program} {w : World} {A : Around} {s : Shared} {a : Addr}
theorem keys_strs {ws : List Str} {vs : List Value} (r : Vals (ws.map V.str) vs) : Tim.Keys prog w A s a vs (fun v => Tim.rank strLt (vs.map sOf) (sOf v)) := by
  intro h2 s' _
  obtain ⟨e1, e2, e3⟩ := vals_str r
  refine ⟨oneType', fun E Q q => ?_, fun x hx y hy E Q q => ?_⟩
  · match vs, h2, e3 with
    | v1 :: v2 :: vr, _, e3 =>
      rw [keyKind_strs e3]
      exact wpAny_pure q
  · rw [← Tim.rank_dec sto_str sOf hx hy] at q
    obtain ⟨x', t, rfl⟩ := e2 x hx
    obtain ⟨y', u, rfl⟩ := e2 y hy
    rw [keyLt'_oneType]
    exact oneLt_str q
end
section
variable {X : Cx}
theorem Inv.sorted_list {pins : List (Addr × Obj)} {σ : St} {H : Hp} {s : Shared} {xs : List V} {out : Array Value} {l : Addr} {n tk : Nat} {h' : Heap} {Q : VK} (I : Inv X pins σ H s) (rv : Vals xs out.toList) (hz : xs.length ≤ sizeLine)
    (keep : ∀ b o, s.heap.get? b = some o → h'.get? b = some o) (hl : s.heap.objs.size ≤ l) (hg : h'.get? l = some (seqObj "list" out n)) (q : Q (.ref l) (upd H l (.lst xs))) : EP X pins σ Q (.ref l) { s with heap := h', toks := tk } := by
  refine ⟨.ref l, _, I.laid (a := l) (o := .lst xs) (t' := tk) keep hl ⟨hz, out.toList, n, rv, ?_⟩, rfl, q⟩
  rw [Array.toArray_toList]
  exact hg
theorem call_sortedS (K : PySem.W.Frag) (hK : X.K = K := by rfl) : CallR X (.builtin "sorted") (fun xs H Q => ∃ p ws, xs = [.ref p] ∧ (SqL K H p (ws.map V.str) ∨ SqT K H p (ws.map V.str)) ∧ ∀ l, H l = none → Q (.ref l) (upd H l (.lst ((Tim.srt strLt ws).map V.str)))) := by
  subst hK
  intro pins s σ H xs us Q I r h
  obtain ⟨p, ws, rfl, hp, q⟩ := h
  obtain ⟨u, rfl, ru⟩ := vals1 r
  cases ru
  obtain ⟨T, o, its, n, hT, ho, hc, hd, rv, hz⟩ : ∃ (T : String) (o : Obj) (its : List Value) (n : Nat), (T = "list" ∨ T = "tuple") ∧ s.heap.get? p = some o ∧ o.cls = .type T ∧ o.data = .seq its.toArray n ∧ Vals (ws.map V.str) its ∧ (ws.map V.str).length ≤ sizeLine := by
    rcases hp with hp | hp
    · obtain ⟨its, rv, ⟨o, n, e, c, _, d⟩, z⟩ := I.list hp
      exact ⟨"list", o, its, n, .inl rfl, e, c, d, rv, z⟩
    · obtain ⟨its, rv, ⟨o, e, c, n, d⟩, z⟩ := I.tuple hp
      exact ⟨"tuple", o, its, n, .inr rfl, e, c, d, rv, z⟩
  have hl : its.length ≤ sizeLine := by rw [← rv.length]; exact hz
  obtain ⟨e1, e2, _⟩ := vals_str rv
  refine sorted_any (vs := its) (rk := fun v => Tim.rank strLt (its.map sOf) (sOf v)) hl (fun A' E' R _ k => collect_sq hT ho hc hd (by rw [List.size_toArray]; exact hl) (by rw [List.toList_toArray]; exact k)) (fun A' s' a _ _ _ => keys_strs rv) fun out l n h' tk so keep hl' hg => ?_
  have ho2 : ∀ u ∈ out.toList, ∃ x t, u = .str x t := fun u hu => e2 u (so.perm.mem_iff.mp hu)
  have ed := Tim.sorted_data sto_str sOf so
  rw [e1] at ed
  have rv2 := vals_of_strs ho2
  rw [ed] at rv2
  exact I.sorted_list rv2 (by rw [List.length_map, (Tim.srt_perm strLt ws).length_eq]; rw [List.length_map] at hz; exact hz) keep hl' hg (q l (I.hok.fresh hl'))
end
def TupAt (h : Heap) (v : Value) (p : List Str) : Prop := ∃ (b : Addr) (o : Obj) (its : Array Value) (n : Nat), v = .ref b ∧ h.get? b = some o ∧ o.cls = .type "tuple" ∧ o.data = .seq its n ∧ Vals (p.map V.str) its.toList
section
variable {prog : Program} {w : World} {A : Around} {E : Value → Shared → Prop} {s : Shared} {a : Addr}
theorem TupAt.keep {h h' : Heap} {v : Value} {p : List Str} (x : TupAt h v p) (k : ∀ b o, v = .ref b → h.get? b = some o → h'.get? b = some o) : TupAt h' v p :=
  let ⟨b, o, its, n, e, g, r⟩ := x
  ⟨b, o, its, n, e, k b o e g, r⟩
end
section
variable {X : Cx}
end
end L2
namespace L2
open PySem PySem.Spec PyProof.Rows
section
variable {X : Cx}
end
end L2
namespace L2
open PySem PySem.Spec PyProof.Rows
section
variable {X : Cx} {e : Expr} {lo hi : Option Expr} {se : Expr} {te : TE} {tl th ts : TO} {p2 pos : Pos}
end
end L2
namespace L2
open PySem PySem.Spec PyProof.Rows
section
variable {X : Cx}
end
end L2
namespace L2
open PySem PySem.Spec PyProof.Rows
section
variable {X : Cx}
end
def topOf (v : Nat → Int) : Nat → Option Int
  | 0 => none
  | n + 1 => match topOf v n with
    | none => some (v n)
    | some m => some (if v n > m then v n else m)
theorem max_nm : (toString "max" ++ toString ".loop" : String) = "max.loop" := by decide
theorem max_default_ok (a v : Value) : argsOk "max" ⟨[a], [(Str.ofString "default", v)]⟩ := by unfold argsOk; kernel_rfl
section
variable {prog : Program} {w : World} {A : Around} {R : Result → Shared → Prop} {I : Addr} {fp wr : List Addr} {n : Nat} {P : Nat → Value → Prop} {St : Nat → Heap → Prop}
def Best (v : Nat → Int) (j : Nat) (xs : Array Value) : Prop := (topOf v j = none ∧ xs = #[]) ∨ ∃ m t, topOf v j = some m ∧ xs = #[.int m t, .int m t]
theorem topOf_none {v : Nat → Int} : ∀ {j : Nat}, topOf v j = none → j = 0
  | 0, _ => rfl
  | j + 1, h => by
    rw [topOf] at h
    split at h <;> cases h
theorem max_dloop (W : Walks prog w A.in1 I fp wr n P St) (v : Nat → Int) (hv : ∀ i x, P i x → ∃ t, x = .int (v i) t) (S : Addr) (hSf : S ∉ fp) (d : Int) (td : Tok) : ∀ (k j : Nat) (s : Shared) (xs : Array Value) (c : Nat), j + k = n → St j s.heap → Best v j xs →
    s.heap.get? S = some { cls := .type "list", data := .seq xs c } →
    (∀ t h' tk, (∀ b o, b ∉ wr → b ≠ S → s.heap.get? b = some o → h'.get? b = some o) → R (.ok (.ret (.int ((topOf v n).getD d) t))) { s with heap := h', toks := tk }) →
    codeAny (model prog w) A (.builtin "max.loop" ⟨[.ref I, .none, .ref S], [(Str.ofString "default", .int d td)]⟩) R s
  | 0, j, s, xs, c, hk, hst, hb, hS, hR => by
    have hSw : S ∉ wr := fun h => hSf (W.sub _ h)
    have hj : j = n := by omega
    subst hj
    refine codeAny_builtin PySem.F.entry_max_loop ?_
    rw [Around.under_plainId PySem.F.plain_max_loop _]
    refine wpAny_bind (m := seqItems? (.ref S)) (wpAny_seqItems hS rfl ?_)
    refine wpAny_bind (m := tryCatch (pyNext (.ref I)) _) (wpAny_tryCatch (W.done s _ _ hst fun h' tk hk' => ?_))
    have hS' := hk' S _ hSw hS
    rcases hb with ⟨e, rfl⟩ | ⟨m, t, e, rfl⟩
    · have := hR td h' tk fun b o hbw _ eb => hk' b o hbw eb
      rw [e] at this
      exact wpAny_bind (wpAny_rule (wpAny_pure this))
    · refine wpAny_bind (m := updateSeq S fun _ => #[]) ?_
      refine wpAny_updateSeq hS' rfl (wpAny_bind (wpAny_letGo (wpAny_pure ?_)))
      have em : (topOf v j).getD d = m := by rw [e]; rfl
      rw [em] at hR
      exact hR t _ tk fun b o hbw hbS eb => (Heap.get?_update_other _ _ (Ne.symm hbS)).trans (hk' b o hbw eb)
  | k + 1, j, s, xs, c, hk, hst, hb, hS, hR => by
    have hSw : S ∉ wr := fun h => hSf (W.sub _ h)
    have hlt : j < n := by omega
    refine codeAny_builtin PySem.F.entry_max_loop ?_
    rw [Around.under_plainId PySem.F.plain_max_loop _]
    refine wpAny_bind (m := seqItems? (.ref S)) (wpAny_seqItems hS rfl ?_)
    refine wpAny_bind (m := tryCatch (pyNext (.ref I)) _) (wpAny_tryCatch (W.item j s _ _ hlt hst fun x h' tk hP hst' hk' => ?_))
    have hS' := hk' S _ hSw hS
    obtain ⟨tx, rfl⟩ := hv j x hP
    have stay : ∀ (f : Obj → Obj), St (j + 1) (h'.update S f) := fun f => W.frame _ _ _ hst' fun b hbf o e => (Heap.get?_update_other _ _ (fun h : S = b => hSf (by rw [h]; exact hbf))).trans e
    rcases hb with ⟨e, rfl⟩ | ⟨m, t, e, rfl⟩
    · refine wpAny_bind (m := updateSeq S fun _ => #[.int (v j) tx, .int (v j) tx]) ?_
      refine wpAny_updateSeq hS' rfl ?_
      rw [max_nm]
      refine wpAny_pure ⟨plainId_quiet PySem.F.plain_max_loop _, max_dloop W v hv S hSf d td k (j + 1) _ _ _ (by omega) (stay _) (.inr ⟨v j, tx, ?_, rfl⟩) (Heap.get?_update_self _ hS' rfl) fun t' h2 tk2 hk2 => ?_⟩
      · rw [topOf, e]
      · exact hR t' h2 tk2 fun b o hbw hbS eb => hk2 b o hbw hbS ((Heap.get?_update_other _ _ (Ne.symm hbS)).trans (hk' b o hbw eb))
    · refine wpAny_bind (m := tryCatch (holding [.int (v j) tx, .int (v j) tx] (richCompare .Gt (.int (v j) tx) (.int m t) >>= _)) _) (wpAny_tryCatch (wpAny_holding (wpAny_bind (richCompare_gives (op := .Gt) (typeIs_int _ _ tx) (typeIs_int _ _ t) PySem.F.slot_int_gt PySem.F.entry_int_gt (PySem.F.args_int_gt_2 _ _) (gives_int_gt _ _ tx t) (fun x => nomatch x) ?_))))
      refine wpAny_bind (wpAny_holding (wpAny_truthy_bool ?_))
      refine wpAny_bind (wpAny_letGo (wpAny_pure ?_))
      by_cases hb : v j > m
      · rw [decide_eq_true hb, if_pos rfl]
        refine wpAny_bind ?_
        refine wpAny_updateSeq hS' rfl (wpAny_bind (wpAny_letGo ?_))
        rw [max_nm]
        refine wpAny_pure ⟨plainId_quiet PySem.F.plain_max_loop _, max_dloop W v hv S hSf d td k (j + 1) _ _ _ (by omega) (stay _) (.inr ⟨v j, tx, ?_, rfl⟩) (Heap.get?_update_self _ hS' rfl) fun t' h2 tk2 hk2 => ?_⟩
        · rw [topOf, e]
          show some (if v j > m then v j else m) = _
          rw [if_pos hb]
        · exact hR t' h2 tk2 fun b o hbw hbS eb => hk2 b o hbw hbS ((Heap.get?_update_other _ _ (Ne.symm hbS)).trans (hk' b o hbw eb))
      · rw [decide_eq_false hb, if_neg (by decide)]
        refine wpAny_bind (wpAny_letGo ?_)
        rw [max_nm]
        refine wpAny_pure ⟨plainId_quiet PySem.F.plain_max_loop _, max_dloop W v hv S hSf d td k (j + 1) _ _ _ (by omega) hst' (.inr ⟨m, t, ?_, rfl⟩) hS' fun t' h2 tk2 hk2 => ?_⟩
        · rw [topOf, e]
          show some (if v j > m then v j else m) = _
          rw [if_neg hb]
        · exact hR t' h2 tk2 fun b o hbw hbS eb => hk2 b o hbw hbS (hk' b o hbw eb)
end
section
variable {X : Cx} {e d : Expr} {t tk : TA} {p pos kpos : Pos}
theorem pe_maxD (K : PySem.W.Frag) (hc : X.calm = true) (hg : Gl X "max") (hm : X.mg "max" = none) (hv : bootBuiltins "max" = some (.builtin "max")) (ha : PA X [e] t) (hkw : PK X [⟨some "default", d, kpos⟩] tk) (hK : X.K = K := by rfl)
    (hpl : (backTo pos (starEach [e] X.env)).any (·.1) = false := by rfl) (he : backTo pos (starEach [e] X.env) = (false, eval e X.env) :: backTo pos (starEach [] X.env) := by rfl) :
    PE X (.Call (.Name "max" p) [e] [⟨some "default", d, kpos⟩] pos) (fun σ H Q => t σ H fun vs H1 => tk σ H1 fun ws H2 => ∃ (l : Addr) (ns : List Int) (n : Int), vs = [.ref l] ∧ ws = [.int n] ∧ SqL K H2 l (ns.map V.int) ∧ Q (.int ((topOf (fun i => ns.getD i 0) ns.length).getD n)) H2) := by
  subst hK
  intro pins s σ H Q I h
  refine wpAny_Call_Name_kw (ld_blt I hg hm hv ?_)
  refine callWith_kw (thn (ha pos pins s σ H _ I h) fun us s1 ⟨vs, H1, I1, r1, q1⟩ => thn (hkw pos pins s1 σ H1 _ I1 q1) fun ws s2 ⟨zs, H2, I2, rz, q2⟩ => ?_) he hpl
  obtain ⟨l, ns, n, rfl, rfl, hl, q⟩ := q2
  obtain ⟨u, rfl, ru⟩ := vals1 r1
  cases ru
  obtain ⟨u, rfl, ⟨tn, rfl⟩⟩ := vals1 rz
  obtain ⟨its, rv, pl, hz⟩ := I2.list hl
  have hsz : its.toArray.size = ns.length := by
    have := rv.length
    rw [List.length_map] at this
    rw [List.size_toArray]
    exact this.symm
  have hh : X.A.in1.handled = none := I2.ok.hd hc
  have hlt : l < s2.heap.objs.size := by
    obtain ⟨o, k, e1, _⟩ := pl
    exact Heap.lt_size e1
  show wpAny _ _ (call (.builtin "max") [.ref l] [(Str.ofString "default", .int n tn)]) _ _ s2
  refine kmk_tree PySem.F.kind_max PySem.F.plain_max PySem.F.entry_max (max_default_ok _ _) ?_
  refine wpAny_bind (m := Builtin.Builtins.bindParams "max" ["key", "default"] 0 ⟨[], [(Str.ofString "default", .int n tn)]⟩) (wpAny_of_eq (show _ = pure [none, some (Value.int n tn)] from rfl) ?_)
  refine wpAny_bind (wpAny_pure ?_)
  refine wpAny_bind (wpAny_pyIter_list pl.isList ?_)
  refine wpAny_bind (wpAny_newList ?_ (Nat.zero_le _))
  rw [max_nm]
  have keep : ∀ b o, s2.heap.get? b = some o → ((s2.heap.push { cls := .type "list_iterator", data := .fields #[.ref l, .int 0 0] }).push { cls := .type "list", data := .seq #[] }).get? b = some o := fun b o e => Heap.get?_push_of_some _ (Heap.get?_push_of_some _ e)
  have hs1 : (s2.heap.push { cls := .type "list_iterator", data := .fields #[.ref l, .int 0 0] }).objs.size = s2.heap.objs.size + 1 := Array.size_push _
  refine wpAny_pure ⟨plainId_quiet PySem.F.plain_max_loop _, max_dloop (n := ns.length) (A := X.A) (hsz ▸ Walks.list hh s2.heap.objs.size l (Nat.ne_of_lt hlt) its.toArray) (fun i => ns.getD i 0) ?_ (s2.heap.push { cls := .type "list_iterator", data := .fields #[.ref l, .int 0 0] }).objs.size ?_ n tn ns.length 0 _ #[] 0 (Nat.zero_add _) ⟨⟨_, Heap.get?_push_of_some _ (Heap.get?_push_size _ rfl), rfl, rfl⟩, pl.isList.at (keep l)⟩ (.inl ⟨rfl, rfl⟩) (Heap.get?_push_size _ rfl) fun t' h' tk' hk => ?_⟩
  · intro i v hv
    have hv' : its[i]? = some v := by simpa using hv
    have hi : i < ns.length := by
      rw [← hsz, List.size_toArray]
      exact (List.getElem?_eq_some_iff.mp hv').1
    have e : (ns.map V.int)[i]? = some (V.int ns[i]) := by rw [List.getElem?_map, List.getElem?_eq_getElem hi]; rfl
    obtain ⟨u, hu, ru⟩ := rv.get e
    rw [hv'] at hu
    cases hu
    obtain ⟨t, rfl⟩ := ru
    exact ⟨t, by show _ = Value.int (ns.getD i 0) t; rw [getD_lt hi]⟩
  · rw [hs1]
    intro hb
    simp only [List.mem_cons, List.not_mem_nil, or_false] at hb
    rcases hb with h | h
    · exact absurd h (Nat.succ_ne_self _)
    · exact absurd hlt (by rw [← h]; exact Nat.not_lt_of_le (Nat.le_succ _))
  · refine ⟨.int _, H2, I2.kept fun b o e => hk b o ?_ ?_ (keep b o e), ⟨_, rfl⟩, q⟩
    · simp
      exact Nat.ne_of_lt (Heap.lt_size e)
    · rw [hs1]
      exact Nat.ne_of_lt (Nat.lt_succ_of_lt (Heap.lt_size e))
end
end L2
namespace L2
open PySem PySem.Spec PyProof.Rows
section
variable {prog : Program} {w : World} {A : Around} {E : Value → Shared → Prop} {s : Shared}
end
section
variable {prog : Program} {w : World} {A : Around} {R : Result → Shared → Prop} {I : Addr} {fp wr : List Addr} {n : Nat} {P : Nat → Value → Prop} {St : Nat → Heap → Prop}
end
section
variable {X : Cx}
end
end L2
namespace L2
open PySem PySem.Spec PyProof.Rows
section
variable {X : Cx} {tg : Expr}
end
section
variable {X : Cx} {e : Expr} {lo hi : Option Expr} {se : Expr} {te : TE} {tl th ts : TO} {p2 pos : Pos}
end
end L2
namespace L2
open PySem PySem.Spec PyProof.Rows
section
variable {prog : Program} {w : World} {A : Around} {E : Value → Shared → Prop} {s : Shared}
end
section
variable {X : Cx}
end
end L2
namespace L2
open PySem PySem.Spec PyProof.Rows
structure MTop (K : PySem.W.Frag) (C : Addr) (m qual : Str) (st : Stmt) (ps : List Str) : Prop where
  ex : ∃ f fd, Fun K m qual st f fd ∧ Meth K C m f ∧ ∀ us : List Value, us.length = ps.length → bindArgs fd ⟨us, []⟩ = pure (ps.zip us)
structure MDef (P : Program) (w : World) (K : PySem.W.Frag) (mg : Str → Option Value) (base : Heap) (k : Nat) (C : Addr) (m : Str) (ps : List Str) (sp : Sp) : Prop where
  ex : ∃ f fd, FnOk P w K mg base CX0 k f fd ps sp ∧ Meth K C m f ∧ Binds K fd ps []
theorem MTop.ok {P : Program} {w : World} {K : PySem.W.Frag} {mg : Str → Option Value} {base : Heap} {C : Addr} {m qual : Str} {st : Stmt} {N ps : List Str} {k : Nat} {sp : Sp} (T : MTop K C m qual st ps) (S : FnScope N ps (defScope st)) (len : ∀ vs H Q E, sp vs H Q E → vs.length = ps.length)
    (hbody : ∀ (f : Addr) (cdv : Value) (A : Around) (outer : List Env) (s : Shared) (H : Hp) (vs : List V) (Q : VK) (E : XK), Room k (A.deeper (envOfC qual (defScope st) s.heap.objs.size f cdv)) → sp vs H Q E →
      ∃ t, PSs (cxOf CX0 P w K mg base N qual (defScope st) f cdv A outer s H E).nox (defBody st) t ∧ t { nx := fun _ H' => Q .non H', rt := Q } (start N vs) H) : MDef P w K mg base (k + 1) C m ps sp := by
  obtain ⟨f, fd, F, hm, hb⟩ := T.ex
  exact ⟨f, fd, F.ok S len (hbody f), hm, Binds.all hb⟩
section
variable {X : Cx} {k k' : Nat} {C : Addr} {ps ks : List Str} {sp : Sp} {x m : Str} {p pos apos : Pos} {e o : Expr} {es : List Expr} {ta : TE} {t tk : TA} {kws : List Keyword}
structure FunD (K : PySem.W.Frag) (x qual : Str) (st : Stmt) (f : Addr) (fd : FuncData) : Prop where
  ex : ∃ (oc : Value) (od : Option Addr) (dV kV doc pm : Value) (an : Option Addr) (cdv ct : Value) (osl : Array (Option Value)),
    fd = PySem.W.fnOf x qual (defArgs st) (defBody st) (defScope st) dV kV doc pm an cdv ct ∧ K.lookup f = some ⟨oc, od, .func fd, osl⟩ ∧ PySem.W.codeIn K cdv qual = true
theorem FunD.ok {P : Program} {w : World} {K : PySem.W.Frag} {mg : Str → Option Value} {base : Heap} {x qual : Str} {st : Stmt} {f : Addr} {fd : FuncData} {N ps : List Str} {k : Nat} {sp : Sp} (F : FunD K x qual st f fd) (S : FnScope N ps (defScope st)) (len : ∀ vs H Q E, sp vs H Q E → vs.length = ps.length)
    (hbody : ∀ (cdv : Value) (A : Around) (outer : List Env) (s : Shared) (H : Hp) (vs : List V) (Q : VK) (E : XK), Room k (A.deeper (envOfC qual (defScope st) s.heap.objs.size f cdv)) → sp vs H Q E →
      ∃ t, PSs (cxOf CX0 P w K mg base N qual (defScope st) f cdv A outer s H E).nox (defBody st) t ∧ t { nx := fun _ H' => Q .non H', rt := Q } (start N vs) H) : FnOk P w K mg base CX0 (k + 1) f fd ps sp := by
  obtain ⟨oc, od, dV, kV, doc, pm, an, cdv, ct, osl, rfl, lk, hcd⟩ := F.ex
  refine fn_of lk hcd S len fun A outer s H vs Q E hr hsp => ?_
  obtain ⟨t, h, q⟩ := hbody cdv A outer s H vs Q E hr hsp
  exact ⟨t, h.nox, q⟩
structure InitB (K : PySem.W.Frag) (fd : FuncData) (y : Str) (dv : V) : Prop where
  b0 : ∃ u, RelV dv u ∧ Binds K fd ["self", y] [u]
  b1 : Binds K fd ["self", y] []
  bk : ∀ (s : Shared) (v z : Value), K.In s.heap → BindsTo s fd ⟨[v], [(y, z)]⟩ [("self", v), (y, z)]
structure ITop (K : PySem.W.Frag) (C : Addr) (qual y : Str) (st : Stmt) (dv : V) : Prop where
  ex : ∃ f fd, FunD K "__init__" qual st f fd ∧ PySem.W.findIn K (.ref C) "__init__" = some (some (.ref f)) ∧ PySem.W.isFn K (.ref f) = true ∧ InitB K fd y dv
structure IDef (P : Program) (w : World) (K : PySem.W.Frag) (mg : Str → Option Value) (base : Heap) (k : Nat) (C : Addr) (y : Str) (dv : V) (sp : Sp) : Prop where
  ex : ∃ f fd, FnOk P w K mg base CX0 k f fd ["self", y] sp ∧ PySem.W.findIn K (.ref C) "__init__" = some (some (.ref f)) ∧ PySem.W.isFn K (.ref f) = true ∧ InitB K fd y dv
theorem ITop.ok {P : Program} {w : World} {K : PySem.W.Frag} {mg : Str → Option Value} {base : Heap} {C : Addr} {qual y : Str} {st : Stmt} {dv : V} {N : List Str} {k : Nat} {sp : Sp} (T : ITop K C qual y st dv) (S : FnScope N ["self", y] (defScope st)) (len : ∀ vs H Q E, sp vs H Q E → vs.length = (["self", y] : List Str).length)
    (hbody : ∀ (f : Addr) (cdv : Value) (A : Around) (outer : List Env) (s : Shared) (H : Hp) (vs : List V) (Q : VK) (E : XK), Room k (A.deeper (envOfC qual (defScope st) s.heap.objs.size f cdv)) → sp vs H Q E →
      ∃ t, PSs (cxOf CX0 P w K mg base N qual (defScope st) f cdv A outer s H E).nox (defBody st) t ∧ t { nx := fun _ H' => Q .non H', rt := Q } (start N vs) H) : IDef P w K mg base (k + 1) C y dv sp := by
  obtain ⟨f, fd, F, h1, h2, h3⟩ := T.ex
  exact ⟨f, fd, F.ok S len (hbody f), h1, h2, h3⟩
variable {y : Str} {dv : V}
end
end L2
namespace L2
open PySem PySem.Spec PyProof.Rows PySem.W
section
variable {prog : Program} {w : World} {A : Around} {s : Shared} {a : Addr}
end
section
variable {X : Cx}
end
end L2
namespace L2
open PySem PySem.Spec PyProof.Rows
section
variable {X : Cx} {pins : List (Addr × Obj)} {σ : St} {H : Hp} {s : Shared} {a : Addr} {kvs : List (Key × V)} {k : Key} {z : V} {u r : Value} {A : Around} {E : Value → Shared → Prop}
end
section
variable {X : Cx} {o e f : Expr} {apos cpos : Pos} {td ty tx : TE}
end
end L2
namespace L2
open PySem PySem.Spec PyProof.Rows PySem.W
def byTxt (w : World) : Bool := w.params.followText "set-order"
def TxS (P : Program) (w : World) (h : Heap) (a : Addr) (xs : List Str) : Prop :=
  ∃ o es ep t, h.get? a = some o ∧ o.ExactSet ∧ o.data = .set es ep t ∧ ElemsOf (strKind P w) es.toList ∧ es.toList.map (fun e => sOf e.2) = xs ∧ xs.Nodup ∧ es.size < scanBound ∧ t.fits es.size = true ∧ t.led = !byTxt w ∧ (0 < es.size → t.plain = false)
section
variable {P : Program} {w : World} {A : Around} {E : Value → Shared → Prop} {s : Shared} {a : Addr} {xs : List Str}
end
theorem TxS.keep {P : Program} {w : World} {h h' : Heap} {a : Addr} {xs : List Str} (x : TxS P w h a xs) (k : ∀ o, h.get? a = some o → h'.get? a = some o) : TxS P w h' a xs := by
  obtain ⟨o, es, ep, t, ho, r⟩ := x
  exact ⟨o, es, ep, t, k o ho, r⟩
section
variable {prog : Program} {w : World} {A : Around} {R : Result → Shared → Prop} {I : Addr} {fp wr : List Addr} {G : Array GenState → Array GenState → Prop} {n : Nat} {P : Nat → Value → Prop} {St : Nat → Shared → Prop}
def InS (val : Nat → Str) (i : Nat) (ys : List Str) : Prop := (∀ x, x ∈ ys ↔ ∃ j, j < i ∧ val j = x) ∧ ys.length ≤ i
theorem InS.next {val : Nat → Str} {i : Nat} {ys zs : List Str} (h : InS val i ys) (e : if val i ∈ ys then zs = ys else zs.Perm (ys ++ [val i])) : InS val (i + 1) zs := by
  have step : ∀ x, (∃ j, j < i + 1 ∧ val j = x) ↔ (∃ j, j < i ∧ val j = x) ∨ x = val i := fun x => by
    constructor
    · rintro ⟨j, hj, rfl⟩
      rcases Nat.lt_or_ge j i with h1 | h1
      · exact .inl ⟨j, h1, rfl⟩
      · exact .inr (by rw [show j = i by omega])
    · rintro (⟨j, hj, rfl⟩ | rfl)
      · exact ⟨j, by omega, rfl⟩
      · exact ⟨i, Nat.lt_succ_self _, rfl⟩
  by_cases c : val i ∈ ys
  · rw [if_pos c] at e
    subst e
    refine ⟨fun x => ?_, Nat.le_succ_of_le h.2⟩
    rw [step, ← h.1 x]
    exact ⟨.inl, fun z => z.elim id fun q => q ▸ c⟩
  · rw [if_neg c] at e
    refine ⟨fun x => ?_, ?_⟩
    · rw [step, e.mem_iff, List.mem_append, List.mem_singleton, h.1 x]
    · rw [e.length_eq, List.length_append]
      exact Nat.succ_le_succ h.2
end
section
variable {prog : Program} {w : World} {A : Around} {E : Value → Shared → Prop} {s : Shared}
end
section
variable {prog : Program} {w : World} {A : Around} {E : Value → Shared → Prop} {s : Shared}
end
end L2
namespace L2
open PySem PySem.Spec PyProof.Rows PySem.W
section
variable {M : Model} {A : Around} {E : Value → Shared → Prop}
end
section
variable {prog : Program} {w : World} {A : Around} {E : Value → Shared → Prop} {s : Shared} {a : Addr}
end
end L2
namespace L2
open PySem PySem.Spec PyProof.Rows PySem.W
section
variable {prog : Program} {w : World} {A : Around} {E : Value → Shared → Prop} {s : Shared} {a I : Addr} {es : Array (Int × Value)} {ep : Nat} {t : SetTable}
end
end L2
namespace L2
open PySem PySem.Spec PyProof.Rows PySem.W
section
variable {prog : Program} {w : World} {A : Around} {E : Value → Shared → Prop} {s : Shared} {a I T : Addr} {es : Array (Int × Value)} {ep i : Nat} {t : SetTable} {o : Obj}
end
end L2
namespace L2
open PySem PySem.Spec PyProof.Rows PySem.W
section
variable {prog : Program} {w : World} {A : Around} {E : Value → Shared → Prop} {s : Shared} {a I T : Addr} {es : Array (Int × Value)} {ep : Nat} {t : SetTable} {o : Obj}
end
end L2
namespace L2
open PySem PySem.Spec PyProof.Rows PySem.W
section
variable {prog : Program} {w : World} {A : Around} {E : Value → Shared → Prop} {s : Shared} {a : Addr} {xs : List Str}
end
end L2
namespace L2
open PySem PySem.Spec PyProof.Rows PySem.W
section
variable {prog : Program} {w : World} {A : Around} {E : Value → Shared → Prop} {s : Shared} {a : Addr} {xs : List Str}
end
end L2
namespace L2
open PySem PySem.Spec PyProof.Rows PySem.W
def uniq (ws : List Str) : List Str := Tim.srt strLt ws.eraseDups
section
variable {X : Cx} {pins : List (Addr × Obj)} {σ : St} {H : Hp} {s : Shared}
end
end L2
namespace L2
open PySem PySem.Spec PyProof.Rows PySem.W
section
variable {X : Cx}
end
end L2
namespace L2
open PySem PySem.Spec PyProof.Rows PySem.W
section
variable {X : Cx}
end
end L2
namespace L2
open PySem PySem.Spec PyProof.Rows PySem.W
section
variable {X : Cx}
end
end L2
namespace L2
open PySem PySem.Spec PyProof.Rows PySem.W
section
variable {X : Cx} {tg : Expr}
end
end L2
namespace L2
open PySem PySem.Spec PyProof.Rows
section
variable {X : Cx}
end
end L2
namespace L2
open PySem PySem.Spec PyProof.Rows
section
variable {prog : Program} {w : World} {A : Around} {E : Value → Shared → Prop} {s : Shared}
end
section
variable {X : Cx}
end
end L2
namespace L2
open PySem PySem.Spec PyProof.Rows
section
variable {X : Cx}
end
end L2
namespace L2
open PySem PySem.Spec PyProof.Rows
section
variable {prog : Program} {w : World} {A : Around} {E : Value → Shared → Prop} {s : Shared}
structure ZAp (z TI TO i1 i2 : Addr) (f1 f2 : List Addr) : Prop where
  TIz : TI ≠ z
  TOz : TO ≠ z
  i1z : i1 ≠ z
  i2z : i2 ≠ z
  TITO : TI ≠ TO
  TIi1 : TI ≠ i1
  TIi2 : TI ≠ i2
  TOi1 : TO ≠ i1
  TOi2 : TO ≠ i2
  i12 : i1 ≠ i2
  z1 : z ∉ f1
  TO1 : TO ∉ f1
  i21 : i2 ∉ f1
  z2 : z ∉ f2
  TO2 : TO ∉ f2
  i1f : i1 ∉ f2
end
end L2
namespace L2
open PySem PySem.Spec PyProof.Rows
section
variable {X : Cx} {pins : List (Addr × Obj)} {σ : St} {H : Hp} {s : Shared} {h' : Heap}
theorem FpOk.ch {fp : List Addr} (hf : ∀ b ∈ fp, FpOk X pins H b) : ∀ b ∈ fp, (b ∈ X.ex ∨ X.s₀.heap.objs.size ≤ b) ∧ b ≠ X.env.locals ∧ (∀ x c, X.env.cells.lookup x = some c → c ≠ b) ∧ ∀ p ∈ X.pn ++ pins, p.1 ≠ b := fun b hb =>
  let ⟨_, f1, _, f3, f4, f5⟩ := hf b hb; ⟨f3, f1, f4, f5⟩
end
theorem ZAp.ne {z TI TO i1 i2 a b : Addr} (D : ZAp z TI TO i1 i2 [i1, a] [i2, b]) : a ≠ z ∧ a ≠ TO ∧ a ≠ i2 ∧ b ≠ z ∧ b ≠ TO ∧ b ≠ i1 :=
  ⟨fun e => D.z1 (by simp [e]), fun e => D.TO1 (by simp [e]), fun e => D.i21 (by simp [e]), fun e => D.z2 (by simp [e]), fun e => D.TO2 (by simp [e]), fun e => D.i1f (by simp [e])⟩
section
variable {prog : Program} {w : World} {A : Around} {E : Value → Shared → Prop} {s : Shared}
end
section
variable {X : Cx} {elts : List Expr} {pt : Pos}
end
end L2
namespace L2
open PySem PySem.Spec PyProof.Rows
section
variable {X : Cx}
end
end L2
namespace L2
open PySem PySem.Spec PyProof.Rows
theorem MDef.imp {P : Program} {w : World} {K : PySem.W.Frag} {mg : Str → Option Value} {base : Heap} {k : Nat} {C : Addr} {m : Str} {ps : List Str} {sp sp' : Sp} (D : MDef P w K mg base k C m ps sp) (h : ∀ vs H Q E, sp' vs H Q E → sp vs H Q E) : MDef P w K mg base k C m ps sp' := by
  obtain ⟨f, fd, F, hm, hb⟩ := D.ex
  exact ⟨f, fd, F.imp h, hm, hb⟩
theorem MDef.mono {P : Program} {w : World} {K : PySem.W.Frag} {mg : Str → Option Value} {base : Heap} {j k : Nat} {C : Addr} {m : Str} {ps : List Str} {sp : Sp} (D : MDef P w K mg base j C m ps sp) (h : j ≤ k) : MDef P w K mg base k C m ps sp := by
  obtain ⟨f, fd, F, hm, hb⟩ := D.ex
  exact ⟨f, fd, F.mono h, hm, hb⟩
section
variable {X : Cx} {k k' : Nat} {ι : Type} {cls : ι → Addr} {ps : List Str} {sp : ι → Sp} {x m : Str} {p pos apos : Pos} {e o : Expr} {es : List Expr} {ta : TE} {t : TA}
structure IsiC (K : PySem.W.Frag) (C R : Addr) : Prop where
  ha : PySem.W.findIn K (.ref C) "__class__" = some (some (.builtin "object.__class__"))
  hn : PySem.W.specialIn K (.builtin "object.__class__") "__get__" = some (some (.builtin "getset_descriptor.__get__"))
  htk : PySem.W.takesIn K (.builtin "object.__class__") = some true
  hm : PySem.W.mroIn K C (.type "object") = some true
  e : PySem.W.kitOne K (.ref C) (.ref R) = some true
end
end L2
namespace L2
open PySem PySem.Spec PyProof.Rows
section
open PySem.AutoSeq1
theorem extend_tuple_any (l : Addr) (items : Array Value) (n : Nat) (b : Addr) (items2 : Array Value) (n2 : Nat) (d2 : Option Addr) (sl2 : Array (Option Value)) (hs0 : ¬(!items.isEmpty && Builtin.List.listTooLong (items.size + items2.size)) = true) (hs1 : items.size ≤ sizeLine) (hs2 : items.size + items2.size ≤ sizeLine + 1) :
    Meets (Builtin.«list.extend» ⟨[.ref l, .ref b], []⟩) (fun _ R s => s.heap.get? l = some { cls := .type "list", dict := none, data := .seq items n, slots := #[] } ∧ s.heap.get? b = some { cls := .type "tuple", dict := d2, data := .seq items2 n2, slots := sl2 } ∧ R (.ok (.ret Value.none)) { s with heap := s.heap.update l (Obj.mapSeq fun x => x ++ items2), toks := s.toks }) :=
  .of_wp fun prog w A R s h => by
    obtain ⟨hp, g, d, tk, os⟩ := s; obtain ⟨hl, hb, h⟩ := h; have f1 := idx_int; have f2 := AutoSeq1.sub_tuple_tuple; have f3 := AutoSeq1.sub_list_list; have f4 := AutoSeq1.sub_tuple_list; have f5 := AutoSeq1.sub_list_tuple;
    have hz' : (items ++ items2).size ≤ sizeLine + 1 := by rw [Array.size_append]; exact hs2
    wp_walk using (wpAny_updateSeq hl rfl (hz := hs1) (_hz' := hz')), wpAny_loadPart' hl, wpAny_loadPart' hb; exact ⟨_, rfl, h⟩
end
section
variable {X : Cx}
def rExtendT (K : PySem.W.Frag) : V → List V → Hp → VK → Prop := fun x vs H Q => ∃ l b xs zs, x = .ref l ∧ vs = [.ref b] ∧ H l = some (.lst xs) ∧ SqT K H b zs ∧ xs.length + zs.length ≤ sizeLine ∧ Q .non (upd H l (.lst (xs ++ zs)))
theorem mt_extendT (K : PySem.W.Frag) (hK : X.K = K := by rfl) : MtM X "list.extend" (rExtendT K) := by
  subst hK
  intro pins s σ H x vs v us Q I rx rv h
  obtain ⟨l, b, xs, zs, rfl, rfl, hH, hB, hz, q⟩ := h
  cases rx
  obtain ⟨u, rfl, ru⟩ := rv.one
  cases ru
  obtain ⟨z, its, n, r, hl, e⟩ := I.lstM hH
  obtain ⟨its2, r2, ⟨o2, e2, c2, n2, d2⟩, _⟩ := I.tuple hB
  have hl2 := r2.length
  have hsz : its.toArray.size + its2.toArray.size ≤ sizeLine := by rw [List.size_toArray, List.size_toArray]; omega
  have hlong : ¬ (!its.toArray.isEmpty && Builtin.List.listTooLong (its.toArray.size + its2.toArray.size)) = true := by
    rw [notLongL hsz, Bool.and_false]
    exact Bool.false_ne_true
  have e3 : s.heap.get? b = some { cls := .type "tuple", dict := o2.dict, data := .seq its2.toArray n2, slots := o2.slots } := by
    rw [e2]
    cases o2
    cases c2
    cases d2
    rfl
  refine call_meets F.slot_list_extend ⟨_, e, rfl⟩ F.entry_list_extend (F.args_list_extend_2 _ _)
    (extend_tuple_any l its.toArray n b its2.toArray n2 o2.dict o2.slots hlong (by rw [List.size_toArray]; omega) (by omega)) ⟨e, e3, ?_⟩
  refine ⟨.non, _, I.lset (its' := its ++ its2) hH e (by simp) (r.append r2) ?_, rfl, q⟩
  rw [List.length_append]
  omega
def repS (x : Str) (n : Int) : Str := if n < 1 then Str.empty else if (n == 1 || x.length == 0) = true then x else { cps := List.foldl (fun a b => a ++ b) #[] (List.replicate n.toNat x.cps) }
theorem fold_size (a : Array Nat) : ∀ (k : Nat) (acc : Array Nat), (List.foldl (fun a b => a ++ b) acc (List.replicate k a)).size = acc.size + k * a.size
  | 0, acc => by simp
  | k + 1, acc => by
    rw [List.replicate_succ, List.foldl_cons, fold_size a k, Array.size_append, Nat.succ_mul]
    omega
theorem op_mulS : OpR X (binaryOp .Mult) (fun x y H Q => ∃ i n, x = .str i ∧ y = .int n ∧ 0 ≤ n ∧ n ≤ 1000 ∧ i.length ≤ 1000 ∧ Q (.str (repS i n)) H) := by
  intro pins s σ H x y v u Q I rx ry h
  obtain ⟨i, n, rfl, rfl, h0, h1, hl, q⟩ := h
  obtain ⟨t, rfl⟩ := rx
  obtain ⟨t', rfl⟩ := ry
  have hb : i.length * n.toNat ≤ 1000 * 1000 := Nat.mul_le_mul hl (by omega)
  refine P.mul_str (by simp; omega) (fun _ _ => ?_) (fun _ _ => ?_) ?_
  · have : (1000 : Int) ≤ (2 ^ 63 - 1) / n := by
      refine Int.le_ediv_of_mul_le (by omega) ?_
      omega
    omega
  · unfold Builtin.Str.tooLong
    exact decide_eq_false (by have : 1000 * 1000 ≤ sizeLine := by decide
                              omega)
  · unfold repS at q
    split
    · rename_i h
      rw [if_pos h] at q
      exact ⟨Nat.zero_le _, .str _, H, I.tok _, ⟨_, rfl⟩, q⟩
    · rename_i h
      rw [if_neg h] at q
      split
      · rename_i h2
        rw [if_pos h2] at q
        exact ⟨.str _, H, I, ⟨_, rfl⟩, q⟩
      · rename_i h2
        rw [if_neg h2] at q
        refine ⟨?_, .str _, H, I.tok _, ⟨_, rfl⟩, q⟩
        show (List.foldl (fun a b => a ++ b) #[] (List.replicate n.toNat i.cps)).size ≤ sizeLine
        rw [fold_size]
        have e : i.length = i.cps.size := rfl
        have : 1000 * 1000 ≤ sizeLine := by decide
        rw [e, Nat.mul_comm] at hb
        simp only [List.size_toArray, List.length_nil]
        omega
end
end L2
set_option maxHeartbeats 4000000
namespace Wy
open PySem L2
def top (i : Nat) : Stmt := PySem.Challenge.pw_whyrows_k60_leaves_and_height.main.body.getD i (.Pass ⟨0, 0, 0, 0⟩)
abbrev s_is_name : Stmt := top 1
abbrev s_leaves : Stmt := top 2
abbrev s_height : Stmt := top 3
abbrev s__law_cell_at : Stmt := top 5
abbrev s__law_stream : Stmt := top 6
abbrev s__law_words : Stmt := top 7
abbrev s__law_values : Stmt := top 8
abbrev s__law_whole : Stmt := top 9
abbrev s__law_leaves : Stmt := top 10
abbrev s__law_height : Stmt := top 11
abbrev s__law_grown : Stmt := top 12
abbrev s_law : Stmt := top 13
theorem sc_is_name : FnScope ["tree"] ["tree"] (defScope s_is_name) := ⟨rfl, rfl, rfl, by decide +kernel, rfl, by decide +kernel, by decide +kernel⟩
theorem sc_leaves : FnScope ["tree", "found", "waiting", "part"] ["tree"] (defScope s_leaves) := ⟨rfl, rfl, rfl, by decide +kernel, rfl, by decide +kernel, by decide +kernel⟩
theorem sc_height : FnScope ["tree"] ["tree"] (defScope s_height) := ⟨rfl, rfl, rfl, by decide +kernel, rfl, by decide +kernel, by decide +kernel⟩
theorem sc__law_cell_at : FnScope ["_law_script", "_law_k"] ["_law_script", "_law_k"] (defScope s__law_cell_at) := ⟨rfl, rfl, rfl, by decide +kernel, rfl, by decide +kernel, by decide +kernel⟩
theorem sc__law_stream : FnScope ["_law_cell", "_law_place", "_law_number", "_law_some", "_law_k"] ["_law_cell", "_law_place"] (defScope s__law_stream) := ⟨rfl, rfl, rfl, by decide +kernel, rfl, by decide +kernel, by decide +kernel⟩
theorem sc__law_words : FnScope ["_law_cell", "_law_many", "_law_signs", "_law_size", "_law_at", "_law_words_here", "_law_k", "_law_word", "_law_j", "_law_place"] ["_law_cell", "_law_many"] (defScope s__law_words) := ⟨rfl, rfl, rfl, by decide +kernel, rfl, by decide +kernel, by decide +kernel⟩
theorem sc__law_values : FnScope ["_law_cell", "_law_number", "_law_words_here"] ["_law_cell"] (defScope s__law_values) := ⟨rfl, rfl, rfl, by decide +kernel, rfl, by decide +kernel, by decide +kernel⟩
theorem sc__law_whole : FnScope ["_law_found"] ["_law_found"] (defScope s__law_whole) := ⟨rfl, rfl, rfl, by decide +kernel, rfl, by decide +kernel, by decide +kernel⟩
theorem sc__law_leaves : FnScope ["_law_tree", "_law_found", "_law_kid"] ["_law_tree"] (defScope s__law_leaves) := ⟨rfl, rfl, rfl, by decide +kernel, rfl, by decide +kernel, by decide +kernel⟩
theorem sc__law_height : FnScope ["_law_tree", "_law_most", "_law_kid"] ["_law_tree"] (defScope s__law_height) := ⟨rfl, rfl, rfl, by decide +kernel, rfl, by decide +kernel, by decide +kernel⟩
theorem sc__law_grown : FnScope ["_law_forest", "_law_cell", "_law_names", "_law_values_here", "_law_twice", "_law_s", "_law_many", "_law_row", "_law_kids", "_law_tree"] ["_law_forest", "_law_cell", "_law_names", "_law_values_here", "_law_twice"] (defScope s__law_grown) := ⟨rfl, rfl, rfl, by decide +kernel, rfl, by decide +kernel, by decide +kernel⟩
theorem sc_law : FnScope ["_law_script", "_law_words_here", "_law_values_here", "_law_forest", "_law_cell", "_law_tree", "_law_found", "_law_high"] ["_law_script"] (defScope s_law) := ⟨rfl, rfl, rfl, by decide +kernel, rfl, by decide +kernel, by decide +kernel⟩
structure Txt (K : PySem.W.Frag) (mg : Str → Option Value) : Prop where
  b_all : mg "all" = none
  b_bool : mg "bool" = none
  b_int : mg "int" = none
  b_isinstance : mg "isinstance" = none
  b_len : mg "len" = none
  b_list : mg "list" = none
  b_max : mg "max" = none
  b_min : mg "min" = none
  b_range : mg "range" = none
  b_sorted : mg "sorted" = none
  b_str : mg "str" = none
  b_tuple : mg "tuple" = none
  t_is_name : Top K mg "is_name" s_is_name ["tree"]
  t_leaves : Top K mg "leaves" s_leaves ["tree"]
  t_height : Top K mg "height" s_height ["tree"]
  t__law_cell_at : Top K mg "_law_cell_at" s__law_cell_at ["_law_script", "_law_k"]
  t__law_stream : Top K mg "_law_stream" s__law_stream ["_law_cell", "_law_place"]
  t__law_words : Top K mg "_law_words" s__law_words ["_law_cell", "_law_many"]
  t__law_values : Top K mg "_law_values" s__law_values ["_law_cell"]
  t__law_whole : Top K mg "_law_whole" s__law_whole ["_law_found"]
  t__law_leaves : Top K mg "_law_leaves" s__law_leaves ["_law_tree"]
  t__law_height : Top K mg "_law_height" s__law_height ["_law_tree"]
  t__law_grown : Top K mg "_law_grown" s__law_grown ["_law_forest", "_law_cell", "_law_names", "_law_values_here", "_law_twice"]
  t_law : Top K mg "law" s_law ["_law_script"]
theorem txt_mk {K : PySem.W.Frag} {h : Heap} {mg : Str → Option Value} (X : K.In h) (G : h.Ns mainGlobals mg) {f_is_name : Addr} {oc_is_name kV_is_name dc_is_name pm_is_name cd_is_name ct_is_name : Value} {od_is_name an_is_name : Option Addr} {sl_is_name : Array (Option Value)} {f_leaves : Addr} {oc_leaves kV_leaves dc_leaves pm_leaves cd_leaves ct_leaves : Value} {od_leaves an_leaves : Option Addr} {sl_leaves : Array (Option Value)} {f_height : Addr} {oc_height kV_height dc_height pm_height cd_height ct_height : Value} {od_height an_height : Option Addr} {sl_height : Array (Option Value)} {f__law_cell_at : Addr} {oc__law_cell_at kV__law_cell_at dc__law_cell_at pm__law_cell_at cd__law_cell_at ct__law_cell_at : Value} {od__law_cell_at an__law_cell_at : Option Addr} {sl__law_cell_at : Array (Option Value)} {f__law_stream : Addr} {oc__law_stream kV__law_stream dc__law_stream pm__law_stream cd__law_stream ct__law_stream : Value} {od__law_stream an__law_stream : Option Addr} {sl__law_stream : Array (Option Value)} {f__law_words : Addr} {oc__law_words kV__law_words dc__law_words pm__law_words cd__law_words ct__law_words : Value} {od__law_words an__law_words : Option Addr} {sl__law_words : Array (Option Value)} {f__law_values : Addr} {oc__law_values kV__law_values dc__law_values pm__law_values cd__law_values ct__law_values : Value} {od__law_values an__law_values : Option Addr} {sl__law_values : Array (Option Value)} {f__law_whole : Addr} {oc__law_whole kV__law_whole dc__law_whole pm__law_whole cd__law_whole ct__law_whole : Value} {od__law_whole an__law_whole : Option Addr} {sl__law_whole : Array (Option Value)} {f__law_leaves : Addr} {oc__law_leaves kV__law_leaves dc__law_leaves pm__law_leaves cd__law_leaves ct__law_leaves : Value} {od__law_leaves an__law_leaves : Option Addr} {sl__law_leaves : Array (Option Value)} {f__law_height : Addr} {oc__law_height kV__law_height dc__law_height pm__law_height cd__law_height ct__law_height : Value} {od__law_height an__law_height : Option Addr} {sl__law_height : Array (Option Value)} {f__law_grown : Addr} {oc__law_grown kV__law_grown dc__law_grown pm__law_grown cd__law_grown ct__law_grown : Value} {od__law_grown an__law_grown : Option Addr} {sl__law_grown : Array (Option Value)} {f_law : Addr} {oc_law kV_law dc_law pm_law cd_law ct_law : Value} {od_law an_law : Option Addr} {sl_law : Array (Option Value)}
    (z_all : PySem.W.nsIn K mainGlobals "all" = some none)
    (z_bool : PySem.W.nsIn K mainGlobals "bool" = some none)
    (z_int : PySem.W.nsIn K mainGlobals "int" = some none)
    (z_isinstance : PySem.W.nsIn K mainGlobals "isinstance" = some none)
    (z_len : PySem.W.nsIn K mainGlobals "len" = some none)
    (z_list : PySem.W.nsIn K mainGlobals "list" = some none)
    (z_max : PySem.W.nsIn K mainGlobals "max" = some none)
    (z_min : PySem.W.nsIn K mainGlobals "min" = some none)
    (z_range : PySem.W.nsIn K mainGlobals "range" = some none)
    (z_sorted : PySem.W.nsIn K mainGlobals "sorted" = some none)
    (z_str : PySem.W.nsIn K mainGlobals "str" = some none)
    (z_tuple : PySem.W.nsIn K mainGlobals "tuple" = some none)
    (a_is_name : PySem.W.nsIn K mainGlobals "is_name" = some (some (.ref f_is_name)))
    (l_is_name : K.lookup f_is_name = some ⟨oc_is_name, od_is_name, .func (PySem.W.fnOf "is_name" "is_name" (defArgs s_is_name) (defBody s_is_name) (defScope s_is_name) .none kV_is_name dc_is_name pm_is_name an_is_name cd_is_name ct_is_name), sl_is_name⟩)
    (c_is_name : PySem.W.codeIn K cd_is_name "is_name" = true)
    (k_is_name : PySem.W.keepIn K (.ref f_is_name) = true)
    (a_leaves : PySem.W.nsIn K mainGlobals "leaves" = some (some (.ref f_leaves)))
    (l_leaves : K.lookup f_leaves = some ⟨oc_leaves, od_leaves, .func (PySem.W.fnOf "leaves" "leaves" (defArgs s_leaves) (defBody s_leaves) (defScope s_leaves) .none kV_leaves dc_leaves pm_leaves an_leaves cd_leaves ct_leaves), sl_leaves⟩)
    (c_leaves : PySem.W.codeIn K cd_leaves "leaves" = true)
    (k_leaves : PySem.W.keepIn K (.ref f_leaves) = true)
    (a_height : PySem.W.nsIn K mainGlobals "height" = some (some (.ref f_height)))
    (l_height : K.lookup f_height = some ⟨oc_height, od_height, .func (PySem.W.fnOf "height" "height" (defArgs s_height) (defBody s_height) (defScope s_height) .none kV_height dc_height pm_height an_height cd_height ct_height), sl_height⟩)
    (c_height : PySem.W.codeIn K cd_height "height" = true)
    (k_height : PySem.W.keepIn K (.ref f_height) = true)
    (a__law_cell_at : PySem.W.nsIn K mainGlobals "_law_cell_at" = some (some (.ref f__law_cell_at)))
    (l__law_cell_at : K.lookup f__law_cell_at = some ⟨oc__law_cell_at, od__law_cell_at, .func (PySem.W.fnOf "_law_cell_at" "_law_cell_at" (defArgs s__law_cell_at) (defBody s__law_cell_at) (defScope s__law_cell_at) .none kV__law_cell_at dc__law_cell_at pm__law_cell_at an__law_cell_at cd__law_cell_at ct__law_cell_at), sl__law_cell_at⟩)
    (c__law_cell_at : PySem.W.codeIn K cd__law_cell_at "_law_cell_at" = true)
    (k__law_cell_at : PySem.W.keepIn K (.ref f__law_cell_at) = true)
    (a__law_stream : PySem.W.nsIn K mainGlobals "_law_stream" = some (some (.ref f__law_stream)))
    (l__law_stream : K.lookup f__law_stream = some ⟨oc__law_stream, od__law_stream, .func (PySem.W.fnOf "_law_stream" "_law_stream" (defArgs s__law_stream) (defBody s__law_stream) (defScope s__law_stream) .none kV__law_stream dc__law_stream pm__law_stream an__law_stream cd__law_stream ct__law_stream), sl__law_stream⟩)
    (c__law_stream : PySem.W.codeIn K cd__law_stream "_law_stream" = true)
    (k__law_stream : PySem.W.keepIn K (.ref f__law_stream) = true)
    (a__law_words : PySem.W.nsIn K mainGlobals "_law_words" = some (some (.ref f__law_words)))
    (l__law_words : K.lookup f__law_words = some ⟨oc__law_words, od__law_words, .func (PySem.W.fnOf "_law_words" "_law_words" (defArgs s__law_words) (defBody s__law_words) (defScope s__law_words) .none kV__law_words dc__law_words pm__law_words an__law_words cd__law_words ct__law_words), sl__law_words⟩)
    (c__law_words : PySem.W.codeIn K cd__law_words "_law_words" = true)
    (k__law_words : PySem.W.keepIn K (.ref f__law_words) = true)
    (a__law_values : PySem.W.nsIn K mainGlobals "_law_values" = some (some (.ref f__law_values)))
    (l__law_values : K.lookup f__law_values = some ⟨oc__law_values, od__law_values, .func (PySem.W.fnOf "_law_values" "_law_values" (defArgs s__law_values) (defBody s__law_values) (defScope s__law_values) .none kV__law_values dc__law_values pm__law_values an__law_values cd__law_values ct__law_values), sl__law_values⟩)
    (c__law_values : PySem.W.codeIn K cd__law_values "_law_values" = true)
    (k__law_values : PySem.W.keepIn K (.ref f__law_values) = true)
    (a__law_whole : PySem.W.nsIn K mainGlobals "_law_whole" = some (some (.ref f__law_whole)))
    (l__law_whole : K.lookup f__law_whole = some ⟨oc__law_whole, od__law_whole, .func (PySem.W.fnOf "_law_whole" "_law_whole" (defArgs s__law_whole) (defBody s__law_whole) (defScope s__law_whole) .none kV__law_whole dc__law_whole pm__law_whole an__law_whole cd__law_whole ct__law_whole), sl__law_whole⟩)
    (c__law_whole : PySem.W.codeIn K cd__law_whole "_law_whole" = true)
    (k__law_whole : PySem.W.keepIn K (.ref f__law_whole) = true)
    (a__law_leaves : PySem.W.nsIn K mainGlobals "_law_leaves" = some (some (.ref f__law_leaves)))
    (l__law_leaves : K.lookup f__law_leaves = some ⟨oc__law_leaves, od__law_leaves, .func (PySem.W.fnOf "_law_leaves" "_law_leaves" (defArgs s__law_leaves) (defBody s__law_leaves) (defScope s__law_leaves) .none kV__law_leaves dc__law_leaves pm__law_leaves an__law_leaves cd__law_leaves ct__law_leaves), sl__law_leaves⟩)
    (c__law_leaves : PySem.W.codeIn K cd__law_leaves "_law_leaves" = true)
    (k__law_leaves : PySem.W.keepIn K (.ref f__law_leaves) = true)
    (a__law_height : PySem.W.nsIn K mainGlobals "_law_height" = some (some (.ref f__law_height)))
    (l__law_height : K.lookup f__law_height = some ⟨oc__law_height, od__law_height, .func (PySem.W.fnOf "_law_height" "_law_height" (defArgs s__law_height) (defBody s__law_height) (defScope s__law_height) .none kV__law_height dc__law_height pm__law_height an__law_height cd__law_height ct__law_height), sl__law_height⟩)
    (c__law_height : PySem.W.codeIn K cd__law_height "_law_height" = true)
    (k__law_height : PySem.W.keepIn K (.ref f__law_height) = true)
    (a__law_grown : PySem.W.nsIn K mainGlobals "_law_grown" = some (some (.ref f__law_grown)))
    (l__law_grown : K.lookup f__law_grown = some ⟨oc__law_grown, od__law_grown, .func (PySem.W.fnOf "_law_grown" "_law_grown" (defArgs s__law_grown) (defBody s__law_grown) (defScope s__law_grown) .none kV__law_grown dc__law_grown pm__law_grown an__law_grown cd__law_grown ct__law_grown), sl__law_grown⟩)
    (c__law_grown : PySem.W.codeIn K cd__law_grown "_law_grown" = true)
    (k__law_grown : PySem.W.keepIn K (.ref f__law_grown) = true)
    (a_law : PySem.W.nsIn K mainGlobals "law" = some (some (.ref f_law)))
    (l_law : K.lookup f_law = some ⟨oc_law, od_law, .func (PySem.W.fnOf "law" "law" (defArgs s_law) (defBody s_law) (defScope s_law) .none kV_law dc_law pm_law an_law cd_law ct_law), sl_law⟩)
    (c_law : PySem.W.codeIn K cd_law "law" = true)
    (k_law : PySem.W.keepIn K (.ref f_law) = true) : Txt K mg :=
  ⟨PySem.W.mg_none_of X G z_all,
    PySem.W.mg_none_of X G z_bool,
    PySem.W.mg_none_of X G z_int,
    PySem.W.mg_none_of X G z_isinstance,
    PySem.W.mg_none_of X G z_len,
    PySem.W.mg_none_of X G z_list,
    PySem.W.mg_none_of X G z_max,
    PySem.W.mg_none_of X G z_min,
    PySem.W.mg_none_of X G z_range,
    PySem.W.mg_none_of X G z_sorted,
    PySem.W.mg_none_of X G z_str,
    PySem.W.mg_none_of X G z_tuple,
    top_mk X G (fun _ _ _ _ _ _ us hl => match us, hl with | [_], _ => rfl) a_is_name l_is_name c_is_name k_is_name,
    top_mk X G (fun _ _ _ _ _ _ us hl => match us, hl with | [_], _ => rfl) a_leaves l_leaves c_leaves k_leaves,
    top_mk X G (fun _ _ _ _ _ _ us hl => match us, hl with | [_], _ => rfl) a_height l_height c_height k_height,
    top_mk X G (fun _ _ _ _ _ _ us hl => match us, hl with | [_, _], _ => rfl) a__law_cell_at l__law_cell_at c__law_cell_at k__law_cell_at,
    top_mk X G (fun _ _ _ _ _ _ us hl => match us, hl with | [_, _], _ => rfl) a__law_stream l__law_stream c__law_stream k__law_stream,
    top_mk X G (fun _ _ _ _ _ _ us hl => match us, hl with | [_, _], _ => rfl) a__law_words l__law_words c__law_words k__law_words,
    top_mk X G (fun _ _ _ _ _ _ us hl => match us, hl with | [_], _ => rfl) a__law_values l__law_values c__law_values k__law_values,
    top_mk X G (fun _ _ _ _ _ _ us hl => match us, hl with | [_], _ => rfl) a__law_whole l__law_whole c__law_whole k__law_whole,
    top_mk X G (fun _ _ _ _ _ _ us hl => match us, hl with | [_], _ => rfl) a__law_leaves l__law_leaves c__law_leaves k__law_leaves,
    top_mk X G (fun _ _ _ _ _ _ us hl => match us, hl with | [_], _ => rfl) a__law_height l__law_height c__law_height k__law_height,
    top_mk X G (fun _ _ _ _ _ _ us hl => match us, hl with | [_, _, _, _, _], _ => rfl) a__law_grown l__law_grown c__law_grown k__law_grown,
    top_mk X G (fun _ _ _ _ _ _ us hl => match us, hl with | [_], _ => rfl) a_law l_law c_law k_law⟩
end Wy
namespace Wy
open PySem L2
theorem iteFb {b : Bool} {A B : Prop} (e : b = false) (h : B) : if b = true then A else B := by
  subst e
  exact iteF h
theorem len_list (z : Str) : z.cps.toList.length = z.length := by simp [Str.length]
theorem app_list (a b : Str) : (a ++ b).cps.toList = a.cps.toList ++ b.cps.toList := by
  show (a.cps ++ b.cps).toList = _
  rw [Array.toList_append]
theorem len_app (a b : Str) : (a ++ b).length = a.length + b.length := by
  show (a.cps ++ b.cps).size = a.cps.size + b.cps.size
  exact Array.size_append
theorem strOk_of {z : Str} (h : ∀ c ∈ z.cps.toList, c < 0x110000) : PyData.strOk z = true := by
  unfold PyData.strOk
  rw [← Array.all_toList, List.all_eq_true]
  exact fun c hc => decide_eq_true (h c hc)
theorem cut_mem {z : Str} {lo hi : Option Int} {c : Nat} (h : c ∈ (cutS z lo hi).cps.toList) : c ∈ z.cps.toList := by
  unfold cutS at h
  rw [List.toList_toArray] at h
  exact List.mem_of_mem_drop (List.mem_of_mem_take h)
def SameBut (d : Addr) (H H' : Hp) : Prop := ∀ b o, b ≠ d → H b = some o → H' b = some o
theorem SameBut.trans {d : Addr} {H H1 H2 : Hp} (a : SameBut d H H1) (b : SameBut d H1 H2) : SameBut d H H2 := fun c o n e => b c o n (a c o n e)
theorem Same.but {d : Addr} {H H' : Hp} (s : Same H H') : SameBut d H H' := fun b o _ e => s b o e
theorem SameBut.upd (d : Addr) (H : Hp) (o : HO) : SameBut d H (upd H d o) := fun b u n e => by rw [upd_ne n]; exact e
theorem SameBut.seqT {K : PySem.W.Frag} {d a : Addr} {H H' : Hp} {xs : List V} {o : HO} (s : SameBut d H H') (hd : H d = some o) (hn : ∀ ys, o ≠ .tup ys) (hf : ∀ b ys, o ≠ .frz b (.tup ys)) (h : SqT K H a xs) : SqT K H' a xs := by
  rcases h with (h | ⟨b, h⟩) | h
  · exact .inl (.inl (s a _ (fun e => by subst e; rw [hd] at h; exact hn _ (Option.some.inj h)) h))
  · exact .inl (.inr ⟨b, s a _ (fun e => by subst e; rw [hd] at h; exact hf _ _ (Option.some.inj h)) h⟩)
  · exact .inr h
def KeepT (H H' : Hp) : Prop := ∀ b ys, H b = some (.tup ys) → H' b = some (.tup ys)
theorem KeepT.trans {H H1 H2 : Hp} (a : KeepT H H1) (b : KeepT H1 H2) : KeepT H H2 := fun c ys e => b c ys (a c ys e)
theorem KeepT.upd {H H' : Hp} {d : Addr} {xs ys : List V} (k : KeepT H H') (e : H' d = some (.lst xs)) : KeepT H (upd H' d (.lst ys)) := fun b zs hb => by
  rw [upd_ne (fun z => by rw [z] at hb; have := k _ _ hb; rw [e] at this; cases this)]
  exact k b zs hb
def PlAt (H : Hp) (x : V) (kv : List Str × Int) : Prop := ∃ q b, x = .ref q ∧ H q = some (.tup [.ref b, .int kv.2]) ∧ H b = some (.tup (kv.1.map V.str))
theorem PlAt.keep {H H' : Hp} {x : V} {kv : List Str × Int} (h : PlAt H x kv) (s : KeepT H H') : PlAt H' x kv := by
  obtain ⟨q, b, e, h1, h2⟩ := h
  exact ⟨q, b, e, s _ _ h1, s _ _ h2⟩
end Wy
namespace Wy
open PySem L2
theorem at_ints {ns : List Int} {k : Nat} (h : k < ns.length) : atI (ns.map V.int) (k : Int) = some (V.int (ns.getD k 0)) := by
  rw [getD_lt h]
  exact atI_nat (by rw [List.getElem?_map, List.getElem?_eq_getElem h]; rfl)
end Wy
namespace Wy
open PySem L2
def fur : Str := "abcdefghijklmnopqrstuvwxyz0123456789"
theorem len_fur : fur.length = 36 := by decide +kernel
theorem fur_lt : ∀ c ∈ fur.cps.toList, c < 0x110000 := by decide +kernel
def Wz (n : Nat) (z : Str) : Prop := z.length ≤ n ∧ ∀ c ∈ z.cps.toList, c ∈ fur.cps.toList
theorem Wz.ok {n : Nat} {z : Str} (h : Wz n z) : PyData.strOk z = true := strOk_of fun c hc => fur_lt c (h.2 c hc)
theorem Wz.cut {n : Nat} {z : Str} (h : Wz n z) (lo hi : Option Int) : Wz n (cutS z lo hi) := ⟨Nat.le_trans (cutS_length z lo hi) h.1, fun c hc => h.2 c (cut_mem hc)⟩
theorem Wz.app {n m : Nat} {z y : Str} (h : Wz n z) (k : Wz m y) : Wz (n + m) (z ++ y) := ⟨by rw [len_app]; exact Nat.add_le_add h.1 k.1, fun c hc => by
  rw [app_list] at hc
  exact (List.mem_append.mp hc).elim (h.2 c) (k.2 c)⟩
theorem Wz.one {c : Nat} (h : c ∈ fur.cps.toList) : Wz 1 ⟨#[c]⟩ := ⟨Nat.le_refl _, fun d hd => by
  have : d = c := by simpa using hd
  subst this
  exact h⟩
theorem Wz.le {n m : Nat} {z : Str} (h : Wz n z) (k : n ≤ m) : Wz m z := ⟨Nat.le_trans h.1 k, h.2⟩
theorem Wz.size {n : Nat} {z : Str} (h : Wz n z) (k : n ≤ 1000) : z.length ≤ sizeLine := Nat.le_trans (Nat.le_trans h.1 k) (by decide)
theorem one_len (d : Nat) : (⟨#[d]⟩ : Str).length ≤ 1 := Nat.le_refl _
theorem fur_at (c : Int) {m : Int} (h0 : 0 < m) (h1 : m ≤ 36) : ∃ d, atI fur.cps.toList (c % m) = some d ∧ d ∈ fur.cps.toList :=
  atI_in (Int.emod_nonneg _ (by omega)) (by rw [len_list, len_fur]; have := Int.emod_lt_of_pos c h0; omega)
theorem fur_size : fur.length ≤ sizeLine := by rw [len_fur]; decide
section
variable {P : Program} {w : World} {K : PySem.W.Frag} {mg : Str → Option Value} {base : Heap}
end
end Wy
namespace Wy
open PySem L2
section
variable {P : Program} {w : World} {K : PySem.W.Frag} {mg : Str → Option Value} {base : Heap}
def sp_cell (K : PySem.W.Frag) : Sp := fun vs H Q _ => ∃ (a : Addr) (ns : List Int) (k : Int), vs = [.ref a, .int k] ∧ SqL K H a (ns.map V.int) ∧ 0 ≤ k ∧ Q (.int (ns.getD k.toNat 0)) H
theorem ok__law_cell_at (T : Txt K mg) : Def P w K mg base 1 "_law_cell_at" ["_law_script", "_law_k"] (sp_cell K) := by
  refine T.t__law_cell_at.ok sc__law_cell_at (fun vs H Q E h => ?_) fun f cdv A outer s H vs Q E hr h => ?_
  · obtain ⟨a, ns, k, rfl, _⟩ := h
    rfl
  · obtain ⟨a, ns, k, rfl, hS, h0, q⟩ := h
    refine ⟨_, (pss_2
      (ps_if (pt_cmpR op_lt (pv 1) (pe_callB (call_lenK K) rfl T.b_len bt_len (pa_1 (pv 0))) (nomark _)) (pss_one (ps_ret (pe_ix (ix_listK K) (pv 0) (pv 1) (fun _ _ => rfl)))) pss_nil)
      (ps_ret pe_int)), ?_⟩
    refine ⟨_, rfl, _, rfl, _, _, rfl, .inl ⟨_, hS, rfl⟩, _, _, rfl, rfl, _, rfl, ?_⟩
    rw [List.length_map]
    refine ite2 (fun h1 => ?_) (fun h1 => ?_)
    · have h1' : k < ns.length := by simpa using h1
      have hk : k.toNat < ns.length := by omega
      refine ⟨_, rfl, _, rfl, _, _, _, V.int (ns.getD k.toNat 0), rfl, rfl, hS, ?_, q⟩
      rw [atI_lt h0 (by rw [List.length_map]; exact h1'), List.getElem?_map, List.getElem?_eq_getElem hk, getD_lt hk]
      rfl
    · have h1' : ¬ k < ns.length := by simpa using h1
      have e : ns.getD k.toNat 0 = 0 := by
        exact getD_ge (by omega)
      rw [e] at q
      exact q
end
end Wy
namespace Wy
open PySem L2
theorem cut_from (xs : List V) (n : Nat) (h : n ≤ xs.length) : cutV xs (some (n : Int)) none = xs.drop n := by
  unfold cutV
  rw [HT.sIx_nat, HT.sIx_none, Nat.min_eq_left h, List.take_of_length_le (by rw [List.length_drop]; exact Nat.le_refl _)]
section
variable {P : Program} {w : World} {K : PySem.W.Frag} {mg : Str → Option Value} {base : Heap}
def sp_stream : Sp := fun vs H Q _ => ∃ c m : Int, vs = [.int c, .int m] ∧ ∀ p (ns : List Int) H', Same H H' → H' p = some (.lst (ns.map V.int)) → ns.length = 24 → H p = none → Q (.ref p) H'
theorem ok__law_stream (T : Txt K mg) : Def P w K mg base 1 "_law_stream" ["_law_cell", "_law_place"] sp_stream := by
  refine T.t__law_stream.ok sc__law_stream (fun vs H Q E h => ?_) fun f cdv A outer s H vs Q E hr h => ?_
  · obtain ⟨c, m, rfl, _⟩ := h
    rfl
  · obtain ⟨c, m, rfl, k⟩ := h
    refine ⟨_, (pss_4
      (ps_set (i := 2) sc__law_stream.nd rfl (Or.inl rfl) (pe_op op_mod (pe_op op_add (pv 0) (pe_op op_mul pe_int (pv 1))) pe_int))
      (ps_set (i := 3) sc__law_stream.nd rfl (Or.inl rfl) (pe_lst pa_nil))
      (ps_for PassesOwn.never rfl (pi_range1 rfl T.b_range (pa_1 pe_int)) (pg_name (i := 4) sc__law_stream.nd rfl (Or.inl rfl)) (pss_2
      (ps_set (i := 2) sc__law_stream.nd rfl (Or.inl rfl) (pe_op op_mod (pe_op op_add (pe_op op_add (pe_op op_mul (pv 2) pe_int) (pe_op op_mul pe_int (pv 4))) pe_int) pe_int))
      (ps_expr (pe_bm PySem.F.plainAttrs_list PySem.F.slot_list_append PySem.F.type_list_append mt_append (pv 3) (pa_1 (pe_op op_fdiv (pv 2) pe_int))))))
      (ps_ret (pe_slice (sl_listK K) (pv 3) (po_some pe_int) po_none))), ?_⟩
    refine ⟨_, rfl, _, rfl, _, _, rfl, rfl, .inl ⟨by decide, by decide⟩, _, _, rfl, rfl, _, _, rfl, rfl, (by show (0 : Int) < 2147483629; decide), ?_⟩
    refine ⟨by decide, fun p hp => ?_⟩
    refine ⟨_, rfl, by decide, by decide, for_range (lo := 0) (n := 25) (fun i σ H' => ∃ (kk : Option V) (n : Int) (ns : List Int), σ = [some (.int c), some (.int m), some (.int n), some (.ref p), kk] ∧ H' = upd H p (.lst (ns.map V.int)) ∧ ns.length = i) ⟨none, _, [], rfl, rfl, rfl⟩ ?_ ?_⟩
    · rintro i σ H' hi ⟨kk, n, ns, rfl, rfl, hl⟩
      refine ⟨_, rfl, _, _, rfl, rfl, .inr ⟨by decide, by decide⟩, _, rfl, _, _, rfl, rfl, .inl ⟨by decide, by decide⟩, _, _, rfl, rfl, _, _, rfl, rfl, _, _, rfl, rfl, (by show (0 : Int) < 2147483647; decide), ?_⟩
      refine ⟨_, rfl, .inl ⟨rfl, _, SqL.of upd_same⟩, _, rfl, _, _, rfl, rfl, ⟨by decide, by decide⟩, _, _, _, rfl, rfl, upd_same, by rw [List.length_map, hl]; exact small1000 (by omega), ?_⟩
      exact ⟨_, _, ns ++ [_], rfl, by rw [upd_upd, List.map_append]; rfl, by rw [List.length_append, hl]; rfl⟩
    · rintro σ H' ⟨kk, n, ns, rfl, rfl, hl⟩
      refine ⟨_, rfl, _, rfl, _, _, rfl, SqL.of upd_same, fun q hq => ?_⟩
      have e : cutV (ns.map V.int) (some 1) none = (ns.drop 1).map V.int := by
        rw [List.map_drop]
        exact cut_from (ns.map V.int) 1 (by rw [List.length_map]; omega)
      rw [e]
      have s1 := same_upd (o := HO.lst (ns.map V.int)) hp
      exact k q (ns.drop 1) _ (s1.trans (same_upd hq)) upd_same (by rw [List.length_drop]; omega) (s1.free hq)
end
end Wy
namespace Wy
open PySem L2
theorem cut_upto (xs : List V) {m : Int} (h : 0 ≤ m) : cutV xs none (some m) = xs.take m.toNat := by
  obtain ⟨n, rfl⟩ := Int.eq_ofNat_of_zero_le h
  unfold cutV
  rw [HT.sIx_nat, HT.sIx_none, List.drop_zero]
  show xs.take (min n xs.length - 0) = xs.take n
  rw [Nat.sub_zero, ← List.take_eq_take_min]
end Wy
namespace Wy
open PySem L2
def sev : Str := "7"
theorem rep_sev {n : Int} (h0 : 0 ≤ n) (h8 : n ≤ 8) : Wz 8 (repS sev n) := by
  have : ∀ k : Nat, k ≤ 8 → (repS sev (k : Int)).length ≤ 8 ∧ ∀ c ∈ (repS sev (k : Int)).cps.toList, c ∈ fur.cps.toList := by decide +kernel
  obtain ⟨k, rfl⟩ := Int.eq_ofNat_of_zero_le h0
  exact this k (by omega)
section
variable {P : Program} {w : World} {K : PySem.W.Frag} {mg : Str → Option Value} {base : Heap}
def sp_words : Sp := fun vs H Q _ => ∃ c m : Int, vs = [.int c, .int m] ∧ 0 ≤ m ∧ m ≤ 9 ∧ ∀ p (ws : List Str) H', Same H H' → H' p = some (.lst (ws.map V.str)) → ws.length = m.toNat → H p = none → (∀ z ∈ ws, PyData.strOk z = true) → Q (.ref p) H'
theorem ok__law_words (T : Txt K mg) : Def P w K mg base 1 "_law_words" ["_law_cell", "_law_many"] sp_words := by
  refine T.t__law_words.ok sc__law_words (fun vs H Q E h => ?_) fun f cdv A outer s H vs Q E hr h => ?_
  · obtain ⟨c, m, rfl, _⟩ := h
    rfl
  · obtain ⟨c, m, rfl, m0, m9, k⟩ := h
    refine ⟨_, (pss_6
      (ps_set (i := 2) sc__law_words.nd rfl (Or.inl rfl) pe_str)
      (ps_set (i := 3) sc__law_words.nd rfl (Or.inl rfl) (pe_op op_add pe_int (pe_op op_mod (pv 0) pe_int)))
      (ps_set (i := 4) sc__law_words.nd rfl (Or.inl rfl) (pe_op op_mod (pe_op op_fdiv (pv 0) pe_int) (pv 3)))
      (ps_set (i := 5) sc__law_words.nd rfl (Or.inl rfl) (pe_lst pa_nil))
      (ps_for PassesOwn.never rfl (pi_range1 rfl T.b_range (pa_1 (pv 1))) (pg_name (i := 6) sc__law_words.nd rfl (Or.inl rfl)) (pss_3
      (ps_set (i := 7) sc__law_words.nd rfl (Or.inl rfl) pe_str)
      (ps_for PassesOwn.never rfl (pi_range1 rfl T.b_range (pa_1 (pv 3))) (pg_name (i := 8) sc__law_words.nd rfl (Or.inl rfl)) (pss_2
      (ps_set (i := 9) sc__law_words.nd rfl (Or.inl rfl) (pe_op op_add (pe_op op_add (pe_op op_fdiv (pv 0) (pe_op op_add pe_int (pe_op op_mul pe_int (pv 8)))) (pe_op op_mul (pv 8) (pv 8))) (pe_op op_mul (pv 6) (pe_callTy call_int1 rfl T.b_int bt_int (pa_1 (pe_cmpR op_eq (pv 8) (pv 4) (nomark _)))))))
      (ps_set (i := 7) sc__law_words.nd rfl (Or.inl rfl) (pe_op op_add_str (pv 7) (pe_ix ix_str (pv 2) (pe_op op_mod (pv 9) (pe_op op_add pe_int (pe_op op_mul pe_int (pe_callTy call_int1 rfl T.b_int bt_int (pa_1 (pe_cmpR op_gt (pv 8) pe_int (nomark _))))))) (fun _ _ => rfl))))))
      (ps_expr (pe_bm PySem.F.plainAttrs_list PySem.F.slot_list_append PySem.F.type_list_append mt_append (pv 5) (pa_1 (pe_slice sl_str (pe_op op_add_str (pv 7) (pe_op op_mulS pe_str (pe_op op_mul (pv 6) (pe_op op_mod (pe_op op_fdiv (pv 0) pe_int) pe_int)))) po_none (po_some pe_int)))))))
      (ps_ret (pv 5))), ?_⟩
    have s0 := Int.emod_nonneg c (show (12 : Int) ≠ 0 by decide)
    have s1 := Int.emod_lt_of_pos c (show (0 : Int) < 12 by decide)
    refine ⟨_, rfl, _, _, rfl, rfl, (by show (0 : Int) < 12; decide), _, _, rfl, rfl, ?_⟩
    refine ⟨_, rfl, _, _, rfl, rfl, ⟨by decide, by decide⟩, _, rfl, _, _, rfl, rfl, (by show 0 < 1 + c % 12; omega), ?_⟩
    refine ⟨by decide, fun p hp => ?_⟩
    have t0 := same_upd (o := HO.lst []) hp
    refine ⟨_, rfl, _, rfl, by omega, by omega, for_range (lo := 0) (n := m.toNat) (fun i σ H' => ∃ (v1 v2 v3 v4 : Option V) (ws : List Str), σ = [some (.int c), some (.int m), some (.str fur), some (.int (1 + c % 12)), some (.int (c / 12 % (1 + c % 12))), some (.ref p), v1, v2, v3, v4] ∧ Same H H' ∧ H' p = some (.lst (ws.map V.str)) ∧ ws.length = i ∧ ∀ z ∈ ws, PyData.strOk z = true) ⟨none, none, none, none, [], rfl, t0, upd_same, rfl, fun _ z => nomatch z⟩ ?_ ?_⟩
    · rintro i σ H1 hi ⟨v1, v2, v3, v4, ws, rfl, sm, e, lw, hw⟩
      refine ⟨_, rfl, _, rfl, by omega, by omega, for_range (lo := 0) (n := (1 + c % 12).toNat) (fun j σ H' => ∃ (v3 v4 : Option V) (z : Str), σ = [some (.int c), some (.int m), some (.str fur), some (.int (1 + c % 12)), some (.int (c / 12 % (1 + c % 12))), some (.ref p), some (.int (0 + (i : Int))), some (.str z), v3, v4] ∧ H' = H1 ∧ Wz j z) ⟨_, _, "", rfl, rfl, ⟨Nat.le_refl _, fun c hc => nomatch hc⟩⟩ ?_ ?_⟩
      · rintro j σ H' hj ⟨v3, v4, z, rfl, rfl, wz⟩
        have j12 : j ≤ 12 := by omega
        refine ⟨_, rfl, _, rfl, _, _, rfl, rfl, .inl ⟨by decide, by decide⟩, _, _, rfl, rfl, _, _, rfl, rfl, ⟨by show (0 : Int) < 144 + 13 * (0 + (j : Int)); omega, by show 144 + 13 * (0 + (j : Int)) < 1073741824; omega⟩, _, rfl, _, rfl, _, _, rfl, rfl, .inl ⟨by omega, by omega⟩, _, _, rfl, rfl, _, rfl, _, rfl, _, rfl, rfl, .inr ⟨_, rfl, _, _, rfl, rfl, .inl ⟨by omega, by omega⟩, _, _, rfl, rfl, ?_⟩⟩
        have hm : (0 : Int) < 26 + 10 * (if decide ((0 : Int) < 0 + (j : Int)) = true then 1 else 0) ∧ 26 + 10 * (if decide ((0 : Int) < 0 + (j : Int)) = true then 1 else 0) ≤ (36 : Int) := by split <;> omega
        obtain ⟨d, hd, hds⟩ := fur_at (c / (144 + 13 * (0 + (j : Int))) + (0 + (j : Int)) * (0 + (j : Int)) + (0 + (i : Int)) * (if decide (V.int (0 + (j : Int)) = V.int (c / 12 % (1 + c % 12))) = true then 1 else 0)) hm.1 hm.2
        refine ⟨_, rfl, _, rfl, _, rfl, _, rfl, _, _, rfl, rfl, .inr ⟨_, rfl, _, _, rfl, rfl, .inl ⟨by decide, by decide⟩, _, _, rfl, rfl, _, _, rfl, rfl, hm.1, _, _, d, rfl, rfl, fur_size, hd, _, _, rfl, rfl, ?_, ?_⟩⟩
        · have := wz.1
          exact Nat.le_trans (Nat.add_le_add this (one_len d)) (Nat.le_trans (show j + 1 ≤ 1000 by omega) (by decide))
        · exact ⟨_, _, _, rfl, rfl, wz.app (Wz.one hds)⟩
      · rintro σ H' ⟨v3, v4, z, rfl, rfl, wz⟩
        have q0 := Int.emod_nonneg (c / 5) (show (2 : Int) ≠ 0 by decide)
        have q1 := Int.emod_lt_of_pos (c / 5) (show (0 : Int) < 2 by decide)
        have i9 : (i : Int) ≤ 8 := by omega
        have r0 : 0 ≤ (0 + (i : Int)) * (c / 5 % 2) := Int.mul_nonneg (by omega) q0
        have r8 : (0 + (i : Int)) * (c / 5 % 2) ≤ 8 := by
          rcases (show c / 5 % 2 = 0 ∨ c / 5 % 2 = 1 by omega) with h | h <;> rw [h] <;> omega
        have wr := rep_sev r0 r8
        have wA := wz.app wr
        have l20 : z.length + (repS sev ((0 + (i : Int)) * (c / 5 % 2))).length ≤ 20 := by
          have := wz.1
          have := wr.1
          omega
        refine ⟨_, rfl, .inl ⟨rfl, _, SqL.of e⟩, _, rfl, _, rfl, _, rfl, _, _, rfl, rfl, ⟨by decide, by decide⟩, _, _, rfl, rfl, (by show (0 : Int) < 2; decide), _, _, rfl, rfl, .inl ⟨by omega, by omega⟩, sev, _, rfl, rfl, r0, by omega, by decide +kernel, z, _, rfl, rfl, Nat.le_trans l20 (by decide), ?_⟩
        refine ⟨_, rfl, _, rfl, by rw [len_app]; exact Nat.le_trans l20 (by decide), _, _, _, rfl, rfl, e, small1000 (by rw [List.length_map]; omega), ?_⟩
        refine ⟨_, _, _, _, ws ++ [cutS (z ++ repS sev ((0 + (i : Int)) * (c / 5 % 2))) none (some 12)], rfl, sm.set hp, by rw [upd_same, List.map_append]; rfl, by rw [List.length_append, lw]; rfl, fun y hy => ?_⟩
        rcases List.mem_append.mp hy with hy | hy
        · exact hw y hy
        · rw [List.mem_singleton.mp hy]
          exact (wA.cut none (some 12)).ok
    · rintro σ H1 ⟨v1, v2, v3, v4, ws, rfl, sm, e, lw, hw⟩
      exact ⟨_, rfl, k p ws _ sm e lw hp hw⟩
end
end Wy
namespace Wy
open PySem L2
def VlV (v : V) : Prop := (∃ i, v = .int i) ∨ ∃ z, v = .str z ∧ PyData.strOk z = true
section
variable {P : Program} {w : World} {K : PySem.W.Frag} {mg : Str → Option Value} {base : Heap}
def sp_values : Sp := fun vs H Q _ => ∃ c : Int, vs = [.int c] ∧ ∀ p (xs : List V) H', Same H H' → H' p = some (.lst xs) → xs.length = 3 → (∀ v ∈ xs, VlV v) → Q (.ref p) H'
theorem ok__law_values (T : Txt K mg) : Def P w K mg base 2 "_law_values" ["_law_cell"] sp_values := by
  refine T.t__law_values.ok sc__law_values (fun vs H Q E h => ?_) fun f cdv A outer s H vs Q E hr h => ?_
  · obtain ⟨c, rfl, _⟩ := h
    rfl
  · obtain ⟨c, rfl, k⟩ := h
    refine ⟨_, (pss_3
      (ps_set (i := 1) sc__law_values.nd rfl (Or.inl rfl) (pe_op op_mul (pe_op op_mod (pe_op op_fdiv (pv 0) pe_int) (pe_op op_pow pe_int pe_int)) (pe_op op_sub pe_int (pe_op op_mul pe_int (pe_op op_mod (pe_op op_fdiv (pv 0) pe_int) pe_int)))))
      (ps_set (i := 2) sc__law_values.nd rfl (Or.inl rfl) (pe_def (ok__law_words T) hr rfl (pa_2 (pe_op op_fdiv (pv 0) pe_int) pe_int)))
      (ps_ret (pe_ix (ix_listK K) (pe_lst (pa_3 (pe_lst (pa_3 (pv 1) (pe_ix (ix_listK K) (pv 2) pe_int (fun _ _ => rfl)) (pe_ix (ix_listK K) (pv 2) pe_int (fun _ _ => rfl)))) (pe_lst (pa_3 (pv 1) (pe_op op_add (pv 1) pe_int) (pe_ix (ix_listK K) (pv 2) pe_int (fun _ _ => rfl)))) (pe_lst (pa_3 (pv 1) (pe_ix (ix_listK K) (pv 2) pe_int (fun _ _ => rfl)) (pe_op op_sub (pe_op op_sub pe_int (pv 1)) pe_int))))) (pe_op op_mod (pv 0) pe_int) (fun _ _ => rfl)))), ?_⟩
    have q0 := Int.emod_nonneg (c / 3) (show (2 : Int) ≠ 0 by decide)
    have q1 := Int.emod_lt_of_pos (c / 3) (show (0 : Int) < 2 by decide)
    refine ⟨_, rfl, _, _, rfl, rfl, ⟨by decide, by decide⟩, _, _, rfl, rfl, ⟨by decide, by decide, by decide⟩, _, _, rfl, rfl, (by show (0 : Int) < 10 ^ 30; decide), _, rfl, _, _, rfl, rfl, ⟨by decide, by decide⟩, _, _, rfl, rfl, (by show (0 : Int) < 2; decide), _, _, rfl, rfl, .inl ⟨by decide, by decide⟩, _, _, rfl, rfl, _, _, rfl, rfl, .inr ⟨by show -(2 ^ 64) < 1 - 2 * (c / 3 % 2); omega, by show 1 - 2 * (c / 3 % 2) < 2 ^ 64; omega⟩, ?_⟩
    refine ⟨_, rfl, _, _, rfl, rfl, ⟨by decide, by decide⟩, _, 2, rfl, by decide, by decide, fun wp W H1 s1 hw lw _ hW => ?_⟩
    obtain ⟨w0, w1, rfl⟩ : ∃ w0 w1, W = [w0, w1] := by
      match W, lw with
      | [w0, w1], _ => exact ⟨_, _, rfl⟩
    have o0 := hW w0 (by simp)
    have o1 := hW w1 (by simp)
    refine ⟨_, rfl, _, rfl, _, _, _, _, rfl, rfl, SqL.of hw, rfl, _, rfl, _, _, _, _, rfl, rfl, SqL.of hw, rfl, by show 3 ≤ sizeLine; decide, fun l1 h1 => ?_⟩
    have u1 := same_upd (o := HO.lst [V.int (c / 6 % 10 ^ 30 * (1 - 2 * (c / 3 % 2))), V.str w0, V.str w1]) h1
    have hw1 := u1 _ _ hw
    refine ⟨_, rfl, _, rfl, _, _, rfl, rfl, _, rfl, _, _, _, _, rfl, rfl, SqL.of hw1, rfl, by show 3 ≤ sizeLine; decide, fun l2 h2 => ?_⟩
    have u2 := same_upd (o := HO.lst [V.int (c / 6 % 10 ^ 30 * (1 - 2 * (c / 3 % 2))), V.int (c / 6 % 10 ^ 30 * (1 - 2 * (c / 3 % 2)) + 1), V.str w0]) h2
    have hw2 := u2 _ _ hw1
    refine ⟨_, rfl, _, rfl, _, _, _, _, rfl, rfl, SqL.of hw2, rfl, _, rfl, _, _, rfl, rfl, _, _, rfl, rfl, by show 3 ≤ sizeLine; decide, fun l3 h3 => ?_⟩
    have u3 := same_upd (o := HO.lst [V.int (c / 6 % 10 ^ 30 * (1 - 2 * (c / 3 % 2))), V.str w0, V.int (0 - c / 6 % 10 ^ 30 * (1 - 2 * (c / 3 % 2)) - 1)]) h3
    refine ⟨by show 3 ≤ sizeLine; decide, fun L hL => ?_⟩
    have u4 := same_upd (o := HO.lst [V.ref l1, .ref l2, .ref l3]) hL
    obtain ⟨v, hat, hv⟩ := atI_in (xs := [V.ref l1, .ref l2, .ref l3]) (i := c % 3) (Int.emod_nonneg _ (by decide)) (Int.emod_lt_of_pos _ (by decide))
    refine ⟨_, rfl, _, _, rfl, rfl, (by show (0 : Int) < 3; decide), _, _, _, v, rfl, rfl, SqL.of upd_same, hat, ?_⟩
    have sA := s1.trans (u1.trans (u2.trans (u3.trans u4)))
    simp only [List.mem_cons, List.not_mem_nil, or_false] at hv
    rcases hv with rfl | rfl | rfl
    · refine k l1 _ _ sA ((u2.trans (u3.trans u4)) _ _ upd_same) rfl fun v hv => ?_
      simp only [List.mem_cons, List.not_mem_nil, or_false] at hv
      rcases hv with rfl | rfl | rfl
      · exact .inl ⟨_, rfl⟩
      · exact .inr ⟨_, rfl, o0⟩
      · exact .inr ⟨_, rfl, o1⟩
    · refine k l2 _ _ sA ((u3.trans u4) _ _ upd_same) rfl fun v hv => ?_
      simp only [List.mem_cons, List.not_mem_nil, or_false] at hv
      rcases hv with rfl | rfl | rfl
      · exact .inl ⟨_, rfl⟩
      · exact .inl ⟨_, rfl⟩
      · exact .inr ⟨_, rfl, o0⟩
    · refine k l3 _ _ sA (u4 _ _ upd_same) rfl fun v hv => ?_
      simp only [List.mem_cons, List.not_mem_nil, or_false] at hv
      rcases hv with rfl | rfl | rfl
      · exact .inl ⟨_, rfl⟩
      · exact .inr ⟨_, rfl, o0⟩
      · exact .inl ⟨_, rfl⟩
def sp_whole : Sp := fun vs H Q _ => ∃ i : Int, vs = [.int i] ∧ Q (.bl true) H
theorem ok__law_whole (T : Txt K mg) : Def P w K mg base 1 "_law_whole" ["_law_found"] sp_whole := by
  refine T.t__law_whole.ok sc__law_whole (fun vs H Q E h => ?_) fun f cdv A outer s H vs Q E hr h => ?_
  · obtain ⟨c, rfl, _⟩ := h
    rfl
  · obtain ⟨i, rfl, k⟩ := h
    refine ⟨_, (pss_one (ps_ret (pe_and (pe_callB (call_isi K) rfl T.b_isinstance bt_isinstance (pa_2 (pv 0) (pe_ty rfl T.b_int bt_int))) (pe_one (pe_not (pe_callB (call_isi K) rfl T.b_isinstance bt_isinstance (pa_2 (pv 0) (pe_ty rfl T.b_bool bt_bool)))))))), ?_⟩
    exact ⟨_, rfl, _, _, _, rfl, .int i, by decide, by decide, _, rfl, iteT ⟨_, rfl, _, _, _, rfl, .int i, by decide, by decide, _, rfl, k⟩⟩
end
end Wy
namespace Wy
open PySem L2
theorem small1000000 {n : Nat} (h : n < 1000000) : n < sizeLine := Nat.lt_of_lt_of_le h (by decide)
inductive Tr where
  | nm (s : Str) | nd (n : Int) (r : List V) (ks : List Tr)
mutual
def lvT : Tr → List Str
  | .nm s => [s]
  | .nd _ _ ks => lvTs ks
def lvTs : List Tr → List Str
  | [] => []
  | t :: ts => lvT t ++ lvTs ts
end
mutual
def htT : Tr → Nat
  | .nm _ => 0
  | .nd _ _ ks => htTs ks + 1
def htTs : List Tr → Nat
  | [] => 0
  | t :: ts => max (htT t) (htTs ts)
end
mutual
def ndT : Tr → Nat
  | .nm _ => 1
  | .nd _ _ ks => ndTs ks + 1
def ndTs : List Tr → Nat
  | [] => 0
  | t :: ts => ndT t + ndTs ts
end
mutual
def BuT : Tr → Prop
  | .nm _ => True
  | .nd _ _ ks => ks.length ≤ 4 ∧ BuTs ks
def BuTs : List Tr → Prop
  | [] => True
  | t :: ts => BuT t ∧ BuTs ts
end
mutual
def TrV (H : Hp) : Tr → V → Prop
  | .nm s, x => x = .str s ∧ PyData.strOk s = true
  | .nd n r ks, x => (∀ v ∈ r, VlV v) ∧ ∃ a b c xs, x = .ref a ∧ H a = some (.tup [.int n, .ref b, .ref c]) ∧ H b = some (.tup r) ∧ H c = some (.tup xs) ∧ TrVs H ks xs
def TrVs (H : Hp) : List Tr → List V → Prop
  | [], xs => xs = []
  | t :: ts, xs => ∃ x ys, xs = x :: ys ∧ TrV H t x ∧ TrVs H ts ys
end
theorem lvTs_app : ∀ a b : List Tr, lvTs (a ++ b) = lvTs a ++ lvTs b
  | [], b => by rw [lvTs, List.nil_append, List.nil_append]
  | t :: a, b => by rw [List.cons_append, lvTs, lvTs, lvTs_app a b, List.append_assoc]
theorem ndTs_app : ∀ a b : List Tr, ndTs (a ++ b) = ndTs a + ndTs b
  | [], b => by rw [ndTs, List.nil_append, Nat.zero_add]
  | t :: a, b => by rw [List.cons_append, ndTs, ndTs, ndTs_app a b, Nat.add_assoc]
theorem ndT_pos : ∀ t : Tr, 1 ≤ ndT t
  | .nm _ => by rw [ndT]; exact Nat.le_refl _
  | .nd _ _ ks => by rw [ndT]; omega
theorem ndTs_len : ∀ ts : List Tr, ts.length ≤ ndTs ts
  | [] => Nat.zero_le _
  | t :: ts => by
    have := ndT_pos t
    have := ndTs_len ts
    rw [ndTs, List.length_cons]
    omega
mutual
theorem lv_nd : ∀ t : Tr, (lvT t).length ≤ ndT t
  | .nm s => by rw [lvT, ndT]; exact Nat.le_refl _
  | .nd _ _ ks => by
    rw [lvT, ndT]
    have := lvs_nd ks
    omega
theorem lvs_nd : ∀ ts : List Tr, (lvTs ts).length ≤ ndTs ts
  | [] => by rw [lvTs, ndTs]; exact Nat.le_refl _
  | t :: ts => by
    rw [lvTs, ndTs, List.length_append]
    have := lv_nd t
    have := lvs_nd ts
    omega
end
mutual
theorem nd_bound : ∀ t : Tr, BuT t → ndT t ≤ 5 ^ (htT t + 1)
  | .nm s, _ => by rw [ndT, htT]; decide
  | .nd _ _ ks, h => by
    rw [BuT] at h
    rw [ndT, htT]
    have h1 := nds_bound ks h.2
    have h2 : ks.length * 5 ^ (htTs ks + 1) ≤ 4 * 5 ^ (htTs ks + 1) := Nat.mul_le_mul_right _ h.1
    have h3 : 5 ^ (htTs ks + 1 + 1) = 5 ^ (htTs ks + 1) * 5 := Nat.pow_succ ..
    have h4 : 1 ≤ 5 ^ (htTs ks + 1) := Nat.pow_pos (by decide)
    omega
theorem nds_bound : ∀ ts : List Tr, BuTs ts → ndTs ts ≤ ts.length * 5 ^ (htTs ts + 1)
  | [], _ => by rw [ndTs]; exact Nat.zero_le _
  | t :: ts, h => by
    rw [BuTs] at h
    rw [ndTs, htTs, List.length_cons, Nat.succ_mul]
    have h1 := nd_bound t h.1
    have h2 := nds_bound ts h.2
    have h3 : 5 ^ (htT t + 1) ≤ 5 ^ (max (htT t) (htTs ts) + 1) := Nat.pow_le_pow_right (by decide) (by omega)
    have h4 : 5 ^ (htTs ts + 1) ≤ 5 ^ (max (htT t) (htTs ts) + 1) := Nat.pow_le_pow_right (by decide) (by omega)
    have h5 : ts.length * 5 ^ (htTs ts + 1) ≤ ts.length * 5 ^ (max (htT t) (htTs ts) + 1) := Nat.mul_le_mul_left _ h4
    omega
end
theorem TrVs.len {H : Hp} : ∀ {ts : List Tr} {xs : List V}, TrVs H ts xs → ts.length = xs.length
  | [], xs, h => by
    rw [TrVs] at h
    rw [h]
    rfl
  | t :: ts, xs, h => by
    rw [TrVs] at h
    obtain ⟨x, ys, rfl, _, h⟩ := h
    rw [List.length_cons, List.length_cons, TrVs.len h]
mutual
theorem TrV.same {H H' : Hp} (s : Same H H') : ∀ {t : Tr} {x : V}, TrV H t x → TrV H' t x
  | .nm z, x, h => by
    rw [TrV] at h ⊢
    exact h
  | .nd n r ks, x, h => by
    rw [TrV] at h ⊢
    obtain ⟨h0, a, b, c, xs, h1, h2, h3, h4, h5⟩ := h
    exact ⟨h0, a, b, c, xs, h1, s _ _ h2, s _ _ h3, s _ _ h4, TrVs.same s h5⟩
theorem TrVs.same {H H' : Hp} (s : Same H H') : ∀ {ts : List Tr} {xs : List V}, TrVs H ts xs → TrVs H' ts xs
  | [], xs, h => by
    rw [TrVs] at h ⊢
    exact h
  | t :: ts, xs, h => by
    rw [TrVs] at h ⊢
    obtain ⟨x, ys, e, h1, h2⟩ := h
    exact ⟨x, ys, e, TrV.same s h1, TrVs.same s h2⟩
end
end Wy
namespace Wy
open PySem L2
def vD : V → PyData
  | .int i => .int i
  | .str z => .str z
  | _ => .none
theorem vl_dats {K : PySem.W.Frag} {H : Hp} : ∀ {r : List V}, (∀ v ∈ r, VlV v) → Dats K H (r.map vD) r
  | [], _ => .nil
  | v :: r, h => by
    refine .cons ?_ (vl_dats fun x hx => h x (List.mem_cons_of_mem _ hx))
    rcases h v (List.mem_cons_self ..) with ⟨i, rfl⟩ | ⟨z, rfl, hz⟩
    · exact .int i
    · exact .str z hz
theorem vl_depth : ∀ r : List V, PyData.depthAll (r.map vD) = 0
  | [] => rfl
  | v :: r => by
    show max (PyData.depth (vD v)) (PyData.depthAll (r.map vD)) = 0
    rw [vl_depth r]
    cases v <;> rfl
mutual
def dT : Tr → PyData
  | .nm s => .str s
  | .nd n r ks => .tuple [.int n, .tuple (r.map vD), .tuple (dTs ks)]
def dTs : List Tr → List PyData
  | [] => []
  | t :: ts => dT t :: dTs ts
end
mutual
theorem TrV.dat {K : PySem.W.Frag} {H : Hp} : ∀ {t : Tr} {x : V}, TrV H t x → Dat K H (dT t) x
  | .nm z, x, h => by
    rw [TrV] at h
    rw [dT, h.1]
    exact .str z h.2
  | .nd n r ks, x, h => by
    rw [TrV] at h
    obtain ⟨h0, a, b, c, xs, rfl, h2, h3, h4, h5⟩ := h
    rw [dT]
    exact .tup (SqT.of h2) (.cons (.int n) (.cons (.tup (SqT.of h3) (vl_dats h0)) (.cons (.tup (SqT.of h4) (TrVs.dats h5)) .nil)))
theorem TrVs.dats {K : PySem.W.Frag} {H : Hp} : ∀ {ts : List Tr} {xs : List V}, TrVs H ts xs → Dats K H (dTs ts) xs
  | [], xs, h => by
    rw [TrVs] at h
    rw [dTs, h]
    exact .nil
  | t :: ts, xs, h => by
    rw [TrVs] at h
    obtain ⟨x, ys, rfl, h1, h2⟩ := h
    rw [dTs]
    exact .cons h1.dat (TrVs.dats h2)
end
mutual
theorem dT_depth : ∀ t : Tr, (dT t).depth ≤ 2 * htT t
  | .nm s => by rw [dT]; exact Nat.zero_le _
  | .nd n r ks => by
    rw [dT, htT]
    have h1 := dTs_depth ks
    have h2 := vl_depth r
    show PyData.depthAll [.int n, .tuple (r.map vD), .tuple (dTs ks)] + 1 ≤ _
    show max 0 (max (PyData.depthAll (r.map vD) + 1) (max (PyData.depthAll (dTs ks) + 1) 0)) + 1 ≤ _
    omega
theorem dTs_depth : ∀ ts : List Tr, PyData.depthAll (dTs ts) ≤ 2 * htTs ts
  | [] => by rw [dTs]; exact Nat.zero_le _
  | t :: ts => by
    rw [dTs, htTs]
    have h1 := dT_depth t
    have h2 := dTs_depth ts
    show max (PyData.depth (dT t)) (PyData.depthAll (dTs ts)) ≤ _
    omega
end
theorem TrVs.get {H : Hp} : ∀ {ts : List Tr} {xs : List V} {i : Nat} {x : V}, TrVs H ts xs → xs[i]? = some x → ∃ t, ts[i]? = some t ∧ TrV H t x
  | [], xs, i, x, h, e => by
    rw [TrVs] at h
    rw [h] at e
    simp at e
  | t :: ts, xs, 0, x, h, e => by
    rw [TrVs] at h
    obtain ⟨y, ys, rfl, h1, h2⟩ := h
    simp at e
    subst e
    exact ⟨t, rfl, h1⟩
  | t :: ts, xs, i + 1, x, h, e => by
    rw [TrVs] at h
    obtain ⟨y, ys, rfl, h1, h2⟩ := h
    obtain ⟨u, h3, h4⟩ := TrVs.get (i := i) (x := x) h2 (by simpa using e)
    exact ⟨u, by simpa using h3, h4⟩
theorem TrVs.app {H : Hp} : ∀ {a b : List Tr} {xs ys : List V}, TrVs H a xs → TrVs H b ys → TrVs H (a ++ b) (xs ++ ys)
  | [], b, xs, ys, h, h2 => by
    rw [TrVs] at h
    rw [h]
    exact h2
  | t :: a, b, xs, ys, h, h2 => by
    rw [TrVs] at h
    obtain ⟨x, zs, rfl, h3, h4⟩ := h
    rw [List.cons_append, TrVs]
    exact ⟨x, zs ++ ys, rfl, h3, TrVs.app h4 h2⟩
theorem bus_of : ∀ {ts : List Tr}, (∀ t ∈ ts, BuT t) → BuTs ts
  | [], _ => by rw [BuTs]; trivial
  | u :: ts, h => by
    rw [BuTs]
    exact ⟨h u (List.mem_cons_self ..), bus_of fun t ht => h t (List.mem_cons_of_mem _ ht)⟩
theorem hts_of {m : Nat} : ∀ {ts : List Tr}, (∀ t ∈ ts, htT t ≤ m) → htTs ts ≤ m
  | [], _ => by rw [htTs]; exact Nat.zero_le _
  | u :: ts, h => by
    rw [htTs]
    have h1 := h u (List.mem_cons_self ..)
    have h2 := hts_of (ts := ts) fun t ht => h t (List.mem_cons_of_mem _ ht)
    omega
theorem bu_in : ∀ {ts : List Tr} {t : Tr}, BuTs ts → t ∈ ts → BuT t
  | [], t, _, h => by cases h
  | u :: ts, t, b, h => by
    rw [BuTs] at b
    rcases List.mem_cons.mp h with rfl | h
    · exact b.1
    · exact bu_in b.2 h
theorem TrVs.one {H : Hp} {t : Tr} {x : V} (h : TrV H t x) : TrVs H [t] [x] := by
  rw [TrVs]
  exact ⟨x, [], rfl, h, by rw [TrVs]⟩
theorem TrVs.nil {H : Hp} : TrVs H [] [] := by rw [TrVs]
theorem TrVs.parts {H : Hp} : ∀ {ts : List Tr} {xs ys : List V}, TrVs H ts (xs ++ ys) → TrVs H (ts.take xs.length) xs ∧ TrVs H (ts.drop xs.length) ys
  | ts, [], ys, h => ⟨by rw [List.length_nil, List.take_zero]; exact .nil, h⟩
  | [], x :: xs, ys, h => by
    rw [TrVs] at h
    cases h
  | t :: ts, x :: xs, ys, h => by
    rw [List.cons_append, TrVs] at h
    obtain ⟨x', zs, e, h1, h2⟩ := h
    injection e with e1 e2
    subst e1
    subst e2
    obtain ⟨h3, h4⟩ := TrVs.parts h2
    rw [List.length_cons, List.take_succ_cons, List.drop_succ_cons, TrVs]
    exact ⟨⟨x, xs, rfl, h1, h3⟩, h4⟩
theorem TrVs.last {H : Hp} {ws : List Tr} {xs : List V} (h : TrVs H ws xs) (hne : xs ≠ []) : ∃ us u ys y, ws = us ++ [u] ∧ xs = ys ++ [y] ∧ TrVs H us ys ∧ TrV H u y := by
  obtain ⟨ys, y, rfl⟩ : ∃ ys y, xs = ys ++ [y] := ⟨xs.dropLast, xs.getLast hne, (List.dropLast_concat_getLast hne).symm⟩
  obtain ⟨h1, h2⟩ := TrVs.parts h
  have e := (List.take_append_drop ys.length ws).symm
  generalize ws.drop ys.length = d at *
  cases d with
  | nil =>
    rw [TrVs] at h2
    cases h2
  | cons u us =>
    rw [TrVs] at h2
    obtain ⟨z, zs, ez, h3, h4⟩ := h2
    injection ez with e1 e2
    subst e1
    subst e2
    cases us with
    | nil => exact ⟨_, u, ys, y, e, rfl, h1, h3⟩
    | cons _ _ =>
      rw [TrVs] at h4
      obtain ⟨_, _, ez, _⟩ := h4
      cases ez
end Wy
namespace Wy
open PySem L2
theorem topOf_some {v : Nat → Int} : ∀ {n : Nat} {m : Int}, topOf v n = some m → (∃ i, i < n ∧ m = v i) ∧ ∀ i, i < n → v i ≤ m
  | 0, m, h => by cases h
  | n + 1, m, h => by
    rw [topOf] at h
    split at h
    · rename_i e
      cases h
      have := topOf_none e
      subst this
      exact ⟨⟨0, Nat.zero_lt_one, rfl⟩, fun i hi => by
        have : i = 0 := by omega
        rw [this]
        exact Int.le_refl _⟩
    · rename_i m' e
      obtain ⟨⟨i, hi, e1⟩, e2⟩ := topOf_some e
      have h' : (if v n > m' then v n else m') = m := by injection h
      by_cases g : v n > m'
      · rw [if_pos g] at h'
        subst h'
        refine ⟨⟨n, Nat.lt_succ_self _, rfl⟩, fun j hj => ?_⟩
        by_cases z : j = n
        · rw [z]
          exact Int.le_refl _
        · have := e2 j (by omega)
          omega
      · rw [if_neg g] at h'
        subst h'
        refine ⟨⟨i, Nat.lt_succ_of_lt hi, e1⟩, fun j hj => ?_⟩
        by_cases z : j = n
        · rw [z]
          omega
        · exact e2 j (by omega)
mutual
theorem ht_le : ∀ {ts : List Tr} {t : Tr}, t ∈ ts → htT t ≤ htTs ts
  | [], t, h => by cases h
  | u :: ts, t, h => by
    rw [htTs]
    rcases List.mem_cons.mp h with rfl | h
    · omega
    · have := ht_le h
      omega
end
theorem ht_in : ∀ ts : List Tr, (ts = [] ∧ htTs ts = 0) ∨ ∃ t ∈ ts, htT t = htTs ts
  | [] => .inl ⟨rfl, by rw [htTs]⟩
  | u :: ts => by
    right
    rw [htTs]
    rcases ht_in ts with ⟨rfl, e⟩ | ⟨t, ht, e⟩
    · exact ⟨u, List.mem_cons_self .., by rw [e]; omega⟩
    · by_cases h : htT u ≤ htTs ts
      · exact ⟨t, List.mem_cons_of_mem _ ht, by omega⟩
      · exact ⟨u, List.mem_cons_self .., by omega⟩
theorem ht_top (ts : List Tr) : (topOf (fun i => (ts.map fun t => (htT t : Int)).getD i 0) (ts.map fun t => (htT t : Int)).length).getD 0 = (htTs ts : Int) := by
  have at_ : ∀ {i : Nat}, i < ts.length → ∃ t ∈ ts, (ts.map fun t => (htT t : Int)).getD i 0 = (htT t : Int) := fun {i} h => ⟨ts[i], List.getElem_mem h, by rw [List.getD_eq_getElem?_getD, List.getElem?_map, List.getElem?_eq_getElem h]; rfl⟩
  rw [List.length_map]
  cases e : topOf (fun i => (ts.map fun t => (htT t : Int)).getD i 0) ts.length with
  | none =>
    have := topOf_none e
    have : ts = [] := List.length_eq_zero_iff.mp this
    subst this
    rw [htTs]
    rfl
  | some m =>
    obtain ⟨⟨i, hi, e1⟩, e2⟩ := topOf_some e
    obtain ⟨t, ht, e3⟩ := at_ hi
    have h1 := ht_le ht
    show m = _
    rcases ht_in ts with ⟨rfl, _⟩ | ⟨u, hu, e4⟩
    · cases hi
    · obtain ⟨j, hj, rfl⟩ := List.getElem_of_mem hu
      have h2 := e2 j hj
      have h3 : (ts.map fun t => (htT t : Int)).getD j 0 = (htT ts[j] : Int) := by rw [List.getD_eq_getElem?_getD, List.getElem?_map, List.getElem?_eq_getElem hj]; rfl
      rw [h3] at h2
      rw [e3] at e1
      omega
theorem hts_snoc : ∀ (ts : List Tr) (t : Tr), htTs (ts ++ [t]) = max (htTs ts) (htT t)
  | [], t => by
    simp only [List.nil_append, htTs]
    omega
  | u :: ts, t => by
    rw [List.cons_append, htTs, htTs, hts_snoc ts t]
    omega
def isNm : Tr → Bool
  | .nm _ => true
  | _ => false
section
variable {P : Program} {w : World} {K : PySem.W.Frag} {mg : Str → Option Value} {base : Heap}
theorem TrV.ty {H : Hp} {t : Tr} {x : V} (h : TrV H t x) : ∃ n, TyOf K H x (.type n) ∧ n ∈ tyTs ∧ tyIs n "str" = isNm t := by
  cases t with
  | nm s =>
    rw [TrV] at h
    rw [h.1]
    exact ⟨_, .str s, by decide, rfl⟩
  | nd n r ks =>
    rw [TrV] at h
    obtain ⟨_, a, b, c, xs, rfl, h2, _⟩ := h
    exact ⟨_, .tup h2, by decide, rfl⟩
def sp_isn : Sp := fun vs H Q _ => ∃ t x, vs = [x] ∧ TrV H t x ∧ Q (.bl (isNm t)) H
theorem ok_is_name (T : Txt K mg) : Def P w K mg base 1 "is_name" ["tree"] sp_isn := by
  refine T.t_is_name.ok sc_is_name (fun vs H Q E h => ?_) fun f cdv A outer s H vs Q E hr h => ?_
  · obtain ⟨t, x, rfl, _⟩ := h
    rfl
  · obtain ⟨t, x, rfl, tv, q⟩ := h
    refine ⟨_, (pss_one (ps_ret (pe_callB (call_isi K) rfl T.b_isinstance bt_isinstance (pa_2 (pv 0) (pe_ty rfl T.b_str bt_str))))), ?_⟩
    obtain ⟨n, h1, h2, h3⟩ := tv.ty (K := K)
    refine ⟨_, rfl, _, _, n, rfl, h1, h2, by decide, ?_⟩
    rw [h3]
    exact q
def sp_hgt (n : Nat) : Sp := fun vs H Q _ => ∃ t x, vs = [x] ∧ TrV H t x ∧ BuT t ∧ htT t < n ∧ ∀ H', Same H H' → Q (.int (htT t)) H'
theorem ok_height (T : Txt K mg) : ∀ n : Nat, Def P w K mg base (n + 1) "height" ["tree"] (sp_hgt n)
  | 0 => T.t_height.ok sc_height (fun vs H Q E h => by obtain ⟨t, x, rfl, _⟩ := h; rfl) fun f cdv A outer s H vs Q E hr h => by
    obtain ⟨t, x, _, _, _, h, _⟩ := h
    omega
  | n + 1 => by
    have ih := ok_height T n
    refine T.t_height.ok sc_height (fun vs H Q E h => ?_) fun f cdv A outer s H vs Q E hr h => ?_
    · obtain ⟨t, x, rfl, _⟩ := h
      rfl
    · obtain ⟨t, x, rfl, tv, bu, hn, q⟩ := h
      refine ⟨_, (pss_2
      (ps_if (pt_val (pe_def (hkk := Nat.succ_le_succ (Nat.zero_le _)) (ok_is_name T) hr rfl (pa_1 (pv 0)))) (pss_one (ps_ret pe_int)) pss_nil)
      (ps_ret (pe_op op_add pe_int (pe_maxD K rfl rfl T.b_max bt_max (pa_1 (pe_comp (N := ["kid"]) (caps := [none]) rfl (by with_unfolding_all rfl) (pi_tupK K (pe_ix (ix_tupK K) (pv 0) pe_int (fun _ _ => rfl))) (fun _ _ _ _ _ => (pg_name (i := 0) (show (["kid"] : List Str).Nodup by decide +kernel) rfl (Or.inl rfl))) (fun _ _ _ _ _ => pf_nil) (fun _ _ _ _ _ => (pe_def (hkk := Nat.le_refl _) ih hr rfl (pa_1 (pv 0)))))) (pk_cons pe_int pk_nil))))), ?_⟩
      refine ⟨_, rfl, t, x, rfl, tv, _, rfl, ?_⟩
      cases t with
      | nm z =>
        rw [htT] at q
        exact iteT (q _ (Same.refl _))
      | nd m r ks =>
        refine iteF ?_
        rw [TrV] at tv
        obtain ⟨_, a, b, c, xs, rfl, h2, h3, h4, h5⟩ := tv
        rw [htT] at q hn
        rw [BuT] at bu
        have lk := h5.len
        refine ⟨_, rfl, _, _, _, _, rfl, rfl, SqT.of h2, rfl, c, rfl, ⟨_, SqT.of h4⟩, fun D hD => ?_⟩
        refine comp_by xs.length (fun i σ' H' => (∃ v, σ' = [v]) ∧ Same H H' ∧ H' D = some (.lst (((ks.take i).map fun t => (htT t : Int)).map V.int))) ⟨⟨_, rfl⟩, same_upd hD, upd_same⟩ (fun i σ' H' hi p => ?_) (fun σ' H' p => ⟨?_, ?_⟩) (fun i σ' H' hi p x H2 y => ?_)
        · obtain ⟨_, sm, _⟩ := p
          exact ⟨_, xs[i], SqT.of (sm _ _ h4), List.getElem?_eq_getElem hi⟩
        · obtain ⟨_, sm, _⟩ := p
          exact ⟨_, SqT.of (sm _ _ h4), Nat.le_refl _⟩
        · obtain ⟨_, sm, e⟩ := p
          rw [← lk, List.take_length] at e
          refine ⟨D, _, 0, rfl, rfl, SqL.of e, _, _, rfl, rfl, ?_⟩
          rw [ht_top]
          have e2 : ((htTs ks + 1 : Nat) : Int) = 1 + (htTs ks : Int) := by omega
          show Q (V.int (1 + (htTs ks : Int))) H'
          rw [← e2]
          exact q _ sm
        · obtain ⟨⟨v, rfl⟩, sm, e⟩ := p
          obtain ⟨rfl, hx⟩ := y
          have hx' := hx _ (SqT.of (sm _ _ h4))
          obtain ⟨t, ht, tv⟩ := h5.get hx'
          have hm := List.mem_of_getElem? ht
          have := ht_le hm
          refine ⟨_, rfl, t, x, rfl, tv.same sm, bu_in bu.2 hm, by omega, fun H3 s3 => ?_⟩
          refine ⟨_, s3 _ _ e, small1000 (by rw [List.length_map, List.length_map, List.length_take]; omega), ⟨_, rfl⟩, (sm.trans s3).set hD, ?_⟩
          rw [upd_same, List.take_succ, ht, List.map_append, List.map_append]
          rfl
theorem ok__law_height (T : Txt K mg) : ∀ n : Nat, Def P w K mg base (n + 1) "_law_height" ["_law_tree"] (sp_hgt n)
  | 0 => T.t__law_height.ok sc__law_height (fun vs H Q E h => by obtain ⟨t, x, rfl, _⟩ := h; rfl) fun f cdv A outer s H vs Q E hr h => by
    obtain ⟨t, x, _, _, _, h, _⟩ := h
    omega
  | n + 1 => by
    have ih := ok__law_height T n
    refine T.t__law_height.ok sc__law_height (fun vs H Q E h => ?_) fun f cdv A outer s H vs Q E hr h => ?_
    · obtain ⟨t, x, rfl, _⟩ := h
      rfl
    · obtain ⟨t, x, rfl, tv, bu, hn, q⟩ := h
      refine ⟨_, (pss_4
      (ps_if (pt_val (pe_callB (call_isi K) rfl T.b_isinstance bt_isinstance (pa_2 (pv 0) (pe_ty rfl T.b_str bt_str)))) (pss_one (ps_ret pe_int)) pss_nil)
      (ps_set (i := 1) sc__law_height.nd rfl (Or.inl rfl) pe_int)
      (ps_for PassesOwn.never rfl (pi_tupK K (pe_ix (ix_tupK K) (pv 0) pe_int (fun _ _ => rfl))) (pg_name (i := 2) sc__law_height.nd rfl (Or.inl rfl)) (pss_one (ps_set (i := 1) sc__law_height.nd rfl (Or.inl rfl) (pe_callB (call_max2 rfl) rfl T.b_max bt_max (pa_2 (pv 1) (pe_def (hkk := Nat.le_refl _) ih hr rfl (pa_1 (pv 2))))))))
      (ps_ret (pe_op op_add (pv 1) pe_int))), ?_⟩
      obtain ⟨tn, t1, t2, t3⟩ := tv.ty (K := K)
      refine ⟨_, rfl, _, _, tn, rfl, t1, t2, by decide, _, rfl, ?_⟩
      rw [t3]
      cases t with
      | nm z =>
        rw [htT] at q
        exact iteT (q _ (Same.refl _))
      | nd m r ks =>
        refine iteF ?_
        rw [TrV] at tv
        obtain ⟨_, a, b, c, xs, rfl, h2, h3, h4, h5⟩ := tv
        rw [htT] at q hn
        rw [BuT] at bu
        have lk := h5.len
        refine ⟨_, rfl, _, _, _, _, rfl, rfl, SqT.of h2, rfl, c, rfl, ⟨_, SqT.of h4⟩, for_tup (xs := xs) (fun i σ H' => ∃ v : Option V, σ = [some (.ref a), some (.int (htTs (ks.take i))), v] ∧ Same H H') ⟨none, by rw [List.take_zero, htTs]; rfl, Same.refl _⟩ (fun i σ H' _ z => by obtain ⟨_, _, z⟩ := z; exact SqT.of (z _ _ h4)) ?_ ?_⟩
        · rintro i x σ H1 hx ⟨v, rfl, sm⟩
          obtain ⟨t, ht, tv⟩ := h5.get hx
          have hm := List.mem_of_getElem? ht
          have := ht_le hm
          refine ⟨_, rfl, _, rfl, t, x, rfl, tv.same sm, bu_in bu.2 hm, by omega, fun H3 s3 => ?_⟩
          refine ⟨_, _, rfl, ?_⟩
          refine ⟨some x, ?_, sm.trans s3⟩
          have e : ks.take (i + 1) = ks.take i ++ [t] := by rw [List.take_succ, ht]; rfl
          rw [e, hts_snoc]
          have e2 : (if (htT t : Int) > (htTs (ks.take i) : Int) then (htT t : Int) else (htTs (ks.take i) : Int)) = ((max (htTs (ks.take i)) (htT t) : Nat) : Int) := by
            split <;> omega
          rw [← e2]
          rfl
        · rintro σ H1 ⟨v, rfl, sm⟩
          rw [← lk, List.take_length]
          exact ⟨_, rfl, _, _, rfl, rfl, q _ sm⟩
end
end Wy
namespace Wy
open PySem L2
section
variable {P : Program} {w : World} {K : PySem.W.Frag} {mg : Str → Option Value} {base : Heap}
def sp_lvs (n : Nat) : Sp := fun vs H Q _ => ∃ t x, vs = [x] ∧ TrV H t x ∧ BuT t ∧ htT t < n ∧ n ≤ 9 ∧ ∀ p H', Same H H' → H p = none → H' p = some (.lst ((lvT t).map V.str)) → Q (.ref p) H'
theorem ok__law_leaves (T : Txt K mg) : ∀ n : Nat, Def P w K mg base (n + 1) "_law_leaves" ["_law_tree"] (sp_lvs n)
  | 0 => T.t__law_leaves.ok sc__law_leaves (fun vs H Q E h => by obtain ⟨t, x, rfl, _⟩ := h; rfl) fun f cdv A outer s H vs Q E hr h => by
    obtain ⟨t, x, _, _, _, h, _⟩ := h
    omega
  | n + 1 => by
    have ih := ok__law_leaves T n
    refine T.t__law_leaves.ok sc__law_leaves (fun vs H Q E h => ?_) fun f cdv A outer s H vs Q E hr h => ?_
    · obtain ⟨t, x, rfl, _⟩ := h
      rfl
    · obtain ⟨t, x, rfl, tv, bu, hn, n9, q⟩ := h
      refine ⟨_, (pss_4
      (ps_if (pt_val (pe_callB (call_isi K) rfl T.b_isinstance bt_isinstance (pa_2 (pv 0) (pe_ty rfl T.b_str bt_str)))) (pss_one (ps_ret (pe_lst (pa_1 (pv 0))))) pss_nil)
      (ps_set (i := 1) sc__law_leaves.nd rfl (Or.inl rfl) (pe_lst pa_nil))
      (ps_for PassesOwn.never rfl (pi_tupK K (pe_ix (ix_tupK K) (pv 0) pe_int (fun _ _ => rfl))) (pg_name (i := 2) sc__law_leaves.nd rfl (Or.inl rfl)) (pss_one (ps_set (i := 1) sc__law_leaves.nd rfl (Or.inl rfl) (pe_op op_cat (pv 1) (pe_def (hkk := Nat.le_refl _) ih hr rfl (pa_1 (pv 2)))))))
      (ps_ret (pv 1))), ?_⟩
      obtain ⟨tn, t1, t2, t3⟩ := tv.ty (K := K)
      refine ⟨_, rfl, _, _, tn, rfl, t1, t2, by decide, _, rfl, ?_⟩
      rw [t3]
      have big := Nat.le_trans (lv_nd t) (Nat.le_trans (nd_bound t bu) (Nat.pow_le_pow_right (by decide) (show htT t + 1 ≤ 9 by omega)))
      have sz : 5 ^ 9 ≤ sizeLine := by decide
      cases t with
      | nm z =>
        rw [TrV] at tv
        rw [tv.1]
        rw [lvT] at q
        exact iteT ⟨_, rfl, by show 1 ≤ sizeLine; decide, fun l hl => q l _ (same_upd hl) hl upd_same⟩
      | nd m r ks =>
        refine iteF ?_
        rw [TrV] at tv
        obtain ⟨_, a, b, c, xs, rfl, h2, h3, h4, h5⟩ := tv
        rw [lvT] at q big
        rw [htT] at hn
        rw [BuT] at bu
        have lk := h5.len
        refine ⟨by show 0 ≤ sizeLine; decide, fun D hD => ?_⟩
        have u1 := same_upd (o := HO.lst []) hD
        refine ⟨_, rfl, _, _, _, _, rfl, rfl, SqT.of (u1 _ _ h2), rfl, c, rfl, ⟨_, SqT.of (u1 _ _ h4)⟩, for_tup (xs := xs) (fun i σ H' => ∃ (v : Option V) (p : Addr), σ = [some (.ref a), some (.ref p), v] ∧ Same H H' ∧ H p = none ∧ H' p = some (.lst ((lvTs (ks.take i)).map V.str))) ⟨none, D, rfl, u1, hD, by rw [List.take_zero, lvTs]; exact upd_same⟩ (fun i σ H' _ z => by obtain ⟨_, _, _, z, _⟩ := z; exact SqT.of (z _ _ h4)) ?_ ?_⟩
        · rintro i x σ H1 hx ⟨v, p, rfl, sm, hp, e⟩
          obtain ⟨t, ht, tv⟩ := h5.get hx
          have hm := List.mem_of_getElem? ht
          have hle := ht_le hm
          refine ⟨_, rfl, _, rfl, t, x, rfl, tv.same sm, bu_in bu.2 hm, by omega, by omega, fun p2 H3 s3 hp2 e2 => ?_⟩
          have ek : ks.take (i + 1) = ks.take i ++ [t] := by rw [List.take_succ, ht]; rfl
          have el : lvTs (ks.take (i + 1)) = lvTs (ks.take i) ++ lvT t := by rw [ek, lvTs_app, lvTs, lvTs, List.append_nil]
          have le : (lvTs (ks.take (i + 1))).length ≤ (lvTs ks).length := by
            conv => rhs; rw [← List.take_append_drop (i + 1) ks, lvTs_app, List.length_append]
            omega
          rw [el, List.length_append] at le
          refine ⟨p, p2, _, _, rfl, rfl, s3 _ _ e, e2, by rw [List.length_map, List.length_map]; omega, fun p4 hp4 => ?_⟩
          have s13 := sm.trans s3
          refine ⟨_, p4, rfl, s13.trans (same_upd hp4), s13.free hp4, ?_⟩
          rw [upd_same, el, List.map_append]
        · rintro σ H1 ⟨v, p, rfl, sm, hp, e⟩
          rw [← lk, List.take_length] at e
          exact ⟨_, rfl, q p _ sm hp e⟩
def sp_leaves : Sp := fun vs H Q _ => ∃ t x, vs = [x] ∧ TrV H t x ∧ BuT t ∧ htT t ≤ 7 ∧ ∀ p H', Same H H' → H' p = some (.tup ((Tim.srt strLt (lvT t)).map V.str)) → Q (.ref p) H'
theorem ok_leaves (T : Txt K mg) : Def P w K mg base 2 "leaves" ["tree"] sp_leaves := by
  refine T.t_leaves.ok sc_leaves (fun vs H Q E h => ?_) fun f cdv A outer s H vs Q E hr h => ?_
  · obtain ⟨t, x, rfl, _⟩ := h
    rfl
  · obtain ⟨t, x, rfl, tv, bu, h7, q⟩ := h
    have big := Nat.le_trans (nd_bound t bu) (Nat.pow_le_pow_right (by decide) (show htT t + 1 ≤ 8 by omega))
    have big : ndT t ≤ 400000 := Nat.le_trans big (by decide)
    refine ⟨_, (pss_4
      (ps_set (i := 1) sc_leaves.nd rfl (Or.inl rfl) (pe_lst pa_nil))
      (ps_set (i := 2) sc_leaves.nd rfl (Or.inl rfl) (pe_lst (pa_1 (pv 0))))
      (ps_while PassesOwn.never (pt_cmpR op_gt (pe_callB (call_lenK K) rfl T.b_len bt_len (pa_1 (pv 2))) pe_int (nomark _)) (pss_2
      (ps_set (i := 3) sc_leaves.nd rfl (Or.inl rfl) (pe_bm0 PySem.F.plainAttrs_list PySem.F.slot_list_pop PySem.F.type_list_pop mt_pop (pv 2)))
      (ps_if (pt_val (pe_def (ok_is_name T) hr rfl (pa_1 (pv 3)))) (pss_one (ps_expr (pe_bm PySem.F.plainAttrs_list PySem.F.slot_list_append PySem.F.type_list_append mt_append (pv 1) (pa_1 (pv 3))))) (pss_one (ps_expr (pe_bm PySem.F.plainAttrs_list PySem.F.slot_list_extend PySem.F.type_list_extend (mt_extendT K) (pv 2) (pa_1 (pe_ix (ix_tupK K) (pv 3) pe_int (fun _ _ => rfl)))))))))
      (ps_ret (pe_callTy (call_tupleK K) rfl T.b_tuple bt_tuple (pa_1 (pe_callB (call_sortedS K) rfl T.b_sorted bt_sorted (pa_1 (pv 1))))))), ?_⟩
    refine ⟨by show 0 ≤ sizeLine; decide, fun F hF => ?_⟩
    have u1 := same_upd (o := HO.lst []) hF
    refine ⟨_, rfl, by show 1 ≤ sizeLine; decide, fun D hD => ?_⟩
    have u2 := same_upd (o := HO.lst [x]) hD
    have hDF : D ≠ F := fun e => by rw [e, upd_same] at hD; cases hD
    have hD0 : H D = none := u1.free hD
    refine ⟨fun mm σ H' => ∃ (v : Option V) (fs : List Str) (ws : List Tr) (xs : List V), σ = [some x, some (.ref F), some (.ref D), v] ∧ Same H H' ∧ H' F = some (.lst (fs.map V.str)) ∧ H' D = some (.lst xs) ∧ TrVs H ws xs ∧ (fs ++ lvTs ws).Perm (lvT t) ∧ mm = ndTs ws ∧ fs.length + ndTs ws ≤ 400000,
      ⟨ndT t, none, [], [t], [x], rfl, u1.trans u2, u2 _ _ upd_same, upd_same, TrVs.one tv, by rw [lvTs, lvTs, List.append_nil]; exact .refl _, by rw [ndTs, ndTs]; rfl, by rw [ndTs, ndTs]; show 0 + (ndT t + 0) ≤ 400000; omega⟩, ?_⟩
    rintro mm σ H1 ⟨v, fs, ws, xs, rfl, sm, eF, eD, hw, hp, hmm, hb⟩
    have lw := hw.len
    have ln := ndTs_len ws
    refine ⟨_, rfl, _, _, rfl, .inl ⟨_, SqL.of eD, rfl⟩, _, _, rfl, rfl, _, rfl, ite2 (fun h1 => ?_) (fun h1 => ?_)⟩
    · have hne : xs ≠ [] := fun z => by
        rw [z] at h1
        exact absurd h1 (by decide)
      obtain ⟨us, u, ys, y, rfl, rfl, hus, hu⟩ := hw.last hne
      refine ⟨fun σ' G => ∃ m', m' < mm ∧ ∃ (v : Option V) (fs : List Str) (ws : List Tr) (xs : List V), σ' = [some x, some (.ref F), some (.ref D), v] ∧ Same H G ∧ G F = some (.lst (fs.map V.str)) ∧ G D = some (.lst xs) ∧ TrVs H ws xs ∧ (fs ++ lvTs ws).Perm (lvT t) ∧ m' = ndTs ws ∧ fs.length + ndTs ws ≤ 400000, fun _ _ z => z, ?_⟩
      refine ⟨_, rfl, .inl ⟨rfl, _, SqL.of eD⟩, _, _, y, rfl, rfl, eD, by simp, ?_⟩
      rw [List.dropLast_concat]
      have s4 : Same H (upd H1 D (.lst ys)) := sm.set hD0
      have eD4 := upd_same (H := H1) (a := D) (o := HO.lst ys)
      have eF4 : upd H1 D (.lst ys) F = some (.lst (fs.map V.str)) := by rw [upd_ne hDF.symm]; exact eF
      have lf : fs.length ≤ 400000 := by omega
      rw [ndTs_app, ndTs, ndTs] at hmm hb
      rw [lvTs_app, lvTs, lvTs, List.append_nil] at hp
      generalize upd H1 D (.lst ys) = G at *
      refine ⟨_, rfl, u, y, rfl, hu.same s4, _, rfl, ?_⟩
      cases u with
      | nm z =>
        rw [TrV] at hu
        rw [hu.1]
        rw [ndT] at hmm hb
        rw [lvT] at hp
        refine iteT ⟨_, rfl, .inl ⟨rfl, _, SqL.of eF4⟩, _, rfl, _, _, _, rfl, rfl, eF4, small1000000 (by rw [List.length_map]; omega), ?_⟩
        refine ⟨ndTs us, by omega, _, fs ++ [z], us, ys, rfl, s4.set hF, by rw [upd_same, List.map_append]; rfl, by rw [upd_ne hDF]; exact eD4, hus, ?_, rfl, by rw [List.length_append]; show fs.length + 1 + _ ≤ _; omega⟩
        refine List.Perm.trans ?_ hp
        rw [List.append_assoc]
        exact List.perm_append_comm.append_left fs
      | nd m r ks =>
        rw [TrV] at hu
        obtain ⟨_, a, b, c, zs, rfl, h2, h3, h4, h5⟩ := hu
        rw [ndT] at hmm hb
        rw [lvT] at hp
        have lk := h5.len
        have lk2 := ndTs_len ks
        have ly := hus.len
        have lu := ndTs_len us
        refine iteF ⟨_, rfl, .inl ⟨rfl, _, SqL.of eD4⟩, _, rfl, _, _, _, _, rfl, rfl, SqT.of (s4 _ _ h2), rfl, D, c, ys, zs, rfl, rfl, eD4, SqT.of (s4 _ _ h4), Nat.le_trans (show ys.length + zs.length ≤ 400000 by omega) (by decide), ?_⟩
        refine ⟨ndTs (us ++ ks), by rw [ndTs_app]; omega, _, fs, us ++ ks, ys ++ zs, rfl, s4.set hD0, by rw [upd_ne hDF.symm]; exact eF4, upd_same, hus.app h5, by rw [lvTs_app]; exact hp, rfl, by rw [ndTs_app]; omega⟩
    · have hx0 : xs = [] := by
        cases xs with
        | nil => rfl
        | cons y ys => exact absurd (decide_eq_true (by rw [List.length_cons]; omega)) h1
      subst hx0
      have : ws = [] := List.length_eq_zero_iff.mp lw
      subst this
      rw [lvTs, List.append_nil] at hp
      have es : Tim.srt strLt fs = Tim.srt strLt (lvT t) := Tim.srt_eq sto_str ((Tim.srt_perm strLt fs).trans hp) (Tim.srt_asc sto_str fs)
      refine ⟨_, rfl, F, fs, rfl, .inl (SqL.of eF), fun l hl => ?_⟩
      have u3 := same_upd (o := HO.lst ((Tim.srt strLt fs).map V.str)) hl
      refine ⟨l, _, rfl, .inl ⟨SqL.of upd_same, fun p hp => ?_⟩⟩
      rw [← es] at q
      exact q p _ (sm.trans (u3.trans (same_upd hp))) upd_same
end
end Wy
namespace Wy
open PySem L2
section
variable {P : Program} {w : World} {K : PySem.W.Frag} {mg : Str → Option Value} {base : Heap}
theorem at_last (ys : List V) (y : V) : atI (ys ++ [y]) (-1) = some y := by
  unfold atI ixN
  rw [List.length_append]
  simp
  rw [if_pos (by omega), show (-1 + ((ys.length : Int) + 1)).toNat = ys.length by omega]
  simp
def sp_grown : Sp := fun vs H Q _ => ∃ (fa na va : Addr) (ts : List Tr) (xs : List V) (c : Int) (ws : List Str) (vl : List V) (tw : Bool) (k : Nat), vs = [.ref fa, .int c, .ref na, .ref va, .bl tw] ∧ H fa = some (.lst xs) ∧ TrVs H ts xs ∧ H na = some (.lst (ws.map V.str)) ∧ ws.length = 9 ∧ (∀ z ∈ ws, PyData.strOk z = true) ∧ H va = some (.lst vl) ∧ vl.length = 3 ∧ (∀ v ∈ vl, VlV v) ∧ BuTs ts ∧ htTs ts ≤ 7 ∧ ts.length ≤ k ∧ k ≤ 62 ∧
  ∀ p (us : List Tr) (ys : List V) H', Same H H' → H' p = some (.lst ys) → TrVs H' us ys → BuTs us → htTs us ≤ 7 → us.length ≤ k + 1 → Q (.ref p) H'
theorem ok__law_grown (T : Txt K mg) : Def P w K mg base 12 "_law_grown" ["_law_forest", "_law_cell", "_law_names", "_law_values_here", "_law_twice"] sp_grown := by
  refine T.t__law_grown.ok sc__law_grown (fun vs H Q E h => ?_) fun f cdv A outer s H vs Q E hr h => ?_
  · obtain ⟨fa, na, va, ts, xs, c, ws, vl, tw, k, rfl, _⟩ := h
    rfl
  · obtain ⟨fa, na, va, ts, xs, c, ws, vl, tw, k, rfl, hfa, hts, hna, lws, ows, hva, lvl, ovl, bts, hts7, lts, k62, q⟩ := h
    have lx := hts.len
    refine join_at 5 (fun σ H' => ∃ (sa ra ka : Addr) (is : List Int) (r : List V) (ks : List Tr) (zs : List V) (m : Int), σ = [some (.ref fa), some (.int c), some (.ref na), some (.ref va), some (.bl tw), some (.ref sa), some (.int m), some (.ref ra), some (.ref ka), none] ∧ Same H H' ∧ H' sa = some (.lst (is.map V.int)) ∧ is.length = 24 ∧ H' ra = some (.tup r) ∧ (∀ v ∈ r, VlV v) ∧ (0 ≤ m ∧ m ≤ (xs.length : Int)) ∧ H' ka = some (.lst zs) ∧ TrVs H' ks zs ∧ ks.length ≤ 4 ∧ BuTs ks ∧ htTs ks ≤ 7) ⟨_, (pss_3
      (ps_set (i := 9) sc__law_grown.nd rfl (Or.inl rfl) (pe_tup (pa_3 (pe_op op_mod (pe_op op_fdiv (pv 1) pe_int) (pe_op op_pow pe_int pe_int)) (pv 7) (pe_callTy (call_tupleK K) rfl T.b_tuple bt_tuple (pa_1 (pv 8))))))
      (ps_if (PW.pt (pw_or (pt_cmpR op_eq (pe_op op_mod (pe_ix (ix_listK K) (pv 5) pe_int (fun _ _ => rfl)) pe_int) pe_int (nomark _)) (pw_or (pt_cmpR op_gt (pe_def (ok__law_height T 9) hr rfl (pa_1 (pv 9))) pe_int (nomark _)) (pw_or1 (pt_cmpR op_gt (pe_callB (call_lenK K) rfl T.b_len bt_len (pa_1 (pe_def (ok__law_leaves T 9) hr rfl (pa_1 (pv 9))))) pe_int (nomark _)))))) (pss_one (ps_ret (pe_op op_cat (pv 0) (pe_lst (pa_1 (pe_ix (ix_listK K) (pv 2) (pe_op op_mod (pe_ix (ix_listK K) (pv 5) pe_int (fun _ _ => rfl)) pe_int) (fun _ _ => rfl))))))) pss_nil)
      (ps_ret (pe_op op_cat (pe_slice (sl_listK K) (pv 0) po_none (po_some (pe_op op_sub (pe_callB (call_lenK K) rfl T.b_len bt_len (pa_1 (pv 0))) (pv 6)))) (pe_lst (pa_1 (pv 9)))))), ?_⟩ (fun u hu hC => ⟨_, (psr_5
      (ps_set (i := 5) sc__law_grown.nd rfl (Or.inr rfl) (pe_def (ok__law_stream T) hr rfl (pa_2 (pv 1) (pe_callB (call_lenK K) rfl T.b_len bt_len (pa_1 (pv 0))))))
      (ps_set (i := 6) sc__law_grown.nd rfl (Or.inl rfl) (pe_callB (call_min2 rfl) rfl T.b_min bt_min (pa_2 (pe_op op_mod (pe_ix (ix_listK K) (pv 5) pe_int (fun _ _ => rfl)) pe_int) (pe_callB (call_lenK K) rfl T.b_len bt_len (pa_1 (pv 0))))))
      (ps_set (i := 7) sc__law_grown.nd rfl (Or.inl rfl) (pe_callTy (call_tupleK K) rfl T.b_tuple bt_tuple (pa_1 (pe_comp (N := ["_law_j", "_law_values_here", "_law_s"]) (caps := [none, some 3, some 5]) rfl (by with_unfolding_all rfl) (pi_range1 rfl T.b_range (pa_1 (pe_op op_mod (pe_ix (ix_listK K) (pv 5) pe_int (fun _ _ => rfl)) pe_int))) (fun _ _ _ _ _ => (pg_name (i := 0) (show (["_law_j", "_law_values_here", "_law_s"] : List Str).Nodup by decide +kernel) rfl (Or.inl rfl))) (fun _ _ _ _ _ => pf_nil) (fun _ _ _ _ _ => (pe_ix (ix_listK K) (pv 1) (pe_op op_mod (pe_ix (ix_listK K) (pv 2) (pe_op op_add pe_int (pv 0)) (fun _ _ => rfl)) pe_int) (fun _ _ => rfl)))))))
      (ps_set (i := 8) sc__law_grown.nd rfl (Or.inl rfl) (pe_slice (sl_listK K) (pv 0) (po_some (pe_op op_sub (pe_callB (call_lenK K) rfl T.b_len bt_len (pa_1 (pv 0))) (pv 6))) po_none))
      (ps_if (PW.pt (pw_and (pt_val (pv 4)) (pw_and (pt_cmpR (op_neD hr.units K) (pv 8) (pe_lst pa_nil) (nomark _)) (pw_and1 (pt_cmpR op_lt (pe_callB (call_lenK K) rfl T.b_len bt_len (pa_1 (pe_def (ok__law_leaves T 9) hr rfl (pa_1 (pe_ix (ix_listK K) (pv 8) (pe_un un_neg pe_int) (fun _ _ => rfl)))))) pe_int (nomark _)))))) (pss_one (ps_expr (pe_bm PySem.F.plainAttrs_list PySem.F.slot_list_append PySem.F.type_list_append mt_append (pv 8) (pa_1 (pe_ix (ix_listK K) (pv 8) (pe_un un_neg pe_int) (fun _ _ => rfl)))))) pss_nil)
      hu), ?_⟩)
    · rintro σ H1 ⟨sa, ra, ka, is, r, ks, zs, m, rfl, sm, hsa, lis, hra, orr, ⟨m0, m1⟩, hka, hks, lks, bks, hks7⟩
      have a2 : atI (is.map V.int) 2 = some (V.int (is.getD 2 0)) := at_ints (k := 2) (by omega)
      have a3 : atI (is.map V.int) 3 = some (V.int (is.getD 3 0)) := at_ints (k := 3) (by omega)
      generalize is.getD 2 0 = i2 at *
      generalize is.getD 3 0 = i3 at *
      refine ⟨_, rfl, _, _, rfl, rfl, ⟨by decide, by decide⟩, _, _, rfl, rfl, ⟨by decide, by decide, by decide⟩, _, _, rfl, rfl, (by show (0 : Int) < 10 ^ 30; decide), _, rfl, _, rfl, ka, zs, rfl, .inl ⟨SqL.of hka, fun kt hkt => ?_⟩⟩
      have u1 := same_upd (o := HO.tup zs) hkt
      refine ⟨by show 3 ≤ sizeLine; decide, fun t ht => ?_⟩
      have u2 := same_upd (o := HO.tup [.int (c / 9 % 10 ^ 30), .ref ra, .ref kt]) ht
      have u12 := u1.trans u2
      have tvT : TrV (upd (upd H1 kt (.tup zs)) t (.tup [.int (c / 9 % 10 ^ 30), .ref ra, .ref kt])) (.nd (c / 9 % 10 ^ 30) r ks) (.ref t) := by
        rw [TrV]
        exact ⟨orr, t, ra, kt, zs, rfl, upd_same, u12 _ _ hra, u2 _ _ upd_same, hks.same u12⟩
      have buT : BuT (.nd (c / 9 % 10 ^ 30) r ks) := by
        rw [BuT]
        exact ⟨lks, bks⟩
      have htE : htT (.nd (c / 9 % 10 ^ 30) r ks) = htTs ks + 1 := by rw [htT]
      have sA := sm.trans u12
      generalize Tr.nd (c / 9 % 10 ^ 30) r ks = tree at *
      have hsaG := u12 _ _ hsa
      have hw9 : ∃ z, atI (ws.map V.str) (i3 % 9) = some (V.str z) ∧ PyData.strOk z = true := by
        obtain ⟨v, hv, hm⟩ := atI_in (xs := ws.map V.str) (i := i3 % 9) (Int.emod_nonneg _ (by decide)) (by rw [List.length_map, lws]; exact Int.emod_lt_of_pos _ (by decide))
        obtain ⟨z, hz, rfl⟩ := List.mem_map.mp hm
        exact ⟨z, hv, ows z hz⟩
      obtain ⟨z9, hat9, ok9⟩ := hw9
      have ret1 : ∀ F : Hp, Same (upd (upd H1 kt (.tup zs)) t (.tup [.int (c / 9 % 10 ^ 30), .ref ra, .ref kt])) F → ∀ D : Ends, D.rt = Q → tRet (tOp rCat (tVar 0) (tLst (tCons (tOp (rIxL K) (tVar 2) (tOp (rI (fun x j => 0 < j) fun i j => V.int (i % j)) (tOp (rIxL K) (tVar 5) (tC (V.int 3))) (tC (V.int 9)))) tNil))) D [some (.ref fa), some (.int c), some (.ref na), some (.ref va), some (.bl tw), some (.ref sa), some (.int m), some (.ref ra), some (.ref ka), some (.ref t)] F := fun F sF D hD => by
        have sB := sA.trans sF
        refine ⟨_, rfl, _, rfl, _, rfl, _, _, _, _, rfl, rfl, SqL.of (sF _ _ hsaG), a3, _, _, rfl, rfl, (by show (0 : Int) < 9; decide), _, _, _, _, rfl, rfl, SqL.of (sB _ _ hna), hat9, by show 1 ≤ sizeLine; decide, fun l hl => ?_⟩
        have v1 := same_upd (o := HO.lst [V.str z9]) hl
        refine ⟨fa, l, _, _, rfl, rfl, v1 _ _ (sB _ _ hfa), upd_same, Nat.le_of_lt (small1000000 (by show xs.length + 1 < _; omega)), fun p hp => ?_⟩
        have sC := sB.trans (v1.trans (same_upd (o := HO.lst (xs ++ [V.str z9])) hp))
        rw [hD]
        refine q p (ts ++ [.nm z9]) (xs ++ [.str z9]) _ sC upd_same ((hts.same sC).app (TrVs.one (by rw [TrV]; exact ⟨rfl, ok9⟩))) (bus_of fun y hy => ?_) (hts_of fun y hy => ?_) (by rw [List.length_append]; show ts.length + 1 ≤ _; omega)
        · rcases List.mem_append.mp hy with hy | hy
          · exact bu_in bts hy
          · rw [List.mem_singleton.mp hy, BuT]
            trivial
        · rcases List.mem_append.mp hy with hy | hy
          · exact Nat.le_trans (ht_le hy) hts7
          · rw [List.mem_singleton.mp hy, htT]
            omega
      refine ⟨_, rfl, _, _, _, _, rfl, rfl, SqL.of hsaG, a2, _, _, rfl, rfl, (by show (0 : Int) < 3; decide), rfl, _, rfl, ite2 (fun _ => iteT (ret1 _ (Same.refl _) _ rfl)) (fun _ => ?_)⟩
      refine ⟨_, rfl, tree, _, rfl, tvT, buT, by omega, fun H4 s4 => ⟨_, _, rfl, rfl, _, rfl, ite2 (fun _ => iteT (ret1 _ s4 _ rfl)) (fun h7 => ?_)⟩⟩
      have hT7 : htT tree ≤ 7 := by
        apply Classical.byContradiction
        intro z
        exact h7 (decide_eq_true (by show (7 : Int) < (htT tree : Int); omega))
      refine ⟨_, rfl, tree, _, rfl, tvT.same s4, buT, by omega, by decide, fun p5 H5 s5 hp5 e5 => ⟨_, _, rfl, .inl ⟨_, SqL.of e5, rfl⟩, _, _, rfl, rfl, _, rfl, ite2 (fun _ => ret1 _ (s4.trans s5) _ rfl) (fun _ => ?_)⟩⟩
      have s45 := s4.trans s5
      have sB := sA.trans s45
      have hfa5 := sB _ _ hfa
      refine ⟨_, rfl, _, rfl, _, _, rfl, .inl ⟨_, SqL.of hfa5, rfl⟩, _, rfl, _, _, rfl, rfl, _, rfl, _, _, rfl, SqL.of hfa5, fun l hl => ?_⟩
      rw [cut_upto _ (show 0 ≤ (xs.length : Int) - m by omega)]
      generalize hj : ((xs.length : Int) - m).toNat = j
      have v1 := same_upd (o := HO.lst (xs.take j)) hl
      refine ⟨_, rfl, by show 1 ≤ sizeLine; decide, fun l2 hl2 => ?_⟩
      have v2 := same_upd (o := HO.lst [V.ref t]) hl2
      refine ⟨l, l2, _, _, rfl, rfl, v2 _ _ upd_same, upd_same, Nat.le_of_lt (small1000000 (by rw [List.length_take]; show _ + 1 < _; omega)), fun p hp => ?_⟩
      have sC := v1.trans (v2.trans (same_upd (o := HO.lst (xs.take j ++ [V.ref t])) hp))
      have sD := sB.trans sC
      have hh : ∀ F, Same H F → TrVs F (ts.take (xs.take j).length) (xs.take j) := fun F sF => (TrVs.parts (H := F) (ts := ts) (xs := xs.take j) (ys := xs.drop j) (by rw [List.take_append_drop]; exact hts.same sF)).1
      have h1 := hh _ sD
      refine q p _ _ _ sD upd_same (h1.app (TrVs.one (tvT.same (s45.trans sC)))) (bus_of fun y hy => ?_) (hts_of fun y hy => ?_) (by rw [List.length_append, List.length_take]; show _ + 1 ≤ _; omega)
      · rcases List.mem_append.mp hy with hy | hy
        · exact bu_in bts (List.mem_of_mem_take hy)
        · rw [List.mem_singleton.mp hy]
          exact buT
      · rcases List.mem_append.mp hy with hy | hy
        · exact Nat.le_trans (ht_le (List.mem_of_mem_take hy)) hts7
        · rw [List.mem_singleton.mp hy]
          exact hT7
    · refine ⟨_, rfl, _, rfl, _, _, rfl, .inl ⟨_, SqL.of hfa, rfl⟩, c, _, rfl, fun sa is H1 s1 hsa lis _ => ?_⟩
      have a0 : atI (is.map V.int) 0 = some (V.int (is.getD 0 0)) := at_ints (k := 0) (by omega)
      have a1 : atI (is.map V.int) 1 = some (V.int (is.getD 1 0)) := at_ints (k := 1) (by omega)
      have hfa1 := s1 _ _ hfa
      have hva1 := s1 _ _ hva
      generalize is.getD 0 0 = i0 at *
      generalize is.getD 1 0 = i1 at *
      have e0 := Int.emod_nonneg i0 (show (4 : Int) ≠ 0 by decide)
      have e1 := Int.emod_lt_of_pos i0 (show (0 : Int) < 4 by decide)
      have g0 := Int.emod_nonneg i1 (show (5 : Int) ≠ 0 by decide)
      have g1 := Int.emod_lt_of_pos i1 (show (0 : Int) < 5 by decide)
      refine ⟨_, rfl, _, _, _, _, rfl, rfl, SqL.of hsa, a0, _, _, rfl, rfl, (by show (0 : Int) < 4; decide), _, rfl, _, _, rfl, .inl ⟨_, SqL.of hfa1, rfl⟩, _, _, rfl, ?_⟩
      have mm : 0 ≤ (if (xs.length : Int) < i0 % 4 then (xs.length : Int) else i0 % 4) ∧ (if (xs.length : Int) < i0 % 4 then (xs.length : Int) else i0 % 4) ≤ (xs.length : Int) ∧ (if (xs.length : Int) < i0 % 4 then (xs.length : Int) else i0 % 4) ≤ 3 := by split <;> omega
      refine ⟨_, rfl, _, _, _, _, rfl, rfl, SqL.of hsa, a1, _, _, rfl, rfl, (by show (0 : Int) < 5; decide), _, rfl, by show -(2 ^ 62) ≤ i1 % 5; omega, by show i1 % 5 < 2 ^ 62; omega, fun D hD => ?_⟩
      refine comp_by (i1 % 5).toNat (fun i σ' H' => (∃ v, σ' = [v, some (.ref va), some (.ref sa)]) ∧ Same H1 H' ∧ ∃ vs : List V, H' D = some (.lst vs) ∧ vs.length = i ∧ ∀ v ∈ vs, VlV v) ⟨⟨_, rfl⟩, same_upd hD, [], upd_same, rfl, fun _ z => nomatch z⟩ (fun i σ' H' hi p => hi) (fun σ' H2 pp => ⟨Nat.le_refl _, ?_⟩) (fun i σ' H' hi pp x H2 y => ?_)
      · obtain ⟨_, s2, vs, eD, lv, ov⟩ := pp
        refine ⟨D, _, rfl, .inl ⟨SqL.of eD, fun ra hra => ?_⟩⟩
        have u1 := same_upd (o := HO.tup vs) hra
        have s12 := s1.trans (s2.trans u1)
        have hfa3 := s12 _ _ hfa
        refine ⟨_, rfl, _, rfl, _, _, rfl, .inl ⟨_, SqL.of hfa3, rfl⟩, _, rfl, _, _, rfl, rfl, _, rfl, _, _, rfl, SqL.of hfa3, fun ka hka => ?_⟩
        have ej : (xs.length : Int) - (if (xs.length : Int) < i0 % 4 then (xs.length : Int) else i0 % 4) = ((((xs.length : Int) - (if (xs.length : Int) < i0 % 4 then (xs.length : Int) else i0 % 4)).toNat : Nat) : Int) := by omega
        rw [ej, cut_from xs _ (by omega)]
        generalize hj : ((xs.length : Int) - (if (xs.length : Int) < i0 % 4 then (xs.length : Int) else i0 % 4)).toNat = j
        have jl : xs.length - j ≤ 3 := by omega
        have u2 := same_upd (o := HO.lst (xs.drop j)) hka
        have sB := s12.trans u2
        have hks : ∀ {F : Hp}, Same H F → TrVs F (ts.drop j) (xs.drop j) := fun {F} sF => by
          have h : TrVs F ts (xs.take j ++ xs.drop j) := by
            rw [List.take_append_drop]
            exact hts.same sF
          have := (TrVs.parts h).2
          rw [List.length_take] at this
          by_cases z : j ≤ xs.length
          · rw [Nat.min_eq_left z] at this
            exact this
          · omega
        have bks : BuTs (ts.drop j) := bus_of fun y hy => bu_in bts (List.mem_of_mem_drop hy)
        have hks7 : htTs (ts.drop j) ≤ 7 := hts_of fun y hy => Nat.le_trans (ht_le (List.mem_of_mem_drop hy)) hts7
        have lks : (ts.drop j).length ≤ 3 := by rw [List.length_drop]; omega
        have fin : ∀ F : Hp, Same (upd (upd H2 ra (.tup vs)) ka (.lst (xs.drop j))) F → u { nx := fun _ H' => Q .non H', rt := Q } [some (.ref fa), some (.int c), some (.ref na), some (.ref va), some (.bl tw), some (.ref sa), some (.int (if (xs.length : Int) < i0 % 4 then (xs.length : Int) else i0 % 4)), some (.ref ra), some (.ref ka), none] F := fun F sF => hC _ _ ⟨sa, ra, ka, is, vs, ts.drop j, xs.drop j, _, rfl, sB.trans sF, sF _ _ ((s2.trans (u1.trans u2)) _ _ hsa), lis, sF _ _ (u2 _ _ upd_same), ov, ⟨mm.1, mm.2.1⟩, sF _ _ upd_same, hks (sB.trans sF), by omega, bks, hks7⟩
        refine ⟨_, rfl, _, rfl, ite2 (fun _ => ?_) (fun _ => fin _ (Same.refl _))⟩
        refine ⟨_, rfl, by show 0 ≤ sizeLine; decide, fun e he => ?_⟩
        have u3 := same_upd (o := HO.lst []) he
        have dk := dTs_depth (ts.drop j)
        refine ⟨_, _, .lst (SqL.of (u3 _ _ upd_same)) (hks (sB.trans u3)).dats, .lst (SqL.of upd_same) .nil, by show PyData.depthAll (dTs (ts.drop j)) + 1 ≤ 60; omega, _, rfl, ite2 (fun hne => ?_) (fun _ => fin _ u3)⟩
        have hne2 : xs.drop j ≠ [] := fun z => by
          have hl := (hks sB).len
          rw [z] at hl
          have : ts.drop j = [] := List.length_eq_zero_iff.mp hl
          rw [this, dTs] at hne
          exact absurd hne (by decide)
        obtain ⟨us, ut, ys, y, e1, e2, _, huy⟩ := (hks sB).last hne2
        have hat : atI (xs.drop j) (-1) = some y := by rw [e2]; exact at_last ys y
        have hmu : ut ∈ ts.drop j := by rw [e1]; simp
        have but := bu_in bks hmu
        have hut := ht_le hmu
        refine ⟨_, rfl, _, rfl, _, _, _, _, rfl, rfl, SqL.of (u3 _ _ upd_same), hat, ut, y, rfl, huy.same u3, but, by omega, by decide, fun p5 H5 s5 hp5 e5 => ?_⟩
        have u35 := u3.trans s5
        refine ⟨_, _, rfl, .inl ⟨_, SqL.of e5, rfl⟩, _, _, rfl, rfl, _, rfl, ite2 (fun _ => ?_) (fun _ => fin _ u35)⟩
        have hka5 : H5 ka = some (.lst (xs.drop j)) := u35 _ _ upd_same
        have lxd : (xs.drop j).length ≤ 3 := by rw [List.length_drop]; exact jl
        refine ⟨_, rfl, .inl ⟨rfl, _, SqL.of hka5⟩, _, rfl, _, rfl, _, _, _, _, rfl, rfl, SqL.of hka5, hat, _, _, _, rfl, rfl, hka5, small1000 (by omega), ?_⟩
        have sH5 := sB.trans u35
        have sF : Same H (upd H5 ka (.lst (xs.drop j ++ [y]))) := sH5.set (s12.free hka)
        refine hC _ _ ⟨sa, ra, ka, is, vs, ts.drop j ++ [ut], xs.drop j ++ [y], _, rfl, sF, ((s2.trans (u1.trans (u2.trans u35))).set ((s2.trans u1).free hka)) _ _ hsa, lis, ((u2.trans u35).set hka) _ _ upd_same, ov, ⟨mm.1, mm.2.1⟩, upd_same, (hks sF).app (TrVs.one ?_), by rw [List.length_append]; show _ + 1 ≤ 4; omega, bus_of fun z hz => ?_, hts_of fun z hz => ?_⟩
        · obtain ⟨us', ut', ys', y', f1, f2, _, hu'⟩ := (hks sF).last hne2
          rw [e1] at f1
          rw [e2] at f2
          have g1 := List.append_inj_right' f1 rfl
          have g2 := List.append_inj_right' f2 rfl
          injection g1 with g1 _
          injection g2 with g2 _
          rw [← g1, ← g2] at hu'
          exact hu'
        · rcases List.mem_append.mp hz with hz | hz
          · exact bu_in bks hz
          · rw [List.mem_singleton.mp hz]
            exact but
        · rcases List.mem_append.mp hz with hz | hz
          · exact Nat.le_trans (ht_le hz) hks7
          · rw [List.mem_singleton.mp hz]
            omega
      · obtain ⟨⟨v, rfl⟩, sm, vs, e, lv, ov⟩ := pp
        obtain ⟨rfl, rfl⟩ := y
        have ai : atI (is.map V.int) (3 + (0 + (i : Int))) = some (V.int (is.getD (3 + i) 0)) := by
          rw [show (3 : Int) + (0 + (i : Int)) = ((3 + i : Nat) : Int) by omega]
          exact at_ints (by omega)
        obtain ⟨v3, hv3, hm3⟩ := atI_in (xs := vl) (i := is.getD (3 + i) 0 % 3) (Int.emod_nonneg _ (by decide)) (by rw [lvl]; exact Int.emod_lt_of_pos _ (by decide))
        refine ⟨_, rfl, _, rfl, _, rfl, _, _, rfl, rfl, _, _, _, _, rfl, rfl, SqL.of (sm _ _ hsa), ai, _, _, rfl, rfl, (by show (0 : Int) < 3; decide), _, _, _, _, rfl, rfl, SqL.of (sm _ _ hva1), hv3, ?_⟩
        refine ⟨_, e, small1000 (by omega), ⟨_, rfl⟩, sm.set hD, vs ++ [v3], upd_same, by rw [List.length_append, lv]; rfl, fun y hy => ?_⟩
        rcases List.mem_append.mp hy with hy | hy
        · exact ov y hy
        · rw [List.mem_singleton.mp hy]
          exact ovl v3 hm3
end
end Wy
namespace Wy
open PySem L2
def sp_law (K : PySem.W.Frag) : Sp := fun vs H Q _ => ∃ (a : Addr) (ns : List Int), vs = [.ref a] ∧ SqL K H a (ns.map V.int) ∧ ns.length ≤ 63 ∧ ∀ H', Q (.bl true) H'
theorem all_rep (n : Nat) : (List.replicate n true).all id = true := by
  rw [List.all_eq_true]
  intro b hb
  exact (List.mem_replicate.mp hb).2
theorem dats_s {K : PySem.W.Frag} {H : Hp} : ∀ {r : List Str}, (∀ w ∈ r, PyData.strOk w = true) → Dats K H (r.map .str) (r.map V.str)
  | [], _ => .nil
  | w :: r, h => .cons (.str w (h w (List.mem_cons_self ..))) (dats_s fun x hx => h x (List.mem_cons_of_mem _ hx))
theorem depth_s (r : List Str) : PyData.depthAll (r.map .str) = 0 := by
  induction r with
  | nil => rfl
  | cons x p ih =>
    show max (PyData.depth (.str x)) (PyData.depthAll (p.map .str)) = 0
    rw [ih]
    rfl
mutual
theorem lv_ok {H : Hp} : ∀ {t : Tr} {x : V}, TrV H t x → ∀ z ∈ lvT t, PyData.strOk z = true
  | .nm s, x, h, z, hz => by
    rw [TrV] at h
    rw [lvT] at hz
    rw [List.mem_singleton.mp hz]
    exact h.2
  | .nd n r ks, x, h, z, hz => by
    rw [TrV] at h
    obtain ⟨_, _, _, _, _, _, _, _, _, h5⟩ := h
    rw [lvT] at hz
    exact lvs_ok h5 z hz
theorem lvs_ok {H : Hp} : ∀ {ts : List Tr} {xs : List V}, TrVs H ts xs → ∀ z ∈ lvTs ts, PyData.strOk z = true
  | [], xs, h, z, hz => by
    rw [lvTs] at hz
    cases hz
  | t :: ts, xs, h, z, hz => by
    rw [TrVs] at h
    obtain ⟨x, ys, _, h1, h2⟩ := h
    rw [lvTs] at hz
    rcases List.mem_append.mp hz with hz | hz
    · exact lv_ok h1 z hz
    · exact lvs_ok h2 z hz
end
theorem lv_big {t : Tr} (bu : BuT t) (h : htT t ≤ 7) : (lvT t).length ≤ 400000 := Nat.le_trans (lv_nd t) (Nat.le_trans (nd_bound t bu) (Nat.le_trans (Nat.pow_le_pow_right (by decide) (show htT t + 1 ≤ 8 by omega)) (by decide)))
theorem ok_law {l : PySem.W.OpenLaw} {w : World} {K : PySem.W.Frag} {mg : Str → Option Value} {fa : Addr} (T : Txt K mg) (hfa : mg "law" = some (.ref fa)) :
    ∃ fd : FuncData, (∀ (s : Shared) (v : Value), BindsTo s fd ⟨[v], []⟩ [("_law_script", v)]) ∧ ∀ base : Heap, K.In base → base.Ns mainGlobals mg → FnOk l.prog w K mg base CX0 14 fa fd ["_law_script"] (sp_law K) := by
  refine T.t_law.fin hfa sc_law (fun vs H Q E h => ?_) fun base f cdv A outer s H vs Q E hr h => ?_
  · obtain ⟨a, ns, rfl, _⟩ := h
    rfl
  · obtain ⟨a, ns, rfl, hS, hlen, q⟩ := h
    refine ⟨_, (pss_6
      (ps_set (i := 1) sc_law.nd rfl (Or.inl rfl) (pe_def (ok__law_words T) hr rfl (pa_2 (pe_def (ok__law_cell_at T) hr rfl (pa_2 (pv 0) pe_int)) pe_int)))
      (ps_set (i := 2) sc_law.nd rfl (Or.inl rfl) (pe_def (ok__law_values T) hr rfl (pa_1 (pe_def (ok__law_cell_at T) hr rfl (pa_2 (pv 0) pe_int)))))
      (ps_set (i := 3) sc_law.nd rfl (Or.inl rfl) (pe_lst pa_nil))
      (ps_for PassesOwn.never rfl (pi_listK K (pe_slice (sl_listK K) (pv 0) po_none (po_some pe_int))) (pg_name (i := 4) sc_law.nd rfl (Or.inl rfl)) (pss_one (ps_set (i := 3) sc_law.nd rfl (Or.inl rfl) (pe_def (ok__law_grown T) hr rfl (pa_5 (pv 3) (pv 4) (pv 1) (pv 2) (pe_cmpR op_eq (pe_op op_mod (pe_def (ok__law_cell_at T) hr rfl (pa_2 (pv 0) pe_int)) pe_int) pe_int (nomark _)))))))
      (ps_for PassesOwn.never rfl (pi_listK K (pe_op op_cat (pv 3) (pe_lst (pa_1 (pe_ix (ix_listK K) (pv 1) pe_int (fun _ _ => rfl)))))) (pg_name (i := 5) sc_law.nd rfl (Or.inl rfl)) (pss_5
      (ps_set (i := 6) sc_law.nd rfl (Or.inl rfl) (pe_def (ok_leaves T) hr rfl (pa_1 (pv 5))))
      (ps_if (PW.pt (pw_or (pt_not (pt_val (pe_callB (call_isi K) rfl T.b_isinstance bt_isinstance (pa_2 (pv 6) (pe_ty rfl T.b_tuple bt_tuple))))) (pw_or1 (pt_not (pt_val (pe_callB (call_allL rfl K) rfl T.b_all bt_all (pa_1 (pe_comp (N := ["_law_name"]) (caps := [none]) rfl (by with_unfolding_all rfl) (pi_tupK K (pv 6)) (fun _ _ _ _ _ => (pg_name (i := 0) (show (["_law_name"] : List Str).Nodup by decide +kernel) rfl (Or.inl rfl))) (fun _ _ _ _ _ => pf_nil) (fun _ _ _ _ _ => (pe_callB (call_isi K) rfl T.b_isinstance bt_isinstance (pa_2 (pv 0) (pe_ty rfl T.b_str bt_str)))))))))))) (pss_one (ps_ret pe_bl)) pss_nil)
      (ps_if (pt_cmpR (op_neD hr.units K) (pe_callTy (call_listK K) rfl T.b_list bt_list (pa_1 (pv 6))) (pe_callB (call_sortedS K) rfl T.b_sorted bt_sorted (pa_1 (pe_def (ok__law_leaves T 8) hr rfl (pa_1 (pv 5))))) (nomark _)) (pss_one (ps_ret pe_bl)) pss_nil)
      (ps_set (i := 7) sc_law.nd rfl (Or.inl rfl) (pe_def (ok_height T 8) hr rfl (pa_1 (pv 5))))
      (ps_if (PW.pt (pw_or (pt_not (pt_val (pe_def (ok__law_whole T) hr rfl (pa_1 (pv 7))))) (pw_or1 (pt_cmpR op_ne (pv 7) (pe_def (ok__law_height T 8) hr rfl (pa_1 (pv 5))) (nomark _))))) (pss_one (ps_ret pe_bl)) pss_nil)))
      (ps_ret pe_bl)), ?_⟩
    refine ⟨_, rfl, a, ns, 0, rfl, hS, by decide, _, 9, rfl, by decide, by decide, fun wp W H1 s1 hw lw _ oW => ?_⟩
    have lw9 : W.length = 9 := lw
    refine ⟨_, rfl, a, ns, 1, rfl, s1.seq hS, by decide, _, rfl, fun vp vl H2 s2 hv lv ov => ?_⟩
    refine ⟨by show 0 ≤ sizeLine; decide, fun F hF => ?_⟩
    have u1 := same_upd (o := HO.lst []) hF
    have s12 := s1.trans (s2.trans u1)
    refine ⟨_, rfl, _, rfl, _, _, rfl, s12.seq hS, fun c hc => ?_⟩
    rw [cut_upto _ (show (0 : Int) ≤ 63 by decide), show (63 : Int).toNat = 63 from rfl, ← List.map_take]
    have u2 := same_upd (o := HO.lst ((ns.take 63).map V.int)) hc
    have sA := s12.trans u2
    have hcG := upd_same (H := upd H2 F (.lst [])) (a := c) (o := HO.lst ((ns.take 63).map V.int))
    have hFG := u2 _ _ (upd_same (H := H2) (a := F) (o := HO.lst []))
    have hwG := (s2.trans (u1.trans u2)) _ _ hw
    have hvG := (u1.trans u2) _ _ hv
    have l63 : (ns.take 63).length ≤ 63 := by rw [List.length_take]; omega
    show _
    generalize upd (upd H2 F (.lst [])) c (.lst ((ns.take 63).map V.int)) = G at *
    refine ⟨c, rfl, ⟨_, SqL.of hcG⟩, for_list (xs := (ns.take 63).map V.int) (fun i σ H' => ∃ (v4 : Option V) (p : Addr) (ts : List Tr) (xs : List V), σ = [some (.ref a), some (.ref wp), some (.ref vp), some (.ref p), v4, none, none, none] ∧ Same G H' ∧ H' p = some (.lst xs) ∧ TrVs H' ts xs ∧ BuTs ts ∧ htTs ts ≤ 7 ∧ ts.length ≤ i) ⟨none, F, [], [], rfl, Same.refl _, hFG, .nil, by rw [BuTs]; trivial, by rw [htTs]; exact Nat.zero_le _, Nat.le_refl _⟩ (fun i σ H' _ z => by obtain ⟨_, _, _, _, _, z, _⟩ := z; exact SqL.of (z _ _ hcG)) ?_ ?_⟩
    · rintro i x σ H' hx ⟨v4, p, ts, xs, rfl, sm, hp, ht, hb, h7, lt⟩
      rw [List.getElem?_map] at hx
      obtain ⟨n, hni, rfl⟩ := Option.map_eq_some_iff.mp hx
      have il : i < (ns.take 63).length := (List.getElem?_eq_some_iff.mp hni).1
      refine ⟨_, rfl, _, rfl, _, rfl, _, rfl, _, rfl, a, ns, 2, rfl, (sA.trans sm).seq hS, by decide, _, _, rfl, rfl, (by show (0 : Int) < 2; decide), rfl, ?_⟩
      exact ⟨p, wp, vp, ts, xs, n, W, vl, _, i, rfl, hp, ht, sm _ _ hwG, lw9, oW, sm _ _ hvG, lv, ov, hb, h7, lt, by omega, fun p2 us ys H3 s3 e3 t3 b3 h3 l3 => ⟨_, p2, us, ys, rfl, sm.trans s3, e3, t3, b3, h3, l3⟩⟩
    · rintro σ H' ⟨v4, p, ts, xs, rfl, sm, hp, ht, hb, h7, lt⟩
      rw [List.length_map] at lt
      obtain ⟨w0, W', rfl⟩ : ∃ w0 W', W = w0 :: W' := by
        cases W with
        | nil => cases lw9
        | cons w0 W' => exact ⟨w0, W', rfl⟩
      have ok0 := oW w0 (List.mem_cons_self ..)
      have lx := ht.len
      refine ⟨_, rfl, _, rfl, _, _, _, _, rfl, rfl, SqL.of (sm _ _ hwG), atI_nat (j := 0) rfl, by show 1 ≤ sizeLine; decide, fun l1 hl1 => ?_⟩
      have v1 := same_upd (o := HO.lst [V.str w0]) hl1
      refine ⟨p, l1, _, _, rfl, rfl, v1 _ _ hp, upd_same, Nat.le_of_lt (small1000000 (by show xs.length + 1 < _; omega)), fun L hL => ?_⟩
      have v2 := same_upd (o := HO.lst (xs ++ [V.str w0])) hL
      have hLL := upd_same (H := upd H' l1 (.lst [V.str w0])) (a := L) (o := HO.lst (xs ++ [V.str w0]))
      have htr : TrVs (upd (upd H' l1 (.lst [V.str w0])) L (.lst (xs ++ [V.str w0]))) (ts ++ [.nm w0]) (xs ++ [.str w0]) := (ht.same (v1.trans v2)).app (TrVs.one (by rw [TrV]; exact ⟨rfl, ok0⟩))
      have hbu : ∀ y ∈ ts ++ [Tr.nm w0], BuT y ∧ htT y ≤ 7 := fun y hy => by
        rcases List.mem_append.mp hy with hy | hy
        · exact ⟨bu_in hb hy, Nat.le_trans (ht_le hy) h7⟩
        · rw [List.mem_singleton.mp hy, BuT, htT]
          exact ⟨trivial, Nat.zero_le _⟩
      show _
      generalize upd (upd H' l1 (.lst [V.str w0])) L (.lst (xs ++ [V.str w0])) = G2 at *
      refine ⟨L, rfl, ⟨_, SqL.of hLL⟩, for_list (xs := xs ++ [V.str w0]) (fun i σ H3 => (∃ (v5 v6 v7 : Option V), σ = [some (.ref a), some (.ref wp), some (.ref vp), some (.ref p), v4, v5, v6, v7]) ∧ Same G2 H3) ⟨⟨_, _, _, rfl⟩, Same.refl _⟩ (fun i σ H3 _ z => SqL.of (z.2 _ _ hLL)) ?_ ?_⟩
      · rintro i x σ H3 hx ⟨⟨v5, v6, v7, rfl⟩, s3⟩
        obtain ⟨t, ht', tv⟩ := htr.get hx
        obtain ⟨bu, h7'⟩ := hbu t (List.mem_of_getElem? ht')
        have okl := lv_ok tv
        refine ⟨_, rfl, t, x, rfl, tv.same s3, bu, h7', fun lp H4 s4 e4 => ?_⟩
        refine ⟨_, rfl, _, _, _, rfl, .tup e4, by decide, by decide, _, rfl, iteFb rfl ?_⟩
        refine ⟨_, rfl, lp, rfl, ⟨_, SqT.of e4⟩, fun D hD => ?_⟩
        refine comp_by ((Tim.srt strLt (lvT t)).map V.str).length (fun i σ' H' => (∃ v, σ' = [v]) ∧ Same H4 H' ∧ H' D = some (.lst ((List.replicate i true).map V.bl))) ⟨⟨_, rfl⟩, same_upd hD, upd_same⟩ (fun i σ' H' hi p => ?_) (fun σ' H5 p => ⟨?_, ?_⟩) (fun i σ' H' hi p x H5 y => ?_)
        · obtain ⟨_, sm, _⟩ := p
          exact ⟨_, ((Tim.srt strLt (lvT t)).map V.str)[i], SqT.of (sm _ _ e4), List.getElem?_eq_getElem hi⟩
        · obtain ⟨_, sm, _⟩ := p
          exact ⟨_, SqT.of (sm _ _ e4), Nat.le_refl _⟩
        · obtain ⟨_, s5, e5⟩ := p
          refine ⟨D, _, rfl, SqL.of e5, _, rfl, iteFb (by rw [all_rep]; rfl) ?_⟩
          refine ⟨_, rfl, lp, _, rfl, .inr (SqT.of (s5 _ _ e4)), fun l2 hl2 => ?_⟩
          have w2 := same_upd (o := HO.lst ((Tim.srt strLt (lvT t)).map V.str)) hl2
          have sB := s3.trans (s4.trans (s5.trans w2))
          refine ⟨_, rfl, t, x, rfl, tv.same sB, bu, by omega, by decide, fun p6 H6 s6 hp6 e6 => ?_⟩
          refine ⟨p6, _, rfl, .inl (SqL.of e6), fun l3 hl3 => ?_⟩
          have w3 := same_upd (o := HO.lst ((Tim.srt strLt (lvT t)).map V.str)) hl3
          have oks : ∀ z ∈ Tim.srt strLt (lvT t), PyData.strOk z = true := fun z hz => okl z ((Tim.srt_perm strLt _).mem_iff.mp hz)
          have dl : Dat K (upd H6 l3 (.lst ((Tim.srt strLt (lvT t)).map V.str))) (.list ((Tim.srt strLt (lvT t)).map .str)) (.ref l2) := .lst (SqL.of ((s6.trans w3) _ _ upd_same)) (dats_s oks)
          refine ⟨_, _, dl, .lst (SqL.of upd_same) (dats_s oks), by show PyData.depthAll _ + 1 ≤ 60; rw [depth_s]; decide, _, rfl, iteFb (by rw [PySem.SeqAt.eqv_refl _ (Dat.lay _ _ dl)]; rfl) ?_⟩
          have sC := sB.trans (s6.trans w3)
          refine ⟨_, rfl, t, x, rfl, tv.same sC, bu, by omega, fun H7 s7 => ?_⟩
          refine ⟨_, rfl, _, rfl, _, rfl, iteFb rfl ?_⟩
          refine ⟨_, rfl, _, rfl, t, x, rfl, tv.same (sC.trans s7), bu, by omega, fun H8 s8 => ⟨rfl, _, rfl, iteFb (by simp) ?_⟩⟩
          exact ⟨⟨_, _, _, rfl⟩, sC.trans (s7.trans s8)⟩
        · obtain ⟨⟨v, rfl⟩, sm, e⟩ := p
          obtain ⟨rfl, hx⟩ := y
          have hx' := hx _ (SqT.of (sm _ _ e4))
          rw [List.getElem?_map] at hx'
          obtain ⟨z, hzi, rfl⟩ := Option.map_eq_some_iff.mp hx'
          have zl := lv_big bu h7'
          have il : i < (Tim.srt strLt (lvT t)).length := (List.getElem?_eq_some_iff.mp hzi).1
          rw [(Tim.srt_perm strLt _).length_eq] at il
          refine ⟨_, rfl, _, _, _, rfl, .str z, by decide, by decide, ?_⟩
          refine ⟨_, e, small1000000 (by rw [List.length_map, List.length_replicate]; omega), ⟨_, rfl⟩, sm.set hD, ?_⟩
          rw [upd_same, List.replicate_succ', List.map_append]
          rfl
      · rintro σ H3 ⟨⟨v5, v6, v7, rfl⟩, s3⟩
        exact q _
end Wy
open PySem PySem.W PyProof.Rows
set_option maxRecDepth 100000 in
set_option maxHeartbeats 0 in
theorem PySem.Challenge.cw_whyrows_k60_leaves_and_height_holds : PySem.Challenge.rw_whyrows_k60_leaves_and_height.Holds := by
  w_on; o_law; k_head; (case hw => w_witness2)
  k_fill
  refine L2.walk_ofK (l := PySem.Challenge.rw_whyrows_k60_leaves_and_height) (n := 63) (k := 14) (x := "_law_script") (CX := L2.CX0) (sp := Wy.sp_law) rfl (by decide) rfl ⟨rfl, by decide, by decide⟩ (fun w h Y => PySem.W.kIn_of Y) ?F ?S ?C
  case F =>
    intro w mg fa h KX G hmg
    have T : Wy.Txt (L2.KOf KX) mg := by
      dsimp only [L2.KOf]
      refine' Wy.txt_mk KX G ?z_all ?z_bool ?z_int ?z_isinstance ?z_len ?z_list ?z_max ?z_min ?z_range ?z_sorted ?z_str ?z_tuple ?a_is_name ?l_is_name ?c_is_name ?k_is_name ?a_leaves ?l_leaves ?c_leaves ?k_leaves ?a_height ?l_height ?c_height ?k_height ?a__law_cell_at ?l__law_cell_at ?c__law_cell_at ?k__law_cell_at ?a__law_stream ?l__law_stream ?c__law_stream ?k__law_stream ?a__law_words ?l__law_words ?c__law_words ?k__law_words ?a__law_values ?l__law_values ?c__law_values ?k__law_values ?a__law_whole ?l__law_whole ?c__law_whole ?k__law_whole ?a__law_leaves ?l__law_leaves ?c__law_leaves ?k__law_leaves ?a__law_height ?l__law_height ?c__law_height ?k__law_height ?a__law_grown ?l__law_grown ?c__law_grown ?k__law_grown ?a_law ?l_law ?c_law ?k_law
      (case z_all => k_is)
      (case z_bool => k_is)
      (case z_int => k_is)
      (case z_isinstance => k_is)
      (case z_len => k_is)
      (case z_list => k_is)
      (case z_max => k_is)
      (case z_min => k_is)
      (case z_range => k_is)
      (case z_sorted => k_is)
      (case z_str => k_is)
      (case z_tuple => k_is)
      (case a_is_name => k_is)
      (case l_is_name => k_is)
      (case c_is_name => k_is)
      (case k_is_name => k_is)
      (case a_leaves => k_is)
      (case l_leaves => k_is)
      (case c_leaves => k_is)
      (case k_leaves => k_is)
      (case a_height => k_is)
      (case l_height => k_is)
      (case c_height => k_is)
      (case k_height => k_is)
      (case a__law_cell_at => k_is)
      (case l__law_cell_at => k_is)
      (case c__law_cell_at => k_is)
      (case k__law_cell_at => k_is)
      (case a__law_stream => k_is)
      (case l__law_stream => k_is)
      (case c__law_stream => k_is)
      (case k__law_stream => k_is)
      (case a__law_words => k_is)
      (case l__law_words => k_is)
      (case c__law_words => k_is)
      (case k__law_words => k_is)
      (case a__law_values => k_is)
      (case l__law_values => k_is)
      (case c__law_values => k_is)
      (case k__law_values => k_is)
      (case a__law_whole => k_is)
      (case l__law_whole => k_is)
      (case c__law_whole => k_is)
      (case k__law_whole => k_is)
      (case a__law_leaves => k_is)
      (case l__law_leaves => k_is)
      (case c__law_leaves => k_is)
      (case k__law_leaves => k_is)
      (case a__law_height => k_is)
      (case l__law_height => k_is)
      (case c__law_height => k_is)
      (case k__law_height => k_is)
      (case a__law_grown => k_is)
      (case l__law_grown => k_is)
      (case c__law_grown => k_is)
      (case k__law_grown => k_is)
      (case a_law => k_is)
      (case l_law => k_is)
      (case c_law => k_is)
      (case k_law => k_is)
    exact Wy.ok_law T hmg
  case S => exact fun K H a ns hl hO hS => ⟨a, ns, rfl, hS, hl, fun _ => rfl⟩
  case C => exact fun _ _ _ _ z => z
