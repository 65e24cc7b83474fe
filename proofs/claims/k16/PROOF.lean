import PyProof.Rows.All
import Wide.All
import OpenK.AllK
import Wide.FinOn
import Lean
import PyProof.EqAt
import PyProof.EqKinds
import PyProof.TupleCall
import PyProof.P3Eq
import PyProof.P3In
import PyProof.NeData
import PyProof.Rows.SortShell
import PyProof.SumWalkG
import PyProof.Rows.SeqMore3
import PyProof.FitsBits
import PyProof.MinMaxWalk
import PyProof.WalkInts
import PyProof.Rows.CallKwBuiltin
import KE.KMinKey
import PyProof.AttrMissHeap
import KE.KDictOf
import PySem.Challenge.RW_whyrows_k16_filled
set_option Elab.async false
set_option linter.all false
set_option maxRecDepth 100000
set_option maxHeartbeats 400000
namespace Tim
open PySem PyProof.Rows
def kx (rk : Keyed → Int) (xs : Array Keyed) (i : Nat) : Int := match xs[i]? with
  | some p => rk p
  | none => 0
def Up (rk : Keyed → Int) (xs : Array Keyed) (lo hi : Nat) : Prop := ∀ i j, lo ≤ i → i ≤ j → j < hi → kx rk xs i ≤ kx rk xs j
def Dn (rk : Keyed → Int) (xs : Array Keyed) (lo hi : Nat) : Prop := ∀ i j, lo ≤ i → i ≤ j → j < hi → kx rk xs j ≤ kx rk xs i
theorem kx_of {rk : Keyed → Int} {xs : Array Keyed} {i : Nat} {p : Keyed} (h : xs[i]? = some p) : kx rk xs i = rk p := by unfold kx; rw [h]
theorem kx_same {rk : Keyed → Int} {xs ys : Array Keyed} {i j : Nat} (h : xs[i]? = ys[j]?) : kx rk xs i = kx rk ys j := by unfold kx; rw [h]
def LtOk (M : Model) (A : Around) (E : Value → Shared → Prop) (s : Shared) (kd : SortKind) (S : Keyed → Prop) (rk : Keyed → Int) : Prop :=
  ∀ (x y : Keyed) (st : SortSt) (Q : Option Bool → SortSt → Prop), S x → S y → kindOf st = kd → Q (some (decide (rk x < rk y))) st → wpS M A E s (lt' x y) Q st
structure Mv (lo hi : Nat) (st st' : SortSt) : Prop where
  perm : (arrOf st').Perm (arrOf st)
  out : ∀ k, k < lo ∨ hi ≤ k → (arrOf st')[k]? = (arrOf st)[k]?
  kind : kindOf st' = kindOf st
  pend : pendingOf st' = pendingOf st
  failed : failedOf st' = failedOf st
theorem Mv.refl (lo hi : Nat) (st : SortSt) : Mv lo hi st st := ⟨Array.Perm.refl _, fun _ _ => rfl, rfl, rfl, rfl⟩
theorem Mv.trans {lo hi : Nat} {a b c : SortSt} (h : Mv lo hi a b) (k : Mv lo hi b c) : Mv lo hi a c :=
  ⟨k.perm.trans h.perm, fun i hi => (k.out i hi).trans (h.out i hi), k.kind.trans h.kind, k.pend.trans h.pend, k.failed.trans h.failed⟩
theorem Mv.size {lo hi : Nat} {a b : SortSt} (h : Mv lo hi a b) : (arrOf b).size = (arrOf a).size := h.perm.size_eq
structure Sane (kd : SortKind) (S : Keyed → Prop) (n : Nat) (st : SortSt) : Prop where
  size : (arrOf st).size = n
  all : ∀ p ∈ (arrOf st).toList, S p
  kind : kindOf st = kd
  failed : failedOf st = none
theorem Mv.sane {lo hi : Nat} {a b : SortSt} {kd : SortKind} {S : Keyed → Prop} {n : Nat} (h : Mv lo hi a b) (k : Sane kd S n a) : Sane kd S n b :=
  ⟨h.size.trans k.size, fun p hp => k.all p ((Array.perm_iff_toList_perm.mp h.perm).mem_iff.mp hp), h.kind.trans k.kind, h.failed.trans k.failed⟩
theorem Sane.at {kd : SortKind} {S : Keyed → Prop} {n : Nat} {st : SortSt} (rk : Keyed → Int) (k : Sane kd S n st) {i : Nat} (hi : i < n) : ∃ p, (arrOf st)[i]? = some p ∧ S p ∧ kx rk (arrOf st) i = rk p := by
  have hi' : i < (arrOf st).size := by rw [k.size]; exact hi
  have e : (arrOf st)[i]? = some (arrOf st)[i] := getElem?_pos _ i hi'
  exact ⟨_, e, k.all _ (by simp), kx_of e⟩
theorem Mv.mirrored {lo hi i j : Nat} {st : SortSt} (h1 : lo ≤ i) (h2 : j ≤ hi) (hj : j ≤ (arrOf st).size) : Mv lo hi st (setArr st (mirror (arrOf st) i j ((j - i) / 2))) :=
  ⟨mirror_perm _ _ _ _, fun k hk => (getElem?_mirror_all (i := i) hj k).trans (if_neg (by omega)), rfl, rfl, rfl⟩
theorem Mv.sunk {lo hi src d : Nat} {st : SortSt} (h1 : lo + d ≤ src) (h2 : src < hi) (hs : src < (arrOf st).size) : Mv lo hi st (setArr st (bubble (arrOf st) src d)) :=
  ⟨bubble_perm _ _ _, fun k hk => (getElem?_bubble hs d (by omega) k).trans (by rw [if_neg (by omega), if_neg (by omega)]), rfl, rfl, rfl⟩
theorem kx_mirror (rk : Keyed → Int) {xs : Array Keyed} {i j : Nat} (hj : j ≤ xs.size) (k : Nat) :
    kx rk (mirror xs i j ((j - i) / 2)) k = if i ≤ k ∧ k < j then kx rk xs (i + j - 1 - k) else kx rk xs k := by
  have e := getElem?_mirror_all (i := i) hj k
  by_cases c : i ≤ k ∧ k < j
  · rw [if_pos c] at e ⊢
    exact kx_same e
  · rw [if_neg c] at e ⊢
    exact kx_same e
theorem kx_mirror_level (rk : Keyed → Int) {xs : Array Keyed} {i j : Nat} (hj : j ≤ xs.size) (he : ∀ k, i ≤ k → k < j → kx rk xs k = kx rk xs (j - 1)) (k : Nat) :
    kx rk (mirror xs i j ((j - i) / 2)) k = kx rk xs k := by
  rw [kx_mirror rk hj]
  by_cases c : i ≤ k ∧ k < j
  · rw [if_pos c, he _ (by omega) (by omega), he k c.1 c.2]
  · rw [if_neg c]
theorem kx_bubble (rk : Keyed → Int) {xs : Array Keyed} {src d : Nat} (hs : src < xs.size) (hd : d ≤ src) (k : Nat) :
    kx rk (bubble xs src d) k = if k = src - d then kx rk xs src else if src - d < k ∧ k ≤ src then kx rk xs (k - 1) else kx rk xs k := by
  have e := getElem?_bubble hs d hd k
  by_cases c : k = src - d
  · rw [if_pos c] at e ⊢
    exact kx_same e
  · rw [if_neg c] at e ⊢
    by_cases c2 : src - d < k ∧ k ≤ src
    · rw [if_pos c2] at e ⊢
      exact kx_same e
    · rw [if_neg c2] at e ⊢
      exact kx_same e
section
variable {M : Model} {A : Around} {E : Value → Shared → Prop} {s : Shared} {kd : SortKind} {S : Keyed → Prop} {rk : Keyed → Int} {n : Nat}
theorem w_ltAt (L : LtOk M A E s kd S rk) {st : SortSt} (B : Sane kd S n st) {i j : Nat} (hi : i < n) (hj : j < n) {Q : Option Bool → SortSt → Prop}
    (h : Q (some (decide (kx rk (arrOf st) i < kx rk (arrOf st) j))) st) : wpS M A E s (ltAt' i j) Q st := by
  obtain ⟨p, e1, s1, k1⟩ := B.at rk hi
  obtain ⟨q, e2, s2, k2⟩ := B.at rk hj
  rw [k1, k2] at h
  rw [ltAt'_eq]
  refine wpS_bind (wpS_get ?_)
  show wpS M A E s (elem' (arrOf st) i >>= fun x => elem' (arrOf st) j >>= fun y => lt' x y) Q st
  rw [elem'_eq, elem'_eq, e1, e2]
  exact wpS_bind (wpS_pure (wpS_bind (wpS_pure (L p q st Q s1 s2 B.kind h))))
theorem w_reverse {st : SortSt} {i j : Nat} {Q : Unit → SortSt → Prop} (h : Q () (setArr st (mirror (arrOf st) i j ((j - i) / 2)))) : wpS M A E s (reverseSlice' i j) Q st := by
  rw [reverseSlice'_eq]
  exact wpS_modify h
def upLoop (lo a nrem : Nat) : StateT SortSt Sem AscSt :=
  forIn [a:nrem] ((none, a) : AscSt) fun _ c => do
    let x ← ltAt' (lo + c.snd) (lo + c.snd - 1)
    match x with
    | some b => if b = true then pure (ForInStep.done (none, c.snd)) else pure (ForInStep.yield (none, c.snd + 1))
    | _ => pure (ForInStep.done (some none, c.snd))
def upTail (lo m nrem : Nat) : StateT SortSt Sem (Option Nat) := do
  reverseSlice' lo (lo + m)
  let c ← upLoop lo m nrem
  match c.fst with
  | some r => pure r
  | none => pure (some c.snd)
def dnLoop (lo m nrem : Nat) : StateT SortSt Sem DescSt :=
  forIn [m:nrem] ((none, m, 0) : DescSt) fun _ c => do
    let x ← ltAt' (lo + c.snd.fst) (lo + c.snd.fst - 1)
    match x with
    | some b =>
      if b = true then
        if c.snd.snd > 0 then do
          reverseSlice' (lo + c.snd.fst - (c.snd.snd + 1)) (lo + c.snd.fst)
          pure (ForInStep.yield (none, c.snd.fst + 1, 0))
        else pure (ForInStep.yield (none, c.snd.fst + 1, 0))
      else do
        let y ← ltAt' (lo + c.snd.fst - 1) (lo + c.snd.fst)
        match y with
        | some g => if g = true then pure (ForInStep.done (none, c.snd.fst, c.snd.snd)) else pure (ForInStep.yield (none, c.snd.fst + 1, c.snd.snd + 1))
        | _ => pure (ForInStep.done (some none, c.snd.fst, c.snd.snd))
    | _ => pure (ForInStep.done (some none, c.snd.fst, c.snd.snd))
def dnPart (lo m nrem : Nat) : StateT SortSt Sem (Option Nat) := do
  liftM (rule "list.sort.descending-run")
  let c ← dnLoop lo (m + 1) nrem
  match c.fst with
  | some r => pure r
  | none =>
    if c.snd.snd > 0 then do
      reverseSlice' (lo + c.snd.fst - (c.snd.snd + 1)) (lo + c.snd.fst)
      upTail lo c.snd.fst nrem
    else upTail lo c.snd.fst nrem
theorem countRun_at (lo nrem : Nat) : countRun' lo nrem = (do
    let c ← upLoop lo 1 nrem
    match c.fst with
    | some r => pure r
    | none =>
      if (c.snd == nrem) = true then pure (some c.snd)
      else if c.snd > 1 then do
        let x ← ltAt' lo (lo + c.snd - 1)
        match x with
        | some rose => if rose = true then pure (some c.snd) else do
            reverseSlice' lo (lo + c.snd)
            dnPart lo c.snd nrem
        | _ => pure none
      else dnPart lo c.snd nrem) := by
  rw [countRun'_eq]
  dsimp only
  unfold dnPart upTail dnLoop upLoop
  congr 1
  funext c
  obtain ⟨r, m⟩ := c
  cases r with
  | some r => rfl
  | none =>
    dsimp only
    split
    · rfl
    · split
      · congr 1
        funext x
        cases x with
        | none => rfl
        | some rose =>
          dsimp only
          split
          · rfl
          · congr 1
            funext _u
            congr 1
            funext _v
            congr 1
            congr 1
            funext c2
            obtain ⟨r2, n2, q2⟩ := c2
            cases r2 with
            | some r2 => rfl
            | none =>
              dsimp only
              split
              · congr 1
                funext _w
                congr 1
                funext _z
                congr 1
                funext c3
                obtain ⟨r3, n3⟩ := c3
                cases r3 <;> rfl
              · congr 1
                funext _z
                congr 1
                funext c3
                obtain ⟨r3, n3⟩ := c3
                cases r3 <;> rfl
      · congr 1
        funext _v
        congr 1
        congr 1
        funext c2
        obtain ⟨r2, n2, q2⟩ := c2
        cases r2 with
        | some r2 => rfl
        | none =>
          dsimp only
          split
          · congr 1
            funext _w
            congr 1
            funext _z
            congr 1
            funext c3
            obtain ⟨r3, n3⟩ := c3
            cases r3 <;> rfl
          · congr 1
            funext _z
            congr 1
            funext c3
            obtain ⟨r3, n3⟩ := c3
            cases r3 <;> rfl
theorem w_upLoop (L : LtOk M A E s kd S rk) {st : SortSt} {lo a nrem : Nat} {Q : AscSt → SortSt → Prop} (B : Sane kd S n st) (hn : lo + nrem ≤ n) (ha : 1 ≤ a) (han : a ≤ nrem) (hs : Up rk (arrOf st) lo (lo + a))
    (h : ∀ m, a ≤ m → m ≤ nrem → Up rk (arrOf st) lo (lo + m) → (m = nrem ∨ kx rk (arrOf st) (lo + m) < kx rk (arrOf st) (lo + m - 1)) → Q (none, m) st) : wpS M A E s (upLoop lo a nrem) Q st := by
  unfold upLoop
  refine wpS_forRange (I := fun x c st' => st' = st ∧ c = (none, x) ∧ Up rk (arrOf st) lo (lo + x)) ?turn ?last ⟨rfl, rfl, hs⟩
  case last =>
    rintro c st' ⟨rfl, rfl, hs'⟩
    have e : max a nrem = nrem := by omega
    rw [e] at hs' ⊢
    exact h nrem han (Nat.le_refl _) hs' (.inl rfl)
  case turn =>
    rintro x c st' hax hxn ⟨rfl, rfl, hs'⟩
    dsimp only
    refine wpS_bind (w_ltAt L B (by omega) (by omega) ?_)
    by_cases hless : kx rk (arrOf st') (lo + x) < kx rk (arrOf st') (lo + x - 1)
    · simp only [hless, decide_true, if_true]
      exact wpS_pure (h x hax (by omega) hs' (.inr hless))
    · simp only [hless, decide_false, Bool.false_eq_true, if_false]
      refine wpS_pure ⟨rfl, rfl, fun i j h1 h2 h3 => ?_⟩
      by_cases hj : j < lo + x
      · exact hs' i j h1 h2 hj
      · have hj' : j = lo + x := by omega
        subst hj'
        by_cases hi : i = lo + x
        · subst hi
          omega
        · have := hs' i (lo + x - 1) h1 (by omega) (by omega)
          omega
theorem w_upTail (L : LtOk M A E s kd S rk) {st : SortSt} {lo m nrem : Nat} {Q : Option Nat → SortSt → Prop} (B : Sane kd S n st) (hn : lo + nrem ≤ n) (h1 : 1 ≤ m) (hm : m ≤ nrem) (hs : Dn rk (arrOf st) lo (lo + m))
    (h : ∀ k st', Mv lo (lo + nrem) st st' → 1 ≤ k → k ≤ nrem → Up rk (arrOf st') lo (lo + k) → Q (some k) st') : wpS M A E s (upTail lo m nrem) Q st := by
  unfold upTail
  have hz : lo + m ≤ (arrOf st).size := by rw [B.size]; omega
  have v : Mv lo (lo + nrem) st (setArr st (mirror (arrOf st) lo (lo + m) ((lo + m - lo) / 2))) := Mv.mirrored (Nat.le_refl _) (by omega) hz
  refine wpS_bind (w_reverse (wpS_bind (w_upLoop L (v.sane B) hn h1 hm ?_ fun k k1 k2 k3 _ => wpS_pure (h k _ v (by omega) k2 k3))))
  intro i j a b c
  show kx rk (mirror (arrOf st) lo (lo + m) ((lo + m - lo) / 2)) i ≤ kx rk (mirror (arrOf st) lo (lo + m) ((lo + m - lo) / 2)) j
  rw [kx_mirror rk hz, kx_mirror rk hz, if_pos (by omega), if_pos (by omega)]
  exact hs _ _ (by omega) (by omega) (by omega)
theorem w_dnLoop (L : LtOk M A E s kd S rk) {st : SortSt} {lo m nrem : Nat} {Q : DescSt → SortSt → Prop} (B : Sane kd S n st) (hn : lo + nrem ≤ n) (h1 : 1 ≤ m) (hm : m ≤ nrem) (hs : Dn rk (arrOf st) lo (lo + m))
    (h : ∀ k q st', Mv lo (lo + nrem) st st' → m ≤ k → k ≤ nrem → Dn rk (arrOf st') lo (lo + k) → q + 1 ≤ k → (∀ i, lo + k - (q + 1) ≤ i → i < lo + k → kx rk (arrOf st') i = kx rk (arrOf st') (lo + k - 1)) → Q (none, k, q) st') :
    wpS M A E s (dnLoop lo m nrem) Q st := by
  unfold dnLoop
  refine wpS_forRange (I := fun x c st' => ∃ q, c = (none, x, q) ∧ Mv lo (lo + nrem) st st' ∧ Dn rk (arrOf st') lo (lo + x) ∧ q + 1 ≤ x ∧
    (∀ i, lo + x - (q + 1) ≤ i → i < lo + x → kx rk (arrOf st') i = kx rk (arrOf st') (lo + x - 1))) ?turn ?last ⟨0, rfl, Mv.refl _ _ _, hs, by omega, fun i a b => by rw [show i = lo + m - 1 by omega]⟩
  case last =>
    rintro c st' ⟨q, rfl, v, hs', hq, he⟩
    have e : max m nrem = nrem := by omega
    rw [e] at hs' hq he ⊢
    exact h nrem q st' v hm (Nat.le_refl _) hs' hq he
  case turn =>
    rintro x c st' hax hxn ⟨q, rfl, v, hs', hq, he⟩
    dsimp only
    have B' := v.sane B
    have hz : lo + x ≤ (arrOf st').size := by rw [B'.size]; omega
    refine wpS_bind (w_ltAt L B' (by omega) (by omega) ?_)
    by_cases hless : kx rk (arrOf st') (lo + x) < kx rk (arrOf st') (lo + x - 1)
    · simp only [hless, decide_true, if_true]
      have more : ∀ xs : Array Keyed, (∀ k, kx rk xs k = kx rk (arrOf st') k) → Dn rk xs lo (lo + (x + 1)) := by
        intro xs hk i j a b c
        rw [hk, hk]
        by_cases hj : j < lo + x
        · exact hs' i j a b hj
        · have hj' : j = lo + x := by omega
          subst hj'
          by_cases hi : i = lo + x
          · subst hi
            omega
          · have := hs' i (lo + x - 1) a (by omega) (by omega)
            omega
      by_cases hq0 : q > 0
      · rw [if_pos hq0]
        exact wpS_bind (w_reverse (wpS_pure ⟨0, rfl, v.trans (Mv.mirrored (by omega) (by omega) hz), more _ (kx_mirror_level rk hz he), by omega, fun i a b => by rw [show i = lo + (x + 1) - 1 by omega]⟩))
      · rw [if_neg hq0]
        exact wpS_pure ⟨0, rfl, v, more _ (fun _ => rfl), by omega, fun i a b => by rw [show i = lo + (x + 1) - 1 by omega]⟩
    · simp only [hless, decide_false, Bool.false_eq_true, if_false]
      refine wpS_bind (w_ltAt L B' (by omega) (by omega) ?_)
      by_cases hbig : kx rk (arrOf st') (lo + x - 1) < kx rk (arrOf st') (lo + x)
      · simp only [hbig, decide_true, if_true]
        exact wpS_pure (h x q st' v hax (by omega) hs' hq he)
      · simp only [hbig, decide_false, Bool.false_eq_true, if_false]
        have ex : kx rk (arrOf st') (lo + x) = kx rk (arrOf st') (lo + x - 1) := by omega
        refine wpS_pure ⟨q + 1, rfl, v, fun i j a b c => ?_, by omega, fun i a b => ?_⟩
        · by_cases hj : j < lo + x
          · exact hs' i j a b hj
          · have hj' : j = lo + x := by omega
            subst hj'
            by_cases hi : i = lo + x
            · subst hi
              omega
            · have := hs' i (lo + x - 1) a (by omega) (by omega)
              omega
        · rw [show lo + (x + 1) - 1 = lo + x by omega]
          by_cases hi : i = lo + x
          · rw [hi]
          · rw [ex]
            exact he i (by omega) (by omega)
theorem w_dnPart (L : LtOk M A E s kd S rk) {st : SortSt} {lo m nrem : Nat} {Q : Option Nat → SortSt → Prop} (B : Sane kd S n st) (hn : lo + nrem ≤ n) (hm : m + 1 ≤ nrem) (hs : Dn rk (arrOf st) lo (lo + (m + 1)))
    (h : ∀ k st', Mv lo (lo + nrem) st st' → 1 ≤ k → k ≤ nrem → Up rk (arrOf st') lo (lo + k) → Q (some k) st') : wpS M A E s (dnPart lo m nrem) Q st := by
  unfold dnPart
  refine wpS_bind (wpS_lift (wpAny_rule ⟨rfl, ?_⟩))
  refine wpS_bind (w_dnLoop L B hn (by omega) hm hs fun k q st' v k1 k2 hs' hq he => ?_)
  dsimp only
  have B' := v.sane B
  have hz : lo + k ≤ (arrOf st').size := by rw [B'.size]; omega
  by_cases hq0 : q > 0
  · rw [if_pos hq0]
    have v2 : Mv lo (lo + nrem) st' (setArr st' (mirror (arrOf st') (lo + k - (q + 1)) (lo + k) ((lo + k - (lo + k - (q + 1))) / 2))) := Mv.mirrored (by omega) (by omega) hz
    refine wpS_bind (w_reverse (w_upTail L (v2.sane B') hn (by omega) k2 ?_ fun j st2 v3 => h j st2 ((v.trans v2).trans v3)))
    intro i j a b c
    show kx rk (mirror (arrOf st') (lo + k - (q + 1)) (lo + k) ((lo + k - (lo + k - (q + 1))) / 2)) j ≤ kx rk (mirror (arrOf st') (lo + k - (q + 1)) (lo + k) ((lo + k - (lo + k - (q + 1))) / 2)) i
    rw [kx_mirror_level rk hz he, kx_mirror_level rk hz he]
    exact hs' i j a b c
  · rw [if_neg hq0]
    exact w_upTail L B' hn (by omega) k2 hs' fun j st2 v3 => h j st2 (v.trans v3)
theorem w_countRun (L : LtOk M A E s kd S rk) {st : SortSt} {lo nrem : Nat} {Q : Option Nat → SortSt → Prop} (B : Sane kd S n st) (hn : lo + nrem ≤ n) (h1 : 1 ≤ nrem)
    (h : ∀ k st', Mv lo (lo + nrem) st st' → 1 ≤ k → k ≤ nrem → Up rk (arrOf st') lo (lo + k) → Q (some k) st') : wpS M A E s (countRun' lo nrem) Q st := by
  rw [countRun_at]
  refine wpS_bind (w_upLoop L B hn (Nat.le_refl 1) h1 (fun i j a b c => by rw [show i = j by omega]; exact Int.le_refl _) fun m m1 m2 hs hor => ?_)
  dsimp only
  by_cases hm : m = nrem
  · rw [if_pos (by simpa using hm)]
    exact wpS_pure (h m st (Mv.refl _ _ _) m1 m2 hs)
  · rw [if_neg (by simpa using hm)]
    have hlt := hor.resolve_left hm
    by_cases hg : m > 1
    · rw [if_pos hg]
      refine wpS_bind (w_ltAt L B (by omega) (by omega) ?_)
      by_cases hrose : kx rk (arrOf st) lo < kx rk (arrOf st) (lo + m - 1)
      · simp only [hrose, decide_true, if_true]
        exact wpS_pure (h m st (Mv.refl _ _ _) m1 m2 hs)
      · simp only [hrose, decide_false, Bool.false_eq_true, if_false]
        have hz : lo + m ≤ (arrOf st).size := by rw [B.size]; omega
        have lev : ∀ k, lo ≤ k → k < lo + m → kx rk (arrOf st) k = kx rk (arrOf st) (lo + m - 1) := by
          intro k a b
          have a1 := hs lo k (Nat.le_refl _) a b
          have a2 := hs k (lo + m - 1) a (by omega) (by omega)
          omega
        have v : Mv lo (lo + nrem) st (setArr st (mirror (arrOf st) lo (lo + m) ((lo + m - lo) / 2))) := Mv.mirrored (Nat.le_refl _) (by omega) hz
        refine wpS_bind (w_reverse (w_dnPart L (v.sane B) hn (by omega) ?_ fun j st2 v3 => h j st2 (v.trans v3)))
        intro i j a b c
        show kx rk (mirror (arrOf st) lo (lo + m) ((lo + m - lo) / 2)) j ≤ kx rk (mirror (arrOf st) lo (lo + m) ((lo + m - lo) / 2)) i
        rw [kx_mirror_level rk hz lev, kx_mirror_level rk hz lev]
        by_cases hj : j < lo + m
        · rw [lev i a (by omega), lev j (by omega) hj]
          exact Int.le_refl _
        · have hj' : j = lo + m := by omega
          subst hj'
          by_cases hi : i = lo + m
          · subst hi
            omega
          · rw [lev i a (by omega)]
            omega
    · rw [if_neg hg]
      have hm1 : m = 1 := by omega
      subst hm1
      refine w_dnPart L B hn (by omega) ?_ h
      intro i j a b c
      by_cases hi : i = j
      · rw [hi]
        exact Int.le_refl _
      · have e1 : i = lo := by omega
        have e2 : j = lo + 1 := by omega
        subst e1 e2
        have : i + 1 - 1 = i := by omega
        rw [this] at hlt
        omega
theorem w_binarySort (L : LtOk M A E s kd S rk) {st : SortSt} {lo m ok : Nat} {Q : Bool → SortSt → Prop} (B : Sane kd S n st) (hn : lo + m ≤ n) (hok : ok ≤ m) (hs : Up rk (arrOf st) lo (lo + ok))
    (h : ∀ st', Mv lo (lo + m) st st' → Up rk (arrOf st') lo (lo + m) → Q true st') : wpS M A E s (binarySort' lo m ok) Q st := by
  rw [binarySort'_eq]
  refine wpS_bind (wpS_mono (wpS_forRange (I := fun k c st' => c = (none, ()) ∧ Mv lo (lo + m) st st' ∧ Up rk (arrOf st') lo (lo + min k m))
    (Q := fun c st' => c = (none, ()) ∧ Mv lo (lo + m) st st' ∧ Up rk (arrOf st') lo (lo + m)) ?turn ?last ?first) ?after)
  case after =>
    rintro c st' ⟨rfl, v, hs'⟩
    exact wpS_pure (h st' v hs')
  case first =>
    refine ⟨rfl, Mv.refl _ _ _, fun i j a b c => ?_⟩
    by_cases h0 : ok = 0
    · rw [show i = j by omega]
      exact Int.le_refl _
    · exact hs i j a b (by omega)
  case last =>
    rintro c st' ⟨hc, v, hs'⟩
    refine ⟨hc, v, ?_⟩
    rwa [show min (max (max ok 1) m) m = m by omega] at hs'
  case turn =>
    rintro k c st' hak hkm ⟨rfl, v, hs'⟩
    have e0 : min k m = k := by omega
    rw [e0] at hs'
    have B' := v.sane B
    refine wpS_bind (wpS_mono (wpS_forRange (I := fun x c st2 => st2 = st' ∧ ∃ l r, c = (none, l, r) ∧ l ≤ r ∧ r ≤ k ∧ r - l ≤ k - x ∧
        (∀ i, i < l → kx rk (arrOf st') (lo + i) ≤ kx rk (arrOf st') (lo + k)) ∧ (∀ i, r ≤ i → i < k → kx rk (arrOf st') (lo + k) < kx rk (arrOf st') (lo + i)))
      (Q := fun c st2 => st2 = st' ∧ ∃ l r, c = (none, l, r) ∧ l ≤ k ∧
        (∀ i, i < l → kx rk (arrOf st') (lo + i) ≤ kx rk (arrOf st') (lo + k)) ∧ (∀ i, l ≤ i → i < k → kx rk (arrOf st') (lo + k) < kx rk (arrOf st') (lo + i))) ?iturn ?ilast ?ifirst) ?iafter)
    case ifirst => exact ⟨rfl, 0, k, rfl, by omega, by omega, by omega, fun i hi => by omega, fun i a b => by omega⟩
    case ilast =>
      rintro c st2 ⟨rfl, l, r, rfl, hlr, hrk, hd, hlo, hhi⟩
      have e : l = r := by omega
      subst e
      exact ⟨rfl, l, l, rfl, hrk, hlo, hhi⟩
    case iturn =>
      rintro x c st2 _ hxk ⟨rfl, l, r, rfl, hlr, hrk, hd, hlo, hhi⟩
      dsimp only
      by_cases hge : l ≥ r
      · rw [if_pos hge]
        have e : l = r := by omega
        subst e
        exact wpS_pure ⟨rfl, l, l, rfl, hrk, hlo, hhi⟩
      · rw [if_neg hge]
        refine wpS_bind (w_ltAt L B' (by omega) (by omega) ?_)
        by_cases hless : kx rk (arrOf st2) (lo + k) < kx rk (arrOf st2) (lo + (l + r) / 2)
        · simp only [hless, decide_true, if_true]
          refine wpS_pure ⟨rfl, l, (l + r) / 2, rfl, by omega, by omega, by omega, hlo, fun i a b => ?_⟩
          have := hs' (lo + (l + r) / 2) (lo + i) (by omega) (by omega) (by omega)
          omega
        · simp only [hless, decide_false, Bool.false_eq_true, if_false]
          refine wpS_pure ⟨rfl, (l + r) / 2 + 1, r, rfl, by omega, by omega, by omega, fun i a => ?_, hhi⟩
          have := hs' (lo + i) (lo + (l + r) / 2) (by omega) (by omega) (by omega)
          omega
    case iafter =>
      rintro c st2 ⟨rfl, l, r, rfl, hlk, hlo, hhi⟩
      show wpS M A E s (moveDown' (lo + k) (lo + l) >>= fun _ => pure (ForInStep.yield (none, ()))) _ st2
      rw [moveDown'_eq]
      have hz : lo + k < (arrOf st2).size := by rw [B'.size]; omega
      refine wpS_bind (wpS_modify (wpS_pure ⟨rfl, v.trans (Mv.sunk (by omega) (by omega) hz), ?_⟩))
      rw [show min (k + 1) m = k + 1 by omega]
      intro i j a b c
      show kx rk (bubble (arrOf st2) (lo + k) (lo + k - (lo + l))) i ≤ kx rk (bubble (arrOf st2) (lo + k) (lo + k - (lo + l))) j
      rw [kx_bubble rk hz (by omega), kx_bubble rk hz (by omega), show lo + k - (lo + k - (lo + l)) = lo + l by omega]
      have low : ∀ q, lo ≤ q → q < lo + l → kx rk (arrOf st2) q ≤ kx rk (arrOf st2) (lo + k) := fun q a b => by
        have := hlo (q - lo) (by omega)
        rwa [show lo + (q - lo) = q by omega] at this
      have high : ∀ q, lo + l ≤ q → q < lo + k → kx rk (arrOf st2) (lo + k) < kx rk (arrOf st2) q := fun q a b => by
        have := hhi (q - lo) (by omega) (by omega)
        rwa [show lo + (q - lo) = q by omega] at this
      repeat' split
      all_goals first
        | (exfalso; omega)
        | exact Int.le_refl _
        | exact low _ (by omega) (by omega)
        | exact Int.le_of_lt (high _ (by omega) (by omega))
        | exact hs' _ _ (by omega) (by omega) (by omega)
end
end Tim
namespace Tim
section
variable {α : Type} {rk : α → Int} {as bs out : List α} {ia ib : Nat}
def Asc (rk : α → Int) (l : List α) : Prop := l.Pairwise fun p q => rk p ≤ rk q
structure Jn (rk : α → Int) (as bs out : List α) (ia ib : Nat) : Prop where
  perm : out.Perm (as.take ia ++ bs.take ib)
  asc : Asc rk out
  la : ∀ p ∈ out, ∀ q ∈ as.drop ia, rk p ≤ rk q
  lb : ∀ p ∈ out, ∀ q ∈ bs.drop ib, rk p ≤ rk q
theorem Jn.swap (h : Jn rk as bs out ia ib) : Jn rk bs as out ib ia := ⟨h.perm.trans List.perm_append_comm, h.asc, h.lb, h.la⟩
theorem Jn.start : Jn rk as bs [] 0 0 := ⟨by simp, List.Pairwise.nil, (fun _ z => nomatch z), (fun _ z => nomatch z)⟩
theorem asc_drop (h : Asc rk as) (i : Nat) : Asc rk (as.drop i) := List.Pairwise.sublist (List.drop_sublist i as) h
theorem drop_split (as : List α) (i k : Nat) : as.drop i = (as.drop i).take k ++ as.drop (i + k) := by
  rw [← List.drop_drop, List.take_append_drop]
theorem Jn.moreA (h : Jn rk as bs out ia ib) (ha : Asc rk as) (k : Nat) (hx : ∀ p ∈ (as.drop ia).take k, ∀ q ∈ bs.drop ib, rk p ≤ rk q) : Jn rk as bs (out ++ (as.drop ia).take k) (ia + k) ib := by
  have hd := asc_drop ha ia
  rw [drop_split as ia k] at hd
  obtain ⟨d1, d2, d3⟩ := List.pairwise_append.mp hd
  have sub1 : ∀ q, q ∈ (as.drop ia).take k → q ∈ as.drop ia := fun q hq => (List.take_sublist _ _).mem hq
  have sub2 : ∀ q, q ∈ as.drop (ia + k) → q ∈ as.drop ia := fun q hq => by
    rw [drop_split as ia k]
    exact List.mem_append_right _ hq
  refine ⟨?_, ?_, fun p hp q hq => ?_, fun p hp q hq => ?_⟩
  · rw [List.take_add, List.append_assoc]
    refine (h.perm.append_right _).trans ?_
    rw [List.append_assoc]
    exact List.Perm.append_left _ List.perm_append_comm
  · exact List.pairwise_append.mpr ⟨h.asc, d1, fun p hp q hq => h.la p hp q (sub1 q hq)⟩
  · rcases List.mem_append.mp hp with hp | hp
    · exact h.la p hp q (sub2 q hq)
    · exact d3 p hp q hq
  · rcases List.mem_append.mp hp with hp | hp
    · exact h.lb p hp q hq
    · exact hx p hp q hq
theorem Jn.done (h : Jn rk as bs out ia ib) (ha : Asc rk as) (hb : Asc rk bs) (hx : ∀ p ∈ as.drop ia, ∀ q ∈ bs.drop ib, rk p ≤ rk q) :
    (out ++ as.drop ia ++ bs.drop ib).Perm (as ++ bs) ∧ Asc rk (out ++ as.drop ia ++ bs.drop ib) := by
  constructor
  · refine ((h.perm.append_right _).append_right _).trans ?_
    have e1 : as = as.take ia ++ as.drop ia := (List.take_append_drop ..).symm
    have e2 : bs = bs.take ib ++ bs.drop ib := (List.take_append_drop ..).symm
    refine List.Perm.trans ?_ (List.Perm.of_eq (show (as.take ia ++ as.drop ia) ++ (bs.take ib ++ bs.drop ib) = as ++ bs by rw [← e1, ← e2]))
    simp only [List.append_assoc]
    refine List.Perm.append_left _ ?_
    rw [← List.append_assoc, ← List.append_assoc]
    exact List.Perm.append_right _ List.perm_append_comm
  · refine List.pairwise_append.mpr ⟨List.pairwise_append.mpr ⟨h.asc, asc_drop ha _, h.la⟩, asc_drop hb _, fun p hp q hq => ?_⟩
    rcases List.mem_append.mp hp with hp | hp
    · exact h.lb p hp q hq
    · exact hx p hp q hq
theorem Jn.done2 (h : Jn rk as bs out ia ib) (ha : Asc rk as) (hb : Asc rk bs) (hx : ∀ p ∈ bs.drop ib, ∀ q ∈ as.drop ia, rk p ≤ rk q) :
    (out ++ bs.drop ib ++ as.drop ia).Perm (as ++ bs) ∧ Asc rk (out ++ bs.drop ib ++ as.drop ia) :=
  let ⟨a, b⟩ := h.swap.done hb ha hx
  ⟨a.trans List.perm_append_comm, b⟩
theorem asc_rev (h : Asc rk as) : Asc (fun p => - rk p) as.reverse := by
  unfold Asc
  rw [List.pairwise_reverse]
  exact List.Pairwise.imp (fun {p q} (z : rk p ≤ rk q) => show - rk q ≤ - rk p by omega) h
theorem asc_rev' (h : Asc (fun p => - rk p) as) : Asc rk as.reverse := by
  unfold Asc
  rw [List.pairwise_reverse]
  exact List.Pairwise.imp (fun {p q} (z : - rk p ≤ - rk q) => show rk q ≤ rk p by omega) h
theorem rev_drop (as : List α) (k : Nat) (h : k ≤ as.length) : as.reverse.drop (as.length - k) = (as.take k).reverse := by
  rw [List.drop_reverse]
  congr 1
  congr 1
  omega
theorem rev_cut (as : List α) (i k : Nat) (hi : i ≤ k) (h : k ≤ as.length) : (as.reverse.drop (as.length - k)).take (k - i) = ((as.drop i).take (k - i)).reverse := by
  rw [rev_drop as k h, List.take_reverse, List.length_take, Nat.min_eq_left h]
  congr 1
  rw [List.drop_take]
  congr 1
  · omega
  · congr 1
    omega
theorem drop_ge (ha : Asc rk as) {i : Nat} {x : α} (hx : as[i]? = some x) : ∀ q ∈ as.drop i, rk x ≤ rk q := by
  intro q hq
  obtain ⟨j, hj, e⟩ := List.mem_iff_getElem.mp hq
  rw [List.getElem_drop] at e
  obtain ⟨hi, ex⟩ := List.getElem?_eq_some_iff.mp hx
  subst e ex
  rcases Nat.eq_zero_or_pos j with h | h
  · subst h
    exact Int.le_refl _
  · exact List.pairwise_iff_getElem.mp ha i (i + j) hi (by rw [List.length_drop] at hj; omega) (by omega)
theorem take_le (ha : Asc rk as) {i : Nat} {x : α} (hx : as[i]? = some x) : ∀ q ∈ as.take (i + 1), rk q ≤ rk x := by
  intro q hq
  obtain ⟨j, hj, e⟩ := List.mem_iff_getElem.mp hq
  rw [List.getElem_take] at e
  obtain ⟨hi, ex⟩ := List.getElem?_eq_some_iff.mp hx
  subst e ex
  have hj' : j ≤ i := by rw [List.length_take] at hj; omega
  rcases Nat.lt_or_ge j i with h | h
  · exact List.pairwise_iff_getElem.mp ha j i (by omega) hi h
  · have : j = i := by omega
    subst this
    exact Int.le_refl _
theorem take_one {i : Nat} {x : α} (hx : as[i]? = some x) : (as.drop i).take 1 = [x] := by
  obtain ⟨hi, ex⟩ := List.getElem?_eq_some_iff.mp hx
  rw [List.drop_eq_getElem_cons hi, ex]
  rfl
end
end Tim
namespace Tim
open PySem PyProof.Rows
def gallopS : Bool → Keyed → Array Keyed → Nat → Nat → Nat → StateT SortSt Sem (Option Nat) := sortPriv% PySem.Builtin.gallop
def beyd (left : Bool) (key : Keyed) (arr : Array Keyed) (i : Nat) : StateT SortSt Sem (Option Bool) := do
  let p ← elem' arr i
  if left then lt' p key else return (← lt' key p).map (!·)
theorem gallopS_eq (left : Bool) (key : Keyed) (arr : Array Keyed) (base n hint : Nat) : gallopS left key arr base n hint = (do
  let mut bk := 0
  let mut fw := 1
  let mut lo := 0
  let mut up := 0
  let some rt ← beyd left key arr (base + hint) | return none
  if rt then
    let most := n - hint
    for _ in [0:n] do
      if fw ≥ most then break
      let some mr ← beyd left key arr (base + (hint + fw)) | return none
      if !mr then break
      bk := fw
      fw := 2 * fw + 1
    lo := hint + bk + 1
    up := hint + min fw most
  else
    let most := hint + 1
    for _ in [0:n] do
      if fw ≥ most then break
      let some fd ← beyd left key arr (base + (hint - fw)) | return none
      if fd then break
      bk := fw
      fw := 2 * fw + 1
    lo := hint + 1 - min fw most
    up := hint - bk
  for _ in [0:n] do
    if lo ≥ up then break
    let md := lo + (up - lo) / 2
    let some mr ← beyd left key arr (base + md) | return none
    if mr then lo := md + 1 else up := md
  return some up) := rfl
def ahd (left : Bool) (k v : Int) : Bool := if left then decide (v < k) else decide (v ≤ k)
theorem ahd_mono {left : Bool} {k v u : Int} (h : v ≤ u) (e : ahd left k u = true) : ahd left k v = true := by
  unfold ahd at *
  cases left
  · simp at *
    omega
  · simp at *
    omega
def gBin (left : Bool) (key : Keyed) (arr : Array Keyed) (base n lo0 up0 : Nat) : StateT SortSt Sem (Option Nat) := do
  let mut lo := lo0
  let mut up := up0
  for _ in [0:n] do
    if lo ≥ up then break
    let md := lo + (up - lo) / 2
    let some mr ← beyd left key arr (base + md) | return none
    if mr then lo := md + 1 else up := md
  return some up
section
variable {M : Model} {A : Around} {E : Value → Shared → Prop} {s : Shared} {kd : SortKind} {S : Keyed → Prop} {rk : Keyed → Int}
theorem w_elem {st : SortSt} {arr : Array Keyed} {i : Nat} {p : Keyed} {Q : Keyed → SortSt → Prop} (e : arr[i]? = some p) (h : Q p st) : wpS M A E s (elem' arr i) Q st := by
  rw [elem'_eq, e]
  exact wpS_pure h
theorem w_beyd (L : LtOk M A E s kd S rk) {st : SortSt} {left : Bool} {key : Keyed} {arr : Array Keyed} {i : Nat} {Q : Option Bool → SortSt → Prop} (hk : kindOf st = kd) (hS : S key) (hp : ∃ p, arr[i]? = some p ∧ S p)
    (h : Q (some (ahd left (rk key) (kx rk arr i))) st) : wpS M A E s (beyd left key arr i) Q st := by
  obtain ⟨p, e, sp⟩ := hp
  rw [kx_of e] at h
  unfold beyd
  refine wpS_bind (w_elem e ?_)
  cases left with
  | true => exact L p key st Q sp hS hk h
  | false =>
    refine wpS_bind (L key p st _ hS sp hk (wpS_pure ?_))
    have e2 : (!decide (rk key < rk p)) = ahd false (rk key) (rk p) := by
      unfold ahd
      simp
      rw [← decide_not]
      simp
    show Q (some (!decide (rk key < rk p))) st
    rw [e2]
    exact h
theorem w_gBin (L : LtOk M A E s kd S rk) {st : SortSt} {left : Bool} {key : Keyed} {arr : Array Keyed} {base n lo up : Nat} {Q : Option Nat → SortSt → Prop} (hk : kindOf st = kd) (hS : S key)
    (hp : ∀ i, i < n → ∃ p, arr[base + i]? = some p ∧ S p) (hu : Up rk arr base (base + n)) (hlu : lo ≤ up) (hun : up ≤ n) (h1 : ∀ i, i < lo → ahd left (rk key) (kx rk arr (base + i)) = true)
    (h2 : ∀ i, up ≤ i → i < n → ahd left (rk key) (kx rk arr (base + i)) = false)
    (h : ∀ k, k ≤ n → (∀ i, i < k → ahd left (rk key) (kx rk arr (base + i)) = true) → (∀ i, k ≤ i → i < n → ahd left (rk key) (kx rk arr (base + i)) = false) → Q (some k) st) :
    wpS M A E s (gBin left key arr base n lo up) Q st := by
  unfold gBin
  dsimp only
  refine wpS_bind (wpS_mono (wpS_forRange (I := fun x c st' => st' = st ∧ ∃ lo up, c = (none, lo, up) ∧ lo ≤ up ∧ up ≤ n ∧ up - lo ≤ n - x ∧
      (∀ i, i < lo → ahd left (rk key) (kx rk arr (base + i)) = true) ∧ (∀ i, up ≤ i → i < n → ahd left (rk key) (kx rk arr (base + i)) = false))
    (Q := fun c st' => st' = st ∧ ∃ lo up, c = (none, lo, up) ∧ up ≤ n ∧
      (∀ i, i < up → ahd left (rk key) (kx rk arr (base + i)) = true) ∧ (∀ i, up ≤ i → i < n → ahd left (rk key) (kx rk arr (base + i)) = false)) ?turn ?last ⟨rfl, lo, up, rfl, hlu, hun, by omega, h1, h2⟩) ?after)
  case after =>
    rintro c st' ⟨rfl, lo, up, rfl, a, b, d⟩
    exact wpS_pure (h up a b d)
  case last =>
    rintro c st' ⟨rfl, lo, up, rfl, a, b, d, e1, e2⟩
    have e : lo = up := by omega
    subst e
    exact ⟨rfl, lo, lo, rfl, b, e1, e2⟩
  case turn =>
    rintro x c st' _ hx ⟨rfl, lo, up, rfl, a, b, d, e1, e2⟩
    dsimp only
    by_cases hge : lo ≥ up
    · rw [if_pos hge]
      have e : lo = up := by omega
      subst e
      exact wpS_pure ⟨rfl, lo, lo, rfl, b, e1, e2⟩
    · rw [if_neg hge]
      refine wpS_bind (w_beyd L hk hS (hp _ (by omega)) ?_)
      cases em : ahd left (rk key) (kx rk arr (base + (lo + (up - lo) / 2))) with
      | true =>
        dsimp only
        rw [if_pos rfl]
        refine wpS_pure ⟨rfl, _, _, rfl, by omega, b, by omega, fun i hi => ?_, e2⟩
        exact ahd_mono (hu _ _ (by omega) (by omega) (by omega)) em
      | false =>
        dsimp only
        rw [if_neg Bool.false_ne_true]
        refine wpS_pure ⟨rfl, _, _, rfl, by omega, by omega, by omega, e1, fun i hi hn => ?_⟩
        cases ei : ahd left (rk key) (kx rk arr (base + i)) with
        | false => rfl
        | true =>
          have := ahd_mono (hu (base + (lo + (up - lo) / 2)) (base + i) (by omega) (by omega) (by omega)) ei
          rw [em] at this
          cases this
theorem w_gallop (L : LtOk M A E s kd S rk) {st : SortSt} {left : Bool} {key : Keyed} {arr : Array Keyed} {base n hint : Nat} {Q : Option Nat → SortSt → Prop} (hk : kindOf st = kd) (hS : S key)
    (hp : ∀ i, i < n → ∃ p, arr[base + i]? = some p ∧ S p) (hu : Up rk arr base (base + n)) (hh : hint < n)
    (h : ∀ k, k ≤ n → (∀ i, i < k → ahd left (rk key) (kx rk arr (base + i)) = true) → (∀ i, k ≤ i → i < n → ahd left (rk key) (kx rk arr (base + i)) = false) → Q (some k) st) :
    wpS M A E s (gallopS left key arr base n hint) Q st := by
  have dn : ∀ i j, i ≤ j → j < n → ahd left (rk key) (kx rk arr (base + j)) = true → ahd left (rk key) (kx rk arr (base + i)) = true := fun i j a b e => ahd_mono (hu _ _ (by omega) (by omega) (by omega)) e
  have nu : ∀ i j, i ≤ j → j < n → ahd left (rk key) (kx rk arr (base + i)) = false → ahd left (rk key) (kx rk arr (base + j)) = false := fun i j a b e => by
    cases ej : ahd left (rk key) (kx rk arr (base + j)) with
    | false => rfl
    | true =>
      rw [dn i j a b ej] at e
      cases e
  rw [gallopS_eq]
  dsimp only
  refine wpS_bind (w_beyd L hk hS (hp hint hh) ?_)
  cases e0 : ahd left (rk key) (kx rk arr (base + hint)) with
  | true =>
    dsimp only
    rw [if_pos rfl]
    refine wpS_bind (wpS_mono (wpS_forRange (I := fun x c st' => st' = st ∧ ∃ bk fw, c = (none, bk, fw) ∧ bk < fw ∧ x + 1 ≤ fw ∧ hint + bk < n ∧ ahd left (rk key) (kx rk arr (base + (hint + bk))) = true)
      (Q := fun c st' => st' = st ∧ ∃ bk fw, c = (none, bk, fw) ∧ bk < fw ∧ hint + bk < n ∧ ahd left (rk key) (kx rk arr (base + (hint + bk))) = true ∧ (n - hint ≤ fw ∨ hint + fw < n ∧ ahd left (rk key) (kx rk arr (base + (hint + fw))) = false)) ?turn ?last ⟨rfl, 0, 1, rfl, by omega, by omega, by omega, e0⟩) ?after)
    case last =>
      rintro c st' ⟨rfl, bk, fw, rfl, a, b, d, e⟩
      exact ⟨rfl, bk, fw, rfl, a, d, e, .inl (by omega)⟩
    case turn =>
      rintro x c st' _ hx ⟨rfl, bk, fw, rfl, a, b, d, e⟩
      dsimp only
      by_cases hge : fw ≥ n - hint
      · rw [if_pos hge]
        exact wpS_pure ⟨rfl, bk, fw, rfl, a, d, e, .inl hge⟩
      · rw [if_neg hge]
        refine wpS_bind (w_beyd L hk hS (hp _ (by omega)) ?_)
        cases em : ahd left (rk key) (kx rk arr (base + (hint + fw))) with
        | true =>
          dsimp only
          rw [if_neg (by simp)]
          exact wpS_pure ⟨rfl, fw, _, rfl, by omega, by omega, by omega, em⟩
        | false =>
          dsimp only
          rw [if_pos (by simp)]
          exact wpS_pure ⟨rfl, bk, fw, rfl, a, d, e, .inr ⟨by omega, em⟩⟩
    case after =>
      rintro c st' ⟨rfl, bk, fw, rfl, a, d, e, f⟩
      dsimp only
      refine w_gBin L hk hS hp hu (lo := hint + bk + 1) (up := hint + min fw (n - hint)) (by omega) (by omega) (fun i hi => dn i (hint + bk) (by omega) d e) (fun i hi hn => ?_) h
      rcases f with f | ⟨f1, f2⟩
      · omega
      · exact nu (hint + fw) i (by omega) hn f2
  | false =>
    dsimp only
    rw [if_neg Bool.false_ne_true]
    refine wpS_bind (wpS_mono (wpS_forRange (I := fun x c st' => st' = st ∧ ∃ bk fw, c = (none, bk, fw) ∧ bk < fw ∧ x + 1 ≤ fw ∧ bk ≤ hint ∧ ahd left (rk key) (kx rk arr (base + (hint - bk))) = false)
      (Q := fun c st' => st' = st ∧ ∃ bk fw, c = (none, bk, fw) ∧ bk < fw ∧ bk ≤ hint ∧ ahd left (rk key) (kx rk arr (base + (hint - bk))) = false ∧ (hint + 1 ≤ fw ∨ fw ≤ hint ∧ ahd left (rk key) (kx rk arr (base + (hint - fw))) = true)) ?turn ?last ⟨rfl, 0, 1, rfl, by omega, by omega, by omega, e0⟩) ?after)
    case last =>
      rintro c st' ⟨rfl, bk, fw, rfl, a, b, d, e⟩
      exact ⟨rfl, bk, fw, rfl, a, d, e, .inl (by omega)⟩
    case turn =>
      rintro x c st' _ hx ⟨rfl, bk, fw, rfl, a, b, d, e⟩
      dsimp only
      by_cases hge : fw ≥ hint + 1
      · rw [if_pos hge]
        exact wpS_pure ⟨rfl, bk, fw, rfl, a, d, e, .inl hge⟩
      · rw [if_neg hge]
        refine wpS_bind (w_beyd L hk hS (hp _ (by omega)) ?_)
        cases em : ahd left (rk key) (kx rk arr (base + (hint - fw))) with
        | true =>
          dsimp only
          rw [if_pos rfl]
          exact wpS_pure ⟨rfl, bk, fw, rfl, a, d, e, .inr ⟨by omega, em⟩⟩
        | false =>
          dsimp only
          rw [if_neg Bool.false_ne_true]
          exact wpS_pure ⟨rfl, fw, _, rfl, by omega, by omega, by omega, em⟩
    case after =>
      rintro c st' ⟨rfl, bk, fw, rfl, a, d, e, f⟩
      dsimp only
      refine w_gBin L hk hS hp hu (lo := hint + 1 - min fw (hint + 1)) (up := hint - bk) (by omega) (by omega) (fun i hi => ?_) (fun i hi hn => nu (hint - bk) i hi hn e) h
      rcases f with f | ⟨f1, f2⟩
      · omega
      · exact dn i (hint - fw) (by omega) (by omega) f2
end
end Tim
namespace Tim
open PySem PyProof.Rows
def mergeLoS : Array Keyed → Array Keyed → StateT SortSt Sem (Array Keyed) := sortPriv% PySem.Builtin.mergeLo
abbrev setGal (st : SortSt) (g : Nat) : SortSt := SortSt.mk' (kindOf st) (arrOf st) (pendingOf st) g (failedOf st)
def restA (a b out : Array Keyed) (ia ib : Nat) : Array Keyed := out ++ a.extract ia a.size ++ b.extract ib b.size
def restB (a b out : Array Keyed) (ia ib : Nat) : Array Keyed := out ++ b.extract ib b.size ++ a.extract ia a.size
theorem mergeLoS_eq (a b : Array Keyed) : mergeLoS a b = (do
  rule "list.sort.merge-lo"
  let all := a.size + b.size
  let mut o : Array Keyed := #[← elem' b 0]
  let mut x := 0
  let mut y := 1
  if y == b.size then return restA a b o x y
  if x + 1 == a.size then return restB a b o x y
  let mut g := gallopOf (← get)
  for _ in [0:all] do
    let mut ca := 0
    let mut cb := 0
    for _ in [0:all] do
      let some won ← lt' (← elem' b y) (← elem' a x) | return restA a b o x y
      if won then
        o := o.push (← elem' b y); y := y + 1; cb := cb + 1; ca := 0
        if y == b.size then return restA a b o x y
        if cb ≥ g then break
      else
        o := o.push (← elem' a x); x := x + 1; ca := ca + 1; cb := 0
        if x + 1 == a.size then return restB a b o x y
        if ca ≥ g then break
    rule "list.sort.gallop"
    g := g + 1
    for _ in [0:all] do
      if g > 1 then g := g - 1
      modify fun st => setGal st g
      let some k ← gallopS false (← elem' b y) a x (a.size - x) 0 | return restA a b o x y
      ca := k
      if k > 0 then
        o := o ++ a.extract x (x + k); x := x + k
        if x + 1 == a.size then return restB a b o x y
        if x == a.size then return restA a b o x y
      o := o.push (← elem' b y); y := y + 1
      if y == b.size then return restA a b o x y
      let some k ← gallopS true (← elem' a x) b y (b.size - y) 0 | return restA a b o x y
      cb := k
      if k > 0 then
        o := o ++ b.extract y (y + k); y := y + k
        if y == b.size then return restA a b o x y
      o := o.push (← elem' a x); x := x + 1
      if x + 1 == a.size then return restB a b o x y
      if ca < 7 && cb < 7 then break
    g := g + 1
    modify fun st => setGal st g
  unsupported "internal:list.sort.merge-bound") := rfl
structure Gl (st st' : SortSt) : Prop where
  arr : arrOf st' = arrOf st
  kind : kindOf st' = kindOf st
  pend : pendingOf st' = pendingOf st
  failed : failedOf st' = failedOf st
theorem Gl.refl (st : SortSt) : Gl st st := ⟨rfl, rfl, rfl, rfl⟩
theorem Gl.set {st st' : SortSt} (h : Gl st st') (g : Nat) : Gl st (setGal st' g) := ⟨h.arr, h.kind, h.pend, h.failed⟩
section
variable {rk : Keyed → Int} {a b o : Array Keyed} {x y : Nat}
theorem kx_list (xs : Array Keyed) (i : Nat) {p : Keyed} (h : xs.toList[i]? = some p) : kx rk xs i = rk p := kx_of (by rw [← h, Array.getElem?_toList])
theorem mem_cut {l : List Keyed} {i k : Nat} {p : Keyed} (h : p ∈ (l.drop i).take k) : ∃ j, j < k ∧ l[i + j]? = some p := by
  obtain ⟨j, hj, e⟩ := List.mem_iff_getElem.mp h
  rw [List.length_take] at hj
  refine ⟨j, by omega, ?_⟩
  rw [← e, List.getElem_take, List.getElem_drop, List.getElem?_eq_getElem]
theorem mem_rest {l : List Keyed} {i : Nat} {p : Keyed} (h : p ∈ l.drop i) : ∃ j, i ≤ j ∧ j < l.length ∧ l[j]? = some p := by
  obtain ⟨j, hj, e⟩ := List.mem_iff_getElem.mp h
  rw [List.length_drop] at hj
  refine ⟨i + j, by omega, by omega, ?_⟩
  rw [← e, List.getElem_drop, List.getElem?_eq_getElem]
theorem up_asc {xs : Array Keyed} (h : Asc rk xs.toList) (lo hi : Nat) (hh : hi ≤ xs.size) : Up rk xs lo hi := by
  intro i j _ hij hj
  have hi' : i < xs.toList.length := by rw [Array.length_toList]; omega
  have hj' : j < xs.toList.length := by rw [Array.length_toList]; omega
  rw [kx_list xs i (List.getElem?_eq_getElem hi'), kx_list xs j (List.getElem?_eq_getElem hj')]
  rcases Nat.lt_or_ge i j with q | q
  · exact List.pairwise_iff_getElem.mp h i j hi' hj' q
  · have : i = j := by omega
    subst this
    exact Int.le_refl _
theorem ext_list (xs : Array Keyed) (i k : Nat) : (xs.extract i (i + k)).toList = (xs.toList.drop i).take k := by
  rw [Array.toList_extract, List.extract_eq_take_drop]
  congr 1
  omega
theorem ext_rest (xs : Array Keyed) (i : Nat) : (xs.extract i xs.size).toList = xs.toList.drop i := by
  rw [Array.toList_extract, List.extract_eq_take_drop, List.take_of_length_le]
  rw [List.length_drop, Array.length_toList]
  omega
theorem jn_pushA {p : Keyed} (h : Jn rk a.toList b.toList o.toList x y) (ha : Asc rk a.toList) (e : a[x]? = some p) (hle : ∀ q ∈ b.toList.drop y, rk p ≤ rk q) : Jn rk a.toList b.toList (o.push p).toList (x + 1) y := by
  have e' : a.toList[x]? = some p := by rw [Array.getElem?_toList]; exact e
  have := h.moreA ha 1 (by rw [take_one e']; intro z hz; rw [List.mem_singleton.mp hz]; exact hle)
  rwa [take_one e', ← Array.toList_push] at this
theorem jn_pushB {p : Keyed} (h : Jn rk a.toList b.toList o.toList x y) (hb : Asc rk b.toList) (e : b[y]? = some p) (hle : ∀ q ∈ a.toList.drop x, rk p ≤ rk q) : Jn rk a.toList b.toList (o.push p).toList x (y + 1) :=
  (jn_pushA h.swap hb e hle).swap
theorem jn_cutA (h : Jn rk a.toList b.toList o.toList x y) (ha : Asc rk a.toList) (k : Nat) (hx : ∀ p ∈ (a.toList.drop x).take k, ∀ q ∈ b.toList.drop y, rk p ≤ rk q) : Jn rk a.toList b.toList (o ++ a.extract x (x + k)).toList (x + k) y := by
  rw [Array.toList_append, ext_list]
  exact h.moreA ha k hx
theorem jn_cutB (h : Jn rk a.toList b.toList o.toList x y) (hb : Asc rk b.toList) (k : Nat) (hx : ∀ p ∈ (b.toList.drop y).take k, ∀ q ∈ a.toList.drop x, rk p ≤ rk q) : Jn rk a.toList b.toList (o ++ b.extract y (y + k)).toList x (y + k) :=
  (jn_cutA h.swap hb k hx).swap
def Good (rk : Keyed → Int) (a b r : Array Keyed) : Prop := r.toList.Perm (a.toList ++ b.toList) ∧ Asc rk r.toList
theorem good_restA (h : Jn rk a.toList b.toList o.toList x y) (ha : Asc rk a.toList) (hb : Asc rk b.toList) (hy : y = b.size) : Good rk a b (restA a b o x y) := by
  have hx : ∀ p ∈ a.toList.drop x, ∀ q ∈ b.toList.drop y, rk p ≤ rk q := fun p _ q hq => by
    rw [List.drop_of_length_le (by rw [Array.length_toList]; omega)] at hq
    cases hq
  have := h.done ha hb hx
  unfold Good restA
  rw [Array.toList_append, Array.toList_append, ext_rest, ext_rest]
  exact this
end
structure Mg (S : Keyed → Prop) (rk : Keyed → Int) (a b : Array Keyed) : Prop where
  sa : ∀ p ∈ a.toList, S p
  sb : ∀ p ∈ b.toList, S p
  aa : Asc rk a.toList
  ab : Asc rk b.toList
  na : 0 < a.size
  nb : 0 < b.size
  top : ∃ z, a[a.size - 1]? = some z ∧ ∀ p ∈ b.toList, rk p < rk z
  bot : ∃ z, b[0]? = some z ∧ ∀ p ∈ a.toList, rk z < rk p
section
variable {S : Keyed → Prop} {rk : Keyed → Int} {a b o : Array Keyed} {x y : Nat}
theorem Mg.atA (m : Mg S rk a b) {i : Nat} (h : i < a.size) : ∃ p, a[i]? = some p ∧ S p ∧ p ∈ a.toList :=
  ⟨a[i], getElem?_pos a i h, m.sa _ (by simp), by simp⟩
theorem Mg.atB (m : Mg S rk a b) {i : Nat} (h : i < b.size) : ∃ p, b[i]? = some p ∧ S p ∧ p ∈ b.toList :=
  ⟨b[i], getElem?_pos b i h, m.sb _ (by simp), by simp⟩
theorem good_restB (m : Mg S rk a b) (h : Jn rk a.toList b.toList o.toList x y) (hx : x + 1 = a.size) : Good rk a b (restB a b o x y) := by
  obtain ⟨z, ez, hz⟩ := m.top
  have hq : ∀ p ∈ b.toList.drop y, ∀ q ∈ a.toList.drop x, rk p ≤ rk q := fun p hp q hq => by
    obtain ⟨j, h1, h2, e⟩ := mem_rest hq
    rw [Array.length_toList] at h2
    have ej : j = a.size - 1 := by omega
    rw [Array.getElem?_toList, ej, ez] at e
    cases e
    exact Int.le_of_lt (hz p (List.mem_of_mem_drop hp))
  have := h.done2 m.aa m.ab hq
  unfold Good restB
  rw [Array.toList_append, Array.toList_append, ext_rest, ext_rest]
  exact this
theorem dropA_ge (m : Mg S rk a b) {i : Nat} {p : Keyed} (e : a[i]? = some p) : ∀ q ∈ a.toList.drop i, rk p ≤ rk q := drop_ge m.aa (by rw [Array.getElem?_toList]; exact e)
theorem dropB_ge (m : Mg S rk a b) {i : Nat} {p : Keyed} (e : b[i]? = some p) : ∀ q ∈ b.toList.drop i, rk p ≤ rk q := drop_ge m.ab (by rw [Array.getElem?_toList]; exact e)
end
abbrev LoSt := Option (Array Keyed) × Array Keyed × Nat × Nat × Nat × Nat × Nat
def loTail (a b : Array Keyed) (ca cb g : Nat) (o : Array Keyed) (x y : Nat) : StateT SortSt Sem (ForInStep LoSt) := do
  let p ← elem' a x
  if (x + 1 + 1 == a.size) = true then pure (ForInStep.done (some (restB a b (o.push p) (x + 1) y), o.push p, x + 1, y, g, ca, cb))
  else if (decide (ca < 7) && decide (cb < 7)) = true then pure (ForInStep.done (none, o.push p, x + 1, y, g, ca, cb))
  else pure (ForInStep.yield (none, o.push p, x + 1, y, g, ca, cb))
def loMid (a b : Array Keyed) (ca cb g : Nat) (o : Array Keyed) (x y : Nat) : StateT SortSt Sem (ForInStep LoSt) := do
  let p ← elem' b y
  if (y + 1 == b.size) = true then pure (ForInStep.done (some (restA a b (o.push p) x (y + 1)), o.push p, x, y + 1, g, ca, cb))
  else do
    let some k ← gallopS true (← elem' a x) b (y + 1) (b.size - (y + 1)) 0 | pure (ForInStep.done (some (restA a b (o.push p) x (y + 1)), o.push p, x, y + 1, g, ca, cb))
    if k > 0 then
      if (y + 1 + k == b.size) = true then pure (ForInStep.done (some (restA a b (o.push p ++ b.extract (y + 1) (y + 1 + k)) x (y + 1 + k)), o.push p ++ b.extract (y + 1) (y + 1 + k), x, y + 1 + k, g, ca, k))
      else loTail a b ca k g (o.push p ++ b.extract (y + 1) (y + 1 + k)) x (y + 1 + k)
    else loTail a b ca k g (o.push p) x (y + 1)
def loTop (a b : Array Keyed) (ca cb g : Nat) (o : Array Keyed) (x y : Nat) : StateT SortSt Sem (ForInStep LoSt) := do
  modify fun st => setGal st g
  let some k ← gallopS false (← elem' b y) a x (a.size - x) 0 | pure (ForInStep.done (some (restA a b o x y), o, x, y, g, ca, cb))
  if k > 0 then
    if (x + k + 1 == a.size) = true then pure (ForInStep.done (some (restB a b (o ++ a.extract x (x + k)) (x + k) y), o ++ a.extract x (x + k), x + k, y, g, k, cb))
    else if (x + k == a.size) = true then pure (ForInStep.done (some (restA a b (o ++ a.extract x (x + k)) (x + k) y), o ++ a.extract x (x + k), x + k, y, g, k, cb))
    else loMid a b k cb g (o ++ a.extract x (x + k)) (x + k) y
  else loMid a b k cb g o x y
section
variable {M : Model} {A : Around} {E : Value → Shared → Prop} {s : Shared} {kd : SortKind} {S : Keyed → Prop} {rk : Keyed → Int} {a b : Array Keyed} {st : SortSt}
structure Go (rk : Keyed → Int) (a b o : Array Keyed) (x y : Nat) : Prop where
  jn : Jn rk a.toList b.toList o.toList x y
  hx : x + 1 < a.size
  hy : y < b.size
def LoQ (rk : Keyed → Int) (a b : Array Keyed) (st : SortSt) (n : Nat) (r : ForInStep LoSt) (st' : SortSt) : Prop := Gl st st' ∧ match r with
  | .done c => (∃ r, c.1 = some r ∧ Good rk a b r) ∨ (c.1 = none ∧ Go rk a b c.2.1 c.2.2.1 c.2.2.2.1 ∧ n ≤ c.2.2.1 + c.2.2.2.1)
  | .yield c => c.1 = none ∧ Go rk a b c.2.1 c.2.2.1 c.2.2.2.1 ∧ n ≤ c.2.2.1 + c.2.2.2.1
theorem w_loTail (m : Mg S rk a b) {st' : SortSt} {n ca cb g x y : Nat} {o : Array Keyed} (hg : Gl st st') (J : Jn rk a.toList b.toList o.toList x y) (hx : x + 1 < a.size) (hy : y < b.size)
    (hle : ∀ p, a[x]? = some p → ∀ q ∈ b.toList.drop y, rk p ≤ rk q) (hn : n ≤ x + y) : wpS M A E s (loTail a b ca cb g o x y) (LoQ rk a b st (n + 1)) st' := by
  obtain ⟨p, e, _, _⟩ := m.atA (i := x) (by omega)
  have J' := jn_pushA J m.aa e (hle p e)
  unfold loTail
  refine wpS_bind (w_elem e ?_)
  by_cases c1 : x + 1 + 1 = a.size
  · rw [if_pos (by simpa using c1)]
    exact wpS_pure ⟨hg, .inl ⟨_, rfl, good_restB m J' c1⟩⟩
  · rw [if_neg (by simpa using c1)]
    by_cases c2 : (decide (ca < 7) && decide (cb < 7)) = true
    · rw [if_pos c2]
      exact wpS_pure ⟨hg, .inr ⟨rfl, ⟨J', by show x + 1 + 1 < a.size; omega, hy⟩, by show n + 1 ≤ x + 1 + y; omega⟩⟩
    · rw [if_neg c2]
      exact wpS_pure ⟨hg, rfl, ⟨J', by show x + 1 + 1 < a.size; omega, hy⟩, by show n + 1 ≤ x + 1 + y; omega⟩
theorem w_loMid (L : LtOk M A E s kd S rk) (hk : kindOf st = kd) (m : Mg S rk a b) {st' : SortSt} {n ca cb g x y : Nat} {o : Array Keyed} (hg : Gl st st') (J : Jn rk a.toList b.toList o.toList x y) (hx : x + 1 < a.size) (hy : y < b.size)
    (hle : ∀ p, b[y]? = some p → ∀ q ∈ a.toList.drop x, rk p ≤ rk q) (hn : n ≤ x + y) : wpS M A E s (loMid a b ca cb g o x y) (LoQ rk a b st (n + 1)) st' := by
  obtain ⟨p, e, _, _⟩ := m.atB hy
  have J' := jn_pushB J m.ab e (hle p e)
  unfold loMid
  refine wpS_bind (w_elem e ?_)
  by_cases c1 : y + 1 = b.size
  · rw [if_pos (by simpa using c1)]
    exact wpS_pure ⟨hg, .inl ⟨_, rfl, good_restA J' m.aa m.ab c1⟩⟩
  · rw [if_neg (by simpa using c1)]
    obtain ⟨q, eq, sq, _⟩ := m.atA (i := x) (by omega)
    refine wpS_bind (w_elem eq ?_)
    refine wpS_bind (w_gallop L (hg.kind.trans hk) sq (fun i hi => ?_) (up_asc m.ab _ _ (by omega)) (by omega) fun k k1 k2 k3 => ?_)
    · obtain ⟨p, e, sp, _⟩ := m.atB (i := y + 1 + i) (by omega)
      exact ⟨p, e, sp⟩
    dsimp only
    have after : ∀ p', a[x]? = some p' → ∀ z ∈ b.toList.drop (y + 1 + k), rk p' ≤ rk z := fun p' ep z hz => by
      rw [eq] at ep
      cases ep
      obtain ⟨j, h1, h2, ez⟩ := mem_rest hz
      rw [Array.length_toList] at h2
      have := k3 (j - (y + 1)) (by omega) (by omega)
      rw [show y + 1 + (j - (y + 1)) = j by omega, kx_list b j ez] at this
      simp [ahd] at this
      omega
    by_cases c2 : k > 0
    · rw [if_pos c2]
      have J2 := jn_cutB J' m.ab k fun z hz w hw => by
        obtain ⟨j, h1, ez⟩ := mem_cut hz
        have := k2 j h1
        rw [kx_list b _ ez] at this
        simp [ahd] at this
        have := dropA_ge m eq w hw
        omega
      by_cases c3 : y + 1 + k = b.size
      · rw [if_pos (by simpa using c3)]
        exact wpS_pure ⟨hg, .inl ⟨_, rfl, good_restA J2 m.aa m.ab c3⟩⟩
      · rw [if_neg (by simpa using c3)]
        exact w_loTail m hg J2 hx (by omega) after (by omega)
    · rw [if_neg c2]
      have k0 : k = 0 := by omega
      subst k0
      exact w_loTail m hg J' hx (by omega) after (by omega)
theorem w_loTop (L : LtOk M A E s kd S rk) (hk : kindOf st = kd) (m : Mg S rk a b) {st' : SortSt} {n ca cb g x y : Nat} {o : Array Keyed} (hg : Gl st st') (G : Go rk a b o x y) (hn : n ≤ x + y) :
    wpS M A E s (loTop a b ca cb g o x y) (LoQ rk a b st (n + 1)) st' := by
  obtain ⟨J, hx, hy⟩ := G
  unfold loTop
  refine wpS_bind (wpS_modify ?_)
  have hg' := hg.set g
  obtain ⟨q, eq, sq, mq⟩ := m.atB hy
  refine wpS_bind (w_elem eq ?_)
  refine wpS_bind (w_gallop L (hg'.kind.trans hk) sq (fun i hi => ?_) (up_asc m.aa _ _ (by omega)) (by omega) fun k k1 k2 k3 => ?_)
  · obtain ⟨p, e, sp, _⟩ := m.atA (i := x + i) (by omega)
    exact ⟨p, e, sp⟩
  dsimp only
  have after : ∀ p', b[y]? = some p' → ∀ z ∈ a.toList.drop (x + k), rk p' ≤ rk z := fun p' ep z hz => by
    rw [eq] at ep
    cases ep
    obtain ⟨j, h1, h2, ez⟩ := mem_rest hz
    rw [Array.length_toList] at h2
    have := k3 (j - x) (by omega) (by omega)
    rw [show x + (j - x) = j by omega, kx_list a j ez] at this
    simp [ahd] at this
    omega
  by_cases c2 : k > 0
  · rw [if_pos c2]
    have J2 := jn_cutA J m.aa k fun z hz w hw => by
      obtain ⟨j, h1, ez⟩ := mem_cut hz
      have := k2 j h1
      rw [kx_list a _ ez] at this
      simp [ahd] at this
      have := dropB_ge m eq w hw
      omega
    by_cases c3 : x + k + 1 = a.size
    · rw [if_pos (by simpa using c3)]
      exact wpS_pure ⟨hg', .inl ⟨_, rfl, good_restB m J2 c3⟩⟩
    · rw [if_neg (by simpa using c3)]
      have c4 : ¬ x + k = a.size := fun c4 => by
        obtain ⟨z, ez, hz⟩ := m.top
        have := k2 (a.size - 1 - x) (by omega)
        rw [show x + (a.size - 1 - x) = a.size - 1 by omega, kx_of ez] at this
        simp [ahd] at this
        have := hz q mq
        omega
      rw [if_neg (by simpa using c4)]
      exact w_loMid L hk m hg' J2 (by omega) hy after (by omega)
  · rw [if_neg c2]
    have k0 : k = 0 := by omega
    subst k0
    exact w_loMid L hk m hg' J hx hy after hn
theorem w_mergeLo (L : LtOk M A E s kd S rk) (hk : kindOf st = kd) (m : Mg S rk a b) {Q : Array Keyed → SortSt → Prop} (h : ∀ r st', Gl st st' → Good rk a b r → Q r st') : wpS M A E s (mergeLoS a b) Q st := by
  rw [mergeLoS_eq]
  refine wpS_bind (wpS_lift (wpAny_rule ⟨rfl, ?_⟩))
  obtain ⟨q, eq, sq, mq⟩ := m.atB m.nb
  refine wpS_bind (w_elem eq ?_)
  have J1 : Jn rk a.toList b.toList (#[q] : Array Keyed).toList 0 1 := by
    obtain ⟨z, ez, hz⟩ := m.bot
    rw [eq] at ez
    cases ez
    exact jn_pushB (o := #[]) Jn.start m.ab eq fun w hw => Int.le_of_lt (hz w (List.mem_of_mem_drop hw))
  by_cases c1 : 1 = b.size
  · rw [if_pos (by simpa using c1)]
    exact wpS_pure (h _ _ (Gl.refl _) (good_restA J1 m.aa m.ab c1))
  · rw [if_neg (by simpa using c1)]
    by_cases c2 : 0 + 1 = a.size
    · rw [if_pos (by simpa using c2)]
      exact wpS_pure (h _ _ (Gl.refl _) (good_restB m J1 c2))
    · rw [if_neg (by simpa using c2)]
      refine wpS_bind (wpS_get ?_)
      have na := m.na
      have nb := m.nb
      have G1 : Go rk a b #[q] 0 1 := ⟨J1, by omega, by omega⟩
      refine wpS_bind (wpS_mono (wpS_forRange (I := fun i c st' => Gl st st' ∧ ∃ o x y g, c = (none, o, x, y, g) ∧ Go rk a b o x y ∧ i + 1 ≤ x + y)
        (Q := fun c st' => Gl st st' ∧ ∃ r o x y g, c = (some r, o, x, y, g) ∧ Good rk a b r) ?turn ?last ⟨Gl.refl _, #[q], 0, 1, _, rfl, G1, by omega⟩) ?after)
      case after =>
        rintro c st' ⟨hg, r, o, x, y, g, rfl, hr⟩
        exact wpS_pure (h r st' hg hr)
      case last =>
        rintro c st' ⟨hg, o, x, y, g, rfl, G, hi⟩
        have := G.hx
        have := G.hy
        exfalso
        omega
      case turn =>
        rintro i c st' _ hi ⟨hg, o, x, y, g, rfl, G, hxy⟩
        dsimp only
        refine wpS_bind (wpS_mono (wpS_forRange (I := fun j c st2 => Gl st st2 ∧ ∃ o x y ca cb, c = (none, o, x, y, ca, cb) ∧ Go rk a b o x y ∧ i + 1 + j ≤ x + y)
          (Q := fun c st2 => Gl st st2 ∧ ∃ r o x y ca cb, c = (r, o, x, y, ca, cb) ∧ match r with
            | some r => Good rk a b r
            | none => Go rk a b o x y ∧ i + 2 ≤ x + y) ?iturn ?ilast ⟨hg, o, x, y, 0, 0, rfl, G, by omega⟩) ?iafter)
        case ilast =>
          rintro c st2 ⟨hg2, o, x, y, ca, cb, rfl, G, hj⟩
          have := G.hx
          have := G.hy
          exfalso
          omega
        case iturn =>
          rintro j c st2 _ hj ⟨hg2, o, x, y, ca, cb, rfl, G, hxy2⟩
          dsimp only
          obtain ⟨pb, eb, sb, mb⟩ := m.atB G.hy
          obtain ⟨pa, ea, sa, ma⟩ := m.atA (i := x) (by have := G.hx; omega)
          refine wpS_bind (w_elem eb (wpS_bind (w_elem ea (wpS_bind (L pb pa st2 _ sb sa (hg2.kind.trans hk) ?_)))))
          by_cases hw : rk pb < rk pa
          · simp only [hw, decide_true, if_true]
            refine wpS_bind (w_elem eb ?_)
            have J2 := jn_pushB G.jn m.ab eb fun z hz => Int.le_trans (Int.le_of_lt hw) (dropA_ge m ea z hz)
            by_cases c3 : y + 1 = b.size
            · rw [if_pos (by simpa using c3)]
              exact wpS_pure ⟨hg2, _, _, _, _, _, _, rfl, good_restA J2 m.aa m.ab c3⟩
            · rw [if_neg (by simpa using c3)]
              have G2 : Go rk a b (o.push pb) x (y + 1) := ⟨J2, G.hx, by have := G.hy; omega⟩
              split
              · exact wpS_pure ⟨hg2, _, _, _, _, _, _, rfl, G2, by omega⟩
              · exact wpS_pure ⟨hg2, _, _, _, _, _, rfl, G2, by omega⟩
          · simp only [hw, decide_false, Bool.false_eq_true, if_false]
            refine wpS_bind (w_elem ea ?_)
            have J2 := jn_pushA G.jn m.aa ea fun z hz => Int.le_trans (by omega) (dropB_ge m eb z hz)
            by_cases c3 : x + 1 + 1 = a.size
            · rw [if_pos (by simpa using c3)]
              exact wpS_pure ⟨hg2, _, _, _, _, _, _, rfl, good_restB m J2 c3⟩
            · rw [if_neg (by simpa using c3)]
              have G2 : Go rk a b (o.push pa) (x + 1) y := ⟨J2, by have := G.hx; omega, G.hy⟩
              split
              · exact wpS_pure ⟨hg2, _, _, _, _, _, _, rfl, G2, by omega⟩
              · exact wpS_pure ⟨hg2, _, _, _, _, _, rfl, G2, by omega⟩
        case iafter =>
          rintro c st2 ⟨hg2, r, o2, x2, y2, ca, cb, rfl, hr⟩
          cases r with
          | some r => exact wpS_pure ⟨hg2, r, _, _, _, _, rfl, hr⟩
          | none =>
            obtain ⟨G2, hxy2⟩ := hr
            dsimp only
            refine wpS_bind (wpS_lift (wpAny_rule ⟨rfl, ?_⟩))
            refine wpS_bind (wpS_mono (wpS_forRange (I := fun j c st3 => Gl st st3 ∧ ∃ o x y g ca cb, c = (none, o, x, y, g, ca, cb) ∧ Go rk a b o x y ∧ i + 2 + j ≤ x + y)
              (Q := fun c st3 => Gl st st3 ∧ ∃ r o x y g ca cb, c = (r, o, x, y, g, ca, cb) ∧ match r with
                | some r => Good rk a b r
                | none => Go rk a b o x y ∧ i + 2 ≤ x + y) ?gturn ?glast ⟨hg2, o2, x2, y2, _, _, _, rfl, G2, by omega⟩) ?gafter)
            case glast =>
              rintro c st3 ⟨hg3, o, x, y, g, ca, cb, rfl, G, hj⟩
              have := G.hx
              have := G.hy
              exfalso
              omega
            case gturn =>
              rintro j c st3 _ hj ⟨hg3, o, x, y, g, ca, cb, rfl, G, hxy3⟩
              have go : ∀ g', wpS M A E s (loTop a b ca cb g' o x y) (LoQ rk a b st (i + 2 + j + 1)) st3 := fun g' => w_loTop L hk m hg3 G hxy3
              dsimp only
              by_cases hgt : g > 1
              case' pos =>
                rw [if_pos hgt]
                refine wpS_mono (go (g - 1)) ?_
              case' neg =>
                rw [if_neg hgt]
                refine wpS_mono (go g) ?_
              all_goals
                intro r st4 q
                obtain ⟨hg4, q⟩ := q
                cases r with
                | done c' =>
                  obtain ⟨r, o, x, y, g, ca, cb⟩ := c'
                  rcases q with ⟨r', e, q⟩ | ⟨e, q, q'⟩
                  · simp only at e
                    subst e
                    exact ⟨hg4, _, _, _, _, _, _, _, rfl, q⟩
                  · simp only at e q q'
                    subst e
                    exact ⟨hg4, _, _, _, _, _, _, _, rfl, q, by omega⟩
                | yield c' =>
                  obtain ⟨r, o, x, y, g, ca, cb⟩ := c'
                  obtain ⟨e, q, q'⟩ := q
                  simp only at e q q'
                  subst e
                  exact ⟨hg4, _, _, _, _, _, _, rfl, q, by omega⟩
            case gafter =>
              rintro c st3 ⟨hg3, r, o3, x3, y3, g3, ca3, cb3, rfl, hr⟩
              cases r with
              | some r => exact wpS_pure ⟨hg3, r, _, _, _, _, rfl, hr⟩
              | none =>
                obtain ⟨G3, hxy3⟩ := hr
                dsimp only
                exact wpS_bind (wpS_modify (wpS_pure ⟨hg3.set _, _, _, _, _, rfl, G3, by omega⟩))
end
end Tim
namespace Tim
open PySem PyProof.Rows
def mergeHiS : Array Keyed → Array Keyed → StateT SortSt Sem (Array Keyed) := sortPriv% PySem.Builtin.mergeHi
def headA (a b out : Array Keyed) (na nb : Nat) : Array Keyed := a.extract 0 na ++ b.extract 0 nb ++ out.reverse
def headB (a b out : Array Keyed) (na nb : Nat) : Array Keyed := b.extract 0 nb ++ a.extract 0 na ++ out.reverse
theorem mergeHiS_eq (a b : Array Keyed) : mergeHiS a b = (do
  rule "list.sort.merge-hi"
  let all := a.size + b.size
  let mut x := a.size - 1
  let mut y := b.size
  let mut o : Array Keyed := #[← elem' a x]
  if x == 0 then return headA a b o x y
  if y == 1 then return headB a b o x y
  let mut g := gallopOf (← get)
  for _ in [0:all] do
    let mut ca := 0
    let mut cb := 0
    for _ in [0:all] do
      let some won ← lt' (← elem' b (y - 1)) (← elem' a (x - 1)) | return headA a b o x y
      if won then
        x := x - 1; o := o.push (← elem' a x); ca := ca + 1; cb := 0
        if x == 0 then return headA a b o x y
        if ca ≥ g then break
      else
        y := y - 1; o := o.push (← elem' b y); cb := cb + 1; ca := 0
        if y == 1 then return headB a b o x y
        if cb ≥ g then break
    rule "list.sort.gallop"
    g := g + 1
    for _ in [0:all] do
      if g > 1 then g := g - 1
      modify fun st => setGal st g
      let some j ← gallopS false (← elem' b (y - 1)) a 0 x (x - 1) | return headA a b o x y
      let k := x - j
      ca := k
      if k > 0 then
        o := o ++ (a.extract j x).reverse; x := j
        if x == 0 then return headA a b o x y
      y := y - 1; o := o.push (← elem' b y)
      if y == 1 then return headB a b o x y
      let some j ← gallopS true (← elem' a (x - 1)) b 0 y (y - 1) | return headA a b o x y
      let k := y - j
      cb := k
      if k > 0 then
        o := o ++ (b.extract j y).reverse; y := j
        if y == 1 then return headB a b o x y
        if y == 0 then return headA a b o x y
      x := x - 1; o := o.push (← elem' a x)
      if x == 0 then return headA a b o x y
      if ca < 7 && cb < 7 then break
    g := g + 1
    modify fun st => setGal st g
  unsupported "internal:list.sort.merge-bound") := rfl
section
variable {rk : Keyed → Int} {a b o : Array Keyed} {x y : Nat}
def JH (rk : Keyed → Int) (a b o : Array Keyed) (x y : Nat) : Prop := Jn (fun p => - rk p) a.toList.reverse b.toList.reverse o.toList (a.size - x) (b.size - y) ∧ x ≤ a.size ∧ y ≤ b.size
theorem JH.swap (h : JH rk a b o x y) : JH rk b a o y x := ⟨h.1.swap, h.2.2, h.2.1⟩
theorem rdrop (xs : Array Keyed) {k : Nat} (h : k ≤ xs.size) : xs.toList.reverse.drop (xs.size - k) = (xs.toList.take k).reverse := by
  have := rev_drop xs.toList k (by rw [Array.length_toList]; exact h)
  rwa [Array.length_toList] at this
theorem rcut (xs : Array Keyed) {i k : Nat} (hi : i ≤ k) (h : k ≤ xs.size) : (xs.toList.reverse.drop (xs.size - k)).take (k - i) = ((xs.toList.drop i).take (k - i)).reverse := by
  have := rev_cut xs.toList i k hi (by rw [Array.length_toList]; exact h)
  rwa [Array.length_toList] at this
theorem jh_cutA (h : JH rk a b o x y) (ha : Asc rk a.toList) {j : Nat} (hj : j ≤ x) (hx : ∀ p ∈ (a.toList.drop j).take (x - j), ∀ q ∈ b.toList.take y, rk q ≤ rk p) : JH rk a b (o ++ (a.extract j x).reverse) j y := by
  obtain ⟨J, h1, h2⟩ := h
  refine ⟨?_, by omega, h2⟩
  have := J.moreA (asc_rev ha) (x - j) (fun p hp q hq => by
    rw [rcut a hj h1] at hp
    rw [rdrop b h2] at hq
    have := hx p (List.mem_reverse.mp hp) q (List.mem_reverse.mp hq)
    show - rk p ≤ - rk q
    omega)
  rw [rcut a hj h1, show a.size - x + (x - j) = a.size - j by omega] at this
  rw [Array.toList_append, Array.toList_reverse, Array.toList_extract, List.extract_eq_take_drop]
  exact this
theorem jh_pushA {p : Keyed} (h : JH rk a b o x y) (ha : Asc rk a.toList) (h1 : 1 ≤ x) (e : a[x - 1]? = some p) (hle : ∀ q ∈ b.toList.take y, rk q ≤ rk p) : JH rk a b (o.push p) (x - 1) y := by
  have e' : a.toList[x - 1]? = some p := by rw [Array.getElem?_toList]; exact e
  have t1 : (a.toList.drop (x - 1)).take (x - (x - 1)) = [p] := by
    rw [show x - (x - 1) = 1 by omega]
    exact take_one e'
  have := jh_cutA h ha (j := x - 1) (by omega) (by rw [t1]; intro z hz; rw [List.mem_singleton.mp hz]; exact hle)
  have e2 : (o ++ (a.extract (x - 1) x).reverse) = o.push p := by
    apply Array.toList_inj.mp
    rw [Array.toList_append, Array.toList_reverse, Array.toList_extract, List.extract_eq_take_drop, t1, Array.toList_push]
    rfl
  rwa [e2] at this
theorem jh_cutB (h : JH rk a b o x y) (hb : Asc rk b.toList) {j : Nat} (hj : j ≤ y) (hx : ∀ p ∈ (b.toList.drop j).take (y - j), ∀ q ∈ a.toList.take x, rk q ≤ rk p) : JH rk a b (o ++ (b.extract j y).reverse) x j := (jh_cutA h.swap hb hj hx).swap
theorem jh_pushB {p : Keyed} (h : JH rk a b o x y) (hb : Asc rk b.toList) (h1 : 1 ≤ y) (e : b[y - 1]? = some p) (hle : ∀ q ∈ a.toList.take x, rk q ≤ rk p) : JH rk a b (o.push p) x (y - 1) := (jh_pushA h.swap hb h1 e hle).swap
theorem ext_head (xs : Array Keyed) (k : Nat) : (xs.extract 0 k).toList = xs.toList.take k := by
  rw [Array.toList_extract, List.extract_eq_take_drop, List.drop_zero, Nat.sub_zero]
theorem good_headB' (h : JH rk a b o x y) (ha : Asc rk a.toList) (hb : Asc rk b.toList) (hq : ∀ p ∈ a.toList.take x, ∀ q ∈ b.toList.take y, rk q ≤ rk p) : Good rk a b (headB a b o x y) := by
  obtain ⟨J, h1, h2⟩ := h
  have := J.done (asc_rev ha) (asc_rev hb) (fun p hp q hq' => by
    rw [rdrop a h1] at hp
    rw [rdrop b h2] at hq'
    have := hq p (List.mem_reverse.mp hp) q (List.mem_reverse.mp hq')
    show - rk p ≤ - rk q
    omega)
  rw [rdrop a h1, rdrop b h2] at this
  have e : (headB a b o x y).toList = (o.toList ++ (a.toList.take x).reverse ++ (b.toList.take y).reverse).reverse := by
    unfold headB
    rw [Array.toList_append, Array.toList_append, ext_head, ext_head, Array.toList_reverse]
    simp
  unfold Good
  rw [e]
  exact ⟨(List.reverse_perm _).trans (this.1.trans ((List.reverse_perm _).append (List.reverse_perm _))), asc_rev' this.2⟩
theorem good_headA' (h : JH rk a b o x y) (ha : Asc rk a.toList) (hb : Asc rk b.toList) (hq : ∀ p ∈ b.toList.take y, ∀ q ∈ a.toList.take x, rk q ≤ rk p) : Good rk a b (headA a b o x y) := by
  obtain ⟨p, q⟩ := good_headB' h.swap hb ha hq
  exact ⟨p.trans List.perm_append_comm, q⟩
theorem good_headA (h : JH rk a b o x y) (ha : Asc rk a.toList) (hb : Asc rk b.toList) (hx : x = 0) : Good rk a b (headA a b o x y) := by
  refine good_headA' h ha hb fun p _ q hq => ?_
  rw [hx, List.take_zero] at hq
  cases hq
end
section
variable {S : Keyed → Prop} {rk : Keyed → Int} {a b o : Array Keyed} {x y : Nat}
theorem good_headB (m : Mg S rk a b) (h : JH rk a b o x y) (hy : y = 1) : Good rk a b (headB a b o x y) := by
  obtain ⟨z, ez, hz⟩ := m.bot
  refine good_headB' h m.aa m.ab fun p hp q hq => ?_
  subst hy
  obtain ⟨j, hj, e⟩ := List.mem_iff_getElem.mp hq
  rw [List.length_take] at hj
  have j0 : j = 0 := by omega
  subst j0
  rw [List.getElem_take] at e
  have : b.toList[0]? = some q := by rw [← e, List.getElem?_eq_getElem]
  rw [Array.getElem?_toList, ez] at this
  cases this
  exact Int.le_of_lt (hz p (List.mem_of_mem_take hp))
theorem takeA_le (m : Mg S rk a b) {i : Nat} {p : Keyed} (h1 : 1 ≤ i) (e : a[i - 1]? = some p) : ∀ q ∈ a.toList.take i, rk q ≤ rk p := by
  have := take_le m.aa (i := i - 1) (x := p) (by rw [Array.getElem?_toList]; exact e)
  rwa [show i - 1 + 1 = i by omega] at this
theorem takeB_le (m : Mg S rk a b) {i : Nat} {p : Keyed} (h1 : 1 ≤ i) (e : b[i - 1]? = some p) : ∀ q ∈ b.toList.take i, rk q ≤ rk p := by
  have := take_le m.ab (i := i - 1) (x := p) (by rw [Array.getElem?_toList]; exact e)
  rwa [show i - 1 + 1 = i by omega] at this
theorem mem_head {l : List Keyed} {k : Nat} {p : Keyed} (h : p ∈ l.take k) : ∃ j, j < k ∧ l[j]? = some p := by
  have := mem_cut (l := l) (i := 0) (k := k) (p := p) (by simpa using h)
  obtain ⟨j, a, b⟩ := this
  exact ⟨j, a, by rwa [Nat.zero_add] at b⟩
end
abbrev HiSt := Option (Array Keyed) × Nat × Nat × Array Keyed × Nat × Nat × Nat
def hiTail (a b : Array Keyed) (ca cb g : Nat) (o : Array Keyed) (x y : Nat) : StateT SortSt Sem (ForInStep HiSt) := do
  let p ← elem' a (x - 1)
  if (x - 1 == 0) = true then pure (ForInStep.done (some (headA a b (o.push p) (x - 1) y), x - 1, y, o.push p, g, ca, cb))
  else if (decide (ca < 7) && decide (cb < 7)) = true then pure (ForInStep.done (none, x - 1, y, o.push p, g, ca, cb))
  else pure (ForInStep.yield (none, x - 1, y, o.push p, g, ca, cb))
def hiMid (a b : Array Keyed) (ca cb g : Nat) (o : Array Keyed) (x y : Nat) : StateT SortSt Sem (ForInStep HiSt) := do
  let p ← elem' b (y - 1)
  if (y - 1 == 1) = true then pure (ForInStep.done (some (headB a b (o.push p) x (y - 1)), x, y - 1, o.push p, g, ca, cb))
  else do
    let some j ← gallopS true (← elem' a (x - 1)) b 0 (y - 1) (y - 1 - 1) | pure (ForInStep.done (some (headA a b (o.push p) x (y - 1)), x, y - 1, o.push p, g, ca, cb))
    if y - 1 - j > 0 then
      if (j == 1) = true then pure (ForInStep.done (some (headB a b (o.push p ++ (b.extract j (y - 1)).reverse) x j), x, j, o.push p ++ (b.extract j (y - 1)).reverse, g, ca, y - 1 - j))
      else if (j == 0) = true then pure (ForInStep.done (some (headA a b (o.push p ++ (b.extract j (y - 1)).reverse) x j), x, j, o.push p ++ (b.extract j (y - 1)).reverse, g, ca, y - 1 - j))
      else hiTail a b ca (y - 1 - j) g (o.push p ++ (b.extract j (y - 1)).reverse) x j
    else hiTail a b ca (y - 1 - j) g (o.push p) x (y - 1)
def hiTop (a b : Array Keyed) (ca cb g : Nat) (o : Array Keyed) (x y : Nat) : StateT SortSt Sem (ForInStep HiSt) := do
  modify fun st => setGal st g
  let some j ← gallopS false (← elem' b (y - 1)) a 0 x (x - 1) | pure (ForInStep.done (some (headA a b o x y), x, y, o, g, ca, cb))
  if x - j > 0 then
    if (j == 0) = true then pure (ForInStep.done (some (headA a b (o ++ (a.extract j x).reverse) j y), j, y, o ++ (a.extract j x).reverse, g, x - j, cb))
    else hiMid a b (x - j) cb g (o ++ (a.extract j x).reverse) j y
  else hiMid a b (x - j) cb g o x y
section
variable {M : Model} {A : Around} {E : Value → Shared → Prop} {s : Shared} {kd : SortKind} {S : Keyed → Prop} {rk : Keyed → Int} {a b : Array Keyed} {st : SortSt}
structure GoH (rk : Keyed → Int) (a b o : Array Keyed) (x y : Nat) : Prop where
  jn : JH rk a b o x y
  hx : 1 ≤ x
  hy : 2 ≤ y
def HiQ (rk : Keyed → Int) (a b : Array Keyed) (st : SortSt) (n : Nat) (r : ForInStep HiSt) (st' : SortSt) : Prop := Gl st st' ∧ match r with
  | .done c => (∃ r, c.1 = some r ∧ Good rk a b r) ∨ (c.1 = none ∧ GoH rk a b c.2.2.2.1 c.2.1 c.2.2.1 ∧ c.2.1 + c.2.2.1 ≤ n)
  | .yield c => c.1 = none ∧ GoH rk a b c.2.2.2.1 c.2.1 c.2.2.1 ∧ c.2.1 + c.2.2.1 ≤ n
theorem w_hiTail (m : Mg S rk a b) {st' : SortSt} {n ca cb g x y : Nat} {o : Array Keyed} (hg : Gl st st') (J : JH rk a b o x y) (hx : 1 ≤ x) (hy : 2 ≤ y)
    (hle : ∀ p, a[x - 1]? = some p → ∀ q ∈ b.toList.take y, rk q ≤ rk p) (hn : x + y ≤ n + 1) : wpS M A E s (hiTail a b ca cb g o x y) (HiQ rk a b st n) st' := by
  have hz := J.2.1
  obtain ⟨p, e, _, _⟩ := m.atA (i := x - 1) (by omega)
  have J' := jh_pushA J m.aa hx e (hle p e)
  unfold hiTail
  refine wpS_bind (w_elem e ?_)
  by_cases c1 : x - 1 = 0
  · rw [if_pos (by simpa using c1)]
    exact wpS_pure ⟨hg, .inl ⟨_, rfl, good_headA J' m.aa m.ab c1⟩⟩
  · rw [if_neg (by simpa using c1)]
    by_cases c2 : (decide (ca < 7) && decide (cb < 7)) = true
    · rw [if_pos c2]
      exact wpS_pure ⟨hg, .inr ⟨rfl, ⟨J', by show 1 ≤ x - 1; omega, hy⟩, by show x - 1 + y ≤ n; omega⟩⟩
    · rw [if_neg c2]
      exact wpS_pure ⟨hg, rfl, ⟨J', by show 1 ≤ x - 1; omega, hy⟩, by show x - 1 + y ≤ n; omega⟩
theorem w_hiMid (L : LtOk M A E s kd S rk) (hk : kindOf st = kd) (m : Mg S rk a b) {st' : SortSt} {n ca cb g x y : Nat} {o : Array Keyed} (hg : Gl st st') (J : JH rk a b o x y) (hx : 1 ≤ x) (hy : 2 ≤ y)
    (hle : ∀ p, b[y - 1]? = some p → ∀ q ∈ a.toList.take x, rk q ≤ rk p) (hn : x + y ≤ n + 1) : wpS M A E s (hiMid a b ca cb g o x y) (HiQ rk a b st n) st' := by
  have hz1 := J.2.1
  have hz2 := J.2.2
  obtain ⟨p, e, _, _⟩ := m.atB (i := y - 1) (by omega)
  have J' := jh_pushB J m.ab (by omega) e (hle p e)
  unfold hiMid
  refine wpS_bind (w_elem e ?_)
  by_cases c1 : y - 1 = 1
  · rw [if_pos (by simpa using c1)]
    exact wpS_pure ⟨hg, .inl ⟨_, rfl, good_headB m J' c1⟩⟩
  · rw [if_neg (by simpa using c1)]
    obtain ⟨q, eq, sq, mq⟩ := m.atA (i := x - 1) (by omega)
    refine wpS_bind (w_elem eq ?_)
    refine wpS_bind (w_gallop L (hg.kind.trans hk) sq (fun i hi => ?_) (up_asc m.ab _ _ (by omega)) (by omega) fun j j1 j2 j3 => ?_)
    · obtain ⟨p, e, sp, _⟩ := m.atB (i := 0 + i) (by omega)
      exact ⟨p, e, sp⟩
    dsimp only
    have after : ∀ p', a[x - 1]? = some p' → ∀ z ∈ b.toList.take j, rk z ≤ rk p' := fun p' ep z hz => by
      rw [eq] at ep
      cases ep
      obtain ⟨i, h1, ez⟩ := mem_head hz
      have := j2 i h1
      rw [Nat.zero_add, kx_list b i ez] at this
      simp [ahd] at this
      omega
    by_cases c2 : y - 1 - j > 0
    · rw [if_pos c2]
      have J2 := jh_cutB J' m.ab (j := j) (by omega) fun z hz w hw => by
        obtain ⟨i, h1, ez⟩ := mem_cut hz
        have := j3 (j + i) (by omega) (by omega)
        rw [Nat.zero_add, kx_list b _ ez] at this
        simp [ahd] at this
        have := takeA_le m hx eq w hw
        omega
      by_cases c3 : j = 1
      · rw [if_pos (by simpa using c3)]
        exact wpS_pure ⟨hg, .inl ⟨_, rfl, good_headB m J2 c3⟩⟩
      · rw [if_neg (by simpa using c3)]
        have c4 : ¬ j = 0 := fun c4 => by
          obtain ⟨z, ez, hz⟩ := m.bot
          have := j3 0 (by omega) (by omega)
          rw [Nat.zero_add, kx_of ez] at this
          simp [ahd] at this
          have := hz q mq
          omega
        rw [if_neg (by simpa using c4)]
        exact w_hiTail m hg J2 hx (by omega) after (by omega)
    · rw [if_neg c2]
      have ej : j = y - 1 := by omega
      subst ej
      exact w_hiTail m hg J' hx (by omega) after (by omega)
theorem w_hiTop (L : LtOk M A E s kd S rk) (hk : kindOf st = kd) (m : Mg S rk a b) {st' : SortSt} {n ca cb g x y : Nat} {o : Array Keyed} (hg : Gl st st') (G : GoH rk a b o x y) (hn : x + y ≤ n + 1) :
    wpS M A E s (hiTop a b ca cb g o x y) (HiQ rk a b st n) st' := by
  obtain ⟨J, hx, hy⟩ := G
  have hz1 := J.2.1
  have hz2 := J.2.2
  unfold hiTop
  refine wpS_bind (wpS_modify ?_)
  have hg' := hg.set g
  obtain ⟨q, eq, sq, mq⟩ := m.atB (i := y - 1) (by omega)
  refine wpS_bind (w_elem eq ?_)
  refine wpS_bind (w_gallop L (hg'.kind.trans hk) sq (fun i hi => ?_) (up_asc m.aa _ _ (by omega)) (by omega) fun j j1 j2 j3 => ?_)
  · obtain ⟨p, e, sp, _⟩ := m.atA (i := 0 + i) (by omega)
    exact ⟨p, e, sp⟩
  dsimp only
  have after : ∀ p', b[y - 1]? = some p' → ∀ z ∈ a.toList.take j, rk z ≤ rk p' := fun p' ep z hz => by
    rw [eq] at ep
    cases ep
    obtain ⟨i, h1, ez⟩ := mem_head hz
    have := j2 i h1
    rw [Nat.zero_add, kx_list a i ez] at this
    simp [ahd] at this
    omega
  by_cases c2 : x - j > 0
  · rw [if_pos c2]
    have J2 := jh_cutA J m.aa (j := j) (by omega) fun z hz w hw => by
      obtain ⟨i, h1, ez⟩ := mem_cut hz
      have := j3 (j + i) (by omega) (by omega)
      rw [Nat.zero_add, kx_list a _ ez] at this
      simp [ahd] at this
      have := takeB_le m (by omega) eq w hw
      omega
    by_cases c3 : j = 0
    · rw [if_pos (by simpa using c3)]
      exact wpS_pure ⟨hg', .inl ⟨_, rfl, good_headA J2 m.aa m.ab c3⟩⟩
    · rw [if_neg (by simpa using c3)]
      exact w_hiMid L hk m hg' J2 (by omega) hy after (by omega)
  · rw [if_neg c2]
    have ej : j = x := by omega
    subst ej
    exact w_hiMid L hk m hg' J hx hy after hn
theorem w_mergeHi (L : LtOk M A E s kd S rk) (hk : kindOf st = kd) (m : Mg S rk a b) {Q : Array Keyed → SortSt → Prop} (h : ∀ r st', Gl st st' → Good rk a b r → Q r st') : wpS M A E s (mergeHiS a b) Q st := by
  rw [mergeHiS_eq]
  refine wpS_bind (wpS_lift (wpAny_rule ⟨rfl, ?_⟩))
  have na := m.na
  have nb := m.nb
  obtain ⟨q, eq, sq, mq⟩ := m.atA (i := a.size - 1) (by omega)
  refine wpS_bind (w_elem eq ?_)
  have J1 : JH rk a b #[q] (a.size - 1) b.size := by
    obtain ⟨z, ez, hz⟩ := m.top
    rw [eq] at ez
    cases ez
    have J0 : JH rk a b #[] a.size b.size := ⟨by rw [Nat.sub_self, Nat.sub_self]; exact Jn.start, Nat.le_refl _, Nat.le_refl _⟩
    exact jh_pushA (o := #[]) J0 m.aa na eq fun w hw => Int.le_of_lt (hz w (List.mem_of_mem_take hw))
  by_cases c1 : a.size - 1 = 0
  · rw [if_pos (by simpa using c1)]
    exact wpS_pure (h _ _ (Gl.refl _) (good_headA J1 m.aa m.ab c1))
  · rw [if_neg (by simpa using c1)]
    by_cases c2 : b.size = 1
    · rw [if_pos (by simpa using c2)]
      exact wpS_pure (h _ _ (Gl.refl _) (good_headB m J1 c2))
    · rw [if_neg (by simpa using c2)]
      refine wpS_bind (wpS_get ?_)
      have G1 : GoH rk a b #[q] (a.size - 1) b.size := ⟨J1, by omega, by omega⟩
      refine wpS_bind (wpS_mono (wpS_forRange (I := fun i c st' => Gl st st' ∧ ∃ x y o g, c = (none, x, y, o, g) ∧ GoH rk a b o x y ∧ x + y + i + 1 ≤ a.size + b.size)
        (Q := fun c st' => Gl st st' ∧ ∃ r x y o g, c = (some r, x, y, o, g) ∧ Good rk a b r) ?turn ?last ⟨Gl.refl _, _, _, #[q], _, rfl, G1, by omega⟩) ?after)
      case after =>
        rintro c st' ⟨hg, r, x, y, o, g, rfl, hr⟩
        exact wpS_pure (h r st' hg hr)
      case last =>
        rintro c st' ⟨hg, x, y, o, g, rfl, G, hi⟩
        have := G.hx
        have := G.hy
        exfalso
        omega
      case turn =>
        rintro i c st' _ hi ⟨hg, x, y, o, g, rfl, G, hxy⟩
        dsimp only
        refine wpS_bind (wpS_mono (wpS_forRange (I := fun j c st2 => Gl st st2 ∧ ∃ x y o ca cb, c = (none, x, y, o, ca, cb) ∧ GoH rk a b o x y ∧ x + y + i + 1 + j ≤ a.size + b.size)
          (Q := fun c st2 => Gl st st2 ∧ ∃ r x y o ca cb, c = (r, x, y, o, ca, cb) ∧ match r with
            | some r => Good rk a b r
            | none => GoH rk a b o x y ∧ x + y + i + 2 ≤ a.size + b.size) ?iturn ?ilast ⟨hg, x, y, o, 0, 0, rfl, G, by omega⟩) ?iafter)
        case ilast =>
          rintro c st2 ⟨hg2, x, y, o, ca, cb, rfl, G, hj⟩
          have := G.hx
          have := G.hy
          exfalso
          omega
        case iturn =>
          rintro j c st2 _ hj ⟨hg2, x, y, o, ca, cb, rfl, G, hxy2⟩
          dsimp only
          have g1 := G.hx
          have g2 := G.hy
          have z1 := G.jn.2.1
          have z2 := G.jn.2.2
          obtain ⟨pb, eb, sb, mb⟩ := m.atB (i := y - 1) (by omega)
          obtain ⟨pa, ea, sa, ma⟩ := m.atA (i := x - 1) (by omega)
          refine wpS_bind (w_elem eb (wpS_bind (w_elem ea (wpS_bind (L pb pa st2 _ sb sa (hg2.kind.trans hk) ?_)))))
          by_cases hw : rk pb < rk pa
          · simp only [hw, decide_true, if_true]
            refine wpS_bind (w_elem ea ?_)
            have J2 := jh_pushA G.jn m.aa g1 ea fun z hz => Int.le_trans (takeB_le m (by omega) eb z hz) (Int.le_of_lt hw)
            by_cases c3 : x - 1 = 0
            · rw [if_pos (by simpa using c3)]
              exact wpS_pure ⟨hg2, _, _, _, _, _, _, rfl, good_headA J2 m.aa m.ab c3⟩
            · rw [if_neg (by simpa using c3)]
              have G2 : GoH rk a b (o.push pa) (x - 1) y := ⟨J2, by omega, g2⟩
              split
              · exact wpS_pure ⟨hg2, _, _, _, _, _, _, rfl, G2, by omega⟩
              · exact wpS_pure ⟨hg2, _, _, _, _, _, rfl, G2, by omega⟩
          · simp only [hw, decide_false, Bool.false_eq_true, if_false]
            refine wpS_bind (w_elem eb ?_)
            have J2 := jh_pushB G.jn m.ab (by omega) eb fun z hz => Int.le_trans (takeA_le m g1 ea z hz) (by omega)
            by_cases c3 : y - 1 = 1
            · rw [if_pos (by simpa using c3)]
              exact wpS_pure ⟨hg2, _, _, _, _, _, _, rfl, good_headB m J2 c3⟩
            · rw [if_neg (by simpa using c3)]
              have G2 : GoH rk a b (o.push pb) x (y - 1) := ⟨J2, g1, by omega⟩
              split
              · exact wpS_pure ⟨hg2, _, _, _, _, _, _, rfl, G2, by omega⟩
              · exact wpS_pure ⟨hg2, _, _, _, _, _, rfl, G2, by omega⟩
        case iafter =>
          rintro c st2 ⟨hg2, r, x2, y2, o2, ca, cb, rfl, hr⟩
          cases r with
          | some r => exact wpS_pure ⟨hg2, r, _, _, _, _, rfl, hr⟩
          | none =>
            obtain ⟨G2, hxy2⟩ := hr
            dsimp only
            refine wpS_bind (wpS_lift (wpAny_rule ⟨rfl, ?_⟩))
            refine wpS_bind (wpS_mono (wpS_forRange (I := fun j c st3 => Gl st st3 ∧ ∃ x y o g ca cb, c = (none, x, y, o, g, ca, cb) ∧ GoH rk a b o x y ∧ x + y + i + 2 + j ≤ a.size + b.size)
              (Q := fun c st3 => Gl st st3 ∧ ∃ r x y o g ca cb, c = (r, x, y, o, g, ca, cb) ∧ match r with
                | some r => Good rk a b r
                | none => GoH rk a b o x y ∧ x + y + i + 2 ≤ a.size + b.size) ?gturn ?glast ⟨hg2, x2, y2, o2, _, _, _, rfl, G2, by omega⟩) ?gafter)
            case glast =>
              rintro c st3 ⟨hg3, x, y, o, g, ca, cb, rfl, G, hj⟩
              have := G.hx
              have := G.hy
              exfalso
              omega
            case gturn =>
              rintro j c st3 _ hj ⟨hg3, x, y, o, g, ca, cb, rfl, G, hxy3⟩
              have go : ∀ g', wpS M A E s (hiTop a b ca cb g' o x y) (HiQ rk a b st (x + y - 1)) st3 := fun g' => w_hiTop L hk m hg3 G (by omega)
              have g1 := G.hx
              dsimp only
              by_cases hgt : g > 1
              case' pos =>
                rw [if_pos hgt]
                refine wpS_mono (go (g - 1)) ?_
              case' neg =>
                rw [if_neg hgt]
                refine wpS_mono (go g) ?_
              all_goals
                intro r st4 q
                obtain ⟨hg4, q⟩ := q
                cases r with
                | done c' =>
                  obtain ⟨r, x', y', o', g', ca', cb'⟩ := c'
                  rcases q with ⟨r', e, q⟩ | ⟨e, q, q'⟩
                  · simp only at e
                    subst e
                    exact ⟨hg4, _, _, _, _, _, _, _, rfl, q⟩
                  · simp only at e q q'
                    subst e
                    exact ⟨hg4, _, _, _, _, _, _, _, rfl, q, by omega⟩
                | yield c' =>
                  obtain ⟨r, x', y', o', g', ca', cb'⟩ := c'
                  obtain ⟨e, q, q'⟩ := q
                  simp only at e q q'
                  subst e
                  exact ⟨hg4, _, _, _, _, _, _, rfl, q, by omega⟩
            case gafter =>
              rintro c st3 ⟨hg3, r, x3, y3, o3, g3, ca3, cb3, rfl, hr⟩
              cases r with
              | some r => exact wpS_pure ⟨hg3, r, _, _, _, _, rfl, hr⟩
              | none =>
                obtain ⟨G3, hxy3⟩ := hr
                dsimp only
                exact wpS_bind (wpS_modify (wpS_pure ⟨hg3.set _, _, _, _, _, rfl, G3, by omega⟩))
end
end Tim
namespace Tim
open PySem PyProof.Rows
theorem wpS_set {M : Model} {A : Around} {E : Value → Shared → Prop} {s : Shared} {σ : Type} {v : σ} {Q : PUnit → σ → Prop} {st : σ} (h : Q ⟨⟩ v) : wpS M A E s (set v : StateT σ Sem PUnit) Q st := by
  unfold wpS
  rw [StateT.run_set]
  exact wpAny_pure ⟨rfl, h⟩
def wrt (base : Nat) (l : List (Keyed × Nat)) (xs : Array Keyed) : Array Keyed := l.foldl (fun a q => a.setIfInBounds (base + q.2) q.1) xs
theorem mergeAt_eq (i : Nat) : mergeAt' i = (do
  let c ← get
  let (some (sa, na, pw), some (sb, nb, _)) := ((pendingOf c)[i]?, (pendingOf c)[i + 1]?) | unsupported "internal:list.sort.pending"
  set (setPending c (((pendingOf c).setIfInBounds i (sa, na + nb, pw)).eraseIdxIfInBounds (i + 1)))
  let some k ← gallopS false (← elem' (arrOf c) sb) (arrOf c) sa na 0 | return false
  let (sa, na) := (sa + k, na - k)
  if na == 0 then return true
  let some nb ← gallopS true (← elem' (arrOf c) (sa + na - 1)) (arrOf c) sb nb (nb - 1) | return false
  if nb == 0 then return true
  let x := (arrOf c).extract sa sb
  let y := (arrOf c).extract sb (sb + nb)
  let r ← if na ≤ nb then mergeLoS x y else mergeHiS x y
  modify fun c => setArr c (wrt sa r.toList.zipIdx (arrOf c))
  return (failedOf (← get)).isNone) := rfl
theorem wrt_at (base : Nat) : ∀ (l : List Keyed) (k : Nat) (xs : Array Keyed), base + k + l.length ≤ xs.size → ∀ j, (wrt base (l.zipIdx k) xs)[j]? = if base + k ≤ j ∧ j < base + k + l.length then l[j - (base + k)]? else xs[j]?
  | [], k, xs, _, j => by
    rw [if_neg (by simp)]
    rfl
  | p :: r, k, xs, h, j => by
    have h' : base + k + (r.length + 1) ≤ xs.size := h
    have ih := wrt_at base r (k + 1) (xs.setIfInBounds (base + k) p) (by rw [Array.size_setIfInBounds]; omega) j
    rw [List.zipIdx_cons]
    show (wrt base (r.zipIdx (k + 1)) (xs.setIfInBounds (base + k) p))[j]? = _
    rw [ih, List.length_cons]
    by_cases c1 : base + (k + 1) ≤ j ∧ j < base + (k + 1) + r.length
    · rw [if_pos c1, if_pos (by omega), show j - (base + k) = j - (base + (k + 1)) + 1 by omega, List.getElem?_cons_succ]
    · rw [if_neg c1, Array.getElem?_setIfInBounds]
      by_cases c2 : base + k = j
      · rw [if_pos c2, if_pos (by omega), if_pos (by omega), show j - (base + k) = 0 by omega]
        rfl
      · rw [if_neg c2, if_neg (by omega)]
theorem wrt_list (base : Nat) (l : List Keyed) (xs : Array Keyed) (h : base + l.length ≤ xs.size) : (wrt base l.zipIdx xs).toList = xs.toList.take base ++ l ++ xs.toList.drop (base + l.length) := by
  apply List.ext_getElem?
  intro j
  have := wrt_at base l 0 xs (by omega) j
  rw [Array.getElem?_toList]
  rw [this]
  have e1 : (xs.toList.take base).length = base := by rw [List.length_take, Array.length_toList]; omega
  by_cases c1 : j < base
  · rw [if_neg (by omega), List.append_assoc, List.getElem?_append_left (by omega), List.getElem?_take_of_lt c1, Array.getElem?_toList]
  · rw [List.append_assoc, List.getElem?_append_right (by omega), e1]
    by_cases c2 : j < base + l.length
    · rw [if_pos (by omega), List.getElem?_append_left (by omega)]
      rfl
    · rw [if_neg (by omega), List.getElem?_append_right (by omega), List.getElem?_drop, ← Array.getElem?_toList]
      congr 1
      omega
def Runs (rk : Keyed → Int) (xs : Array Keyed) : Nat → List (Nat × Nat × Nat) → Nat → Prop
  | u, [], v => u = v
  | u, r :: l, v => r.1 = u ∧ 1 ≤ r.2.1 ∧ Up rk xs u (u + r.2.1) ∧ Runs rk xs (u + r.2.1) l v
section
variable {rk : Keyed → Int} {xs ys : Array Keyed}
theorem Runs.split : ∀ {l1 l2 : List (Nat × Nat × Nat)} {u v : Nat}, Runs rk xs u (l1 ++ l2) v ↔ ∃ w, Runs rk xs u l1 w ∧ Runs rk xs w l2 v
  | [], l2, u, v => ⟨fun h => ⟨u, rfl, h⟩, fun ⟨w, e, h⟩ => by cases e; exact h⟩
  | r :: l1, l2, u, v => by
    constructor
    · rintro ⟨a, b, c, d⟩
      obtain ⟨w, h1, h2⟩ := Runs.split.mp d
      exact ⟨w, ⟨a, b, c, h1⟩, h2⟩
    · rintro ⟨w, ⟨a, b, c, d⟩, h2⟩
      exact ⟨a, b, c, Runs.split.mpr ⟨w, d, h2⟩⟩
theorem Runs.le : ∀ {l : List (Nat × Nat × Nat)} {u v : Nat}, Runs rk xs u l v → u + l.length ≤ v
  | [], u, v, h => by cases h; simp
  | r :: l, u, v, ⟨_, b, _, d⟩ => by
    have := Runs.le d
    rw [List.length_cons]
    omega
theorem Up.same {lo hi : Nat} (h : Up rk xs lo hi) (e : ∀ k, lo ≤ k → k < hi → ys[k]? = xs[k]?) : Up rk ys lo hi := fun i j a b c => by
  rw [kx_same (e i a (by omega)), kx_same (e j (by omega) c)]
  exact h i j a b c
theorem Runs.same : ∀ {l : List (Nat × Nat × Nat)} {u v : Nat}, Runs rk xs u l v → (∀ k, u ≤ k → k < v → ys[k]? = xs[k]?) → Runs rk ys u l v
  | [], u, v, h, _ => h
  | r :: l, u, v, ⟨a, b, c, d⟩, e => by
    have := Runs.le d
    exact ⟨a, b, c.same fun k h1 h2 => e k h1 (by omega), d.same fun k h1 h2 => e k (by omega) h2⟩
theorem Runs.pow : ∀ {l l' : List (Nat × Nat × Nat)} {u v : Nat}, Runs rk xs u l v → l'.map (fun r => (r.1, r.2.1)) = l.map (fun r => (r.1, r.2.1)) → Runs rk xs u l' v
  | [], l', u, v, h, e => by
    have : l' = [] := by simpa using e
    subst this
    exact h
  | r :: l, l', u, v, ⟨a, b, c, d⟩, e => by
    cases l' with
    | nil => simp at e
    | cons r' l' =>
      simp only [List.map_cons, List.cons.injEq, Prod.mk.injEq] at e
      obtain ⟨⟨e1, e2⟩, e3⟩ := e
      exact ⟨e1.trans a, by omega, by rw [e2]; exact c, by rw [e2]; exact d.pow e3⟩
end
section
variable {M : Model} {A : Around} {E : Value → Shared → Prop} {s : Shared} {kd : SortKind} {S : Keyed → Prop} {rk : Keyed → Int} {n : Nat}
theorem asc_cut {xs : Array Keyed} {i j : Nat} (hj : j ≤ xs.size) (h : Up rk xs i j) : Asc rk (xs.extract i j).toList := by
  unfold Asc
  rw [List.pairwise_iff_getElem]
  intro p q hp hq hpq
  have hl : (xs.extract i j).toList.length = j - i := by rw [Array.length_toList, Array.size_extract]; omega
  have e : ∀ p (hp : p < (xs.extract i j).toList.length), rk (xs.extract i j).toList[p] = kx rk xs (i + p) := fun p hp => by
    refine (kx_of ?_).symm
    have h1 : (xs.extract i j)[p]? = some (xs.extract i j).toList[p] := by rw [← Array.getElem?_toList, List.getElem?_eq_getElem]
    rw [← h1, Array.getElem?_extract, if_pos (by omega)]
  rw [e p hp, e q hq]
  exact h _ _ (by omega) (by omega) (by omega)
theorem mem_ext {xs : Array Keyed} {i j : Nat} (hj : j ≤ xs.size) {p : Keyed} (h : p ∈ (xs.extract i j).toList) : ∃ k, i ≤ k ∧ k < j ∧ xs[k]? = some p := by
  obtain ⟨q, hq, e⟩ := List.mem_iff_getElem.mp h
  have hl : (xs.extract i j).toList.length = j - i := by rw [Array.length_toList, Array.size_extract]; omega
  refine ⟨i + q, by omega, by omega, ?_⟩
  have h1 : (xs.extract i j)[q]? = some p := by rw [← Array.getElem?_toList, List.getElem?_eq_getElem hq, e]
  rw [← h1, Array.getElem?_extract, if_pos (by omega)]
theorem cut_at {xs : Array Keyed} {i j k : Nat} (h : i + k < j) (hj : j ≤ xs.size) : (xs.extract i j)[k]? = xs[i + k]? := by
  rw [Array.getElem?_extract, if_pos (by omega)]
theorem Mv.wrote {st : SortSt} {a m b : Nat} {r : Array Keyed} (h1 : a ≤ m) (h2 : m ≤ b) (hb : b ≤ (arrOf st).size) (hr : r.toList.Perm (((arrOf st).extract a m).toList ++ ((arrOf st).extract m b).toList)) :
    Mv a b st (setArr st (wrt a r.toList.zipIdx (arrOf st))) ∧ (∀ j, a ≤ j → j < b → ∃ p, (wrt a r.toList.zipIdx (arrOf st))[j]? = some p ∧ p ∈ r.toList ∧ r.toList[j - a]? = some p) := by
  have hl : r.toList.length = b - a := by
    rw [hr.length_eq, List.length_append, Array.length_toList, Array.length_toList, Array.size_extract, Array.size_extract]
    omega
  have hw := wrt_list a r.toList (arrOf st) (by omega)
  have hat := wrt_at a r.toList 0 (arrOf st) (by omega)
  refine ⟨⟨?_, fun k hk => ?_, rfl, rfl, rfl⟩, fun j ha hb' => ?_⟩
  · rw [Array.perm_iff_toList_perm]
    show (wrt a r.toList.zipIdx (arrOf st)).toList.Perm (arrOf st).toList
    rw [hw, hl, show a + (b - a) = b by omega]
    have e : (arrOf st).toList = (arrOf st).toList.take a ++ (((arrOf st).extract a m).toList ++ ((arrOf st).extract m b).toList) ++ (arrOf st).toList.drop b := by
      rw [Array.toList_extract, Array.toList_extract, List.extract_eq_take_drop, List.extract_eq_take_drop]
      have e1 : (arrOf st).toList.drop a = ((arrOf st).toList.drop a).take (m - a) ++ (arrOf st).toList.drop m := by
        have := drop_split (arrOf st).toList a (m - a)
        rwa [show a + (m - a) = m by omega] at this
      have e2 : (arrOf st).toList.drop m = ((arrOf st).toList.drop m).take (b - m) ++ (arrOf st).toList.drop b := by
        have := drop_split (arrOf st).toList m (b - m)
        rwa [show m + (b - m) = b by omega] at this
      rw [List.append_assoc, List.append_assoc, ← e2, ← e1, List.take_append_drop]
    refine List.Perm.trans ?_ (List.Perm.of_eq e.symm)
    exact (hr.append_left _).append_right _
  · show (wrt a r.toList.zipIdx (arrOf st))[k]? = _
    rw [hat k, if_neg (by omega)]
  · have hlt : j - a < r.toList.length := by omega
    refine ⟨r.toList[j - a], ?_, by simp, List.getElem?_eq_getElem hlt⟩
    rw [hat j, if_pos (by omega), Nat.add_zero, List.getElem?_eq_getElem hlt]
structure Merged (rk : Keyed → Int) (lo hi : Nat) (p : Array (Nat × Nat × Nat)) (st st' : SortSt) : Prop where
  perm : (arrOf st').Perm (arrOf st)
  out : ∀ k, k < lo ∨ hi ≤ k → (arrOf st')[k]? = (arrOf st)[k]?
  kind : kindOf st' = kindOf st
  failed : failedOf st' = failedOf st
  pend : pendingOf st' = p
  up : Up rk (arrOf st') lo hi
theorem w_mergeAt (L : LtOk M A E s kd S rk) {st : SortSt} (B : Sane kd S n st) {i sa na pw nb p2 : Nat} (e1 : (pendingOf st)[i]? = some (sa, na, pw)) (e2 : (pendingOf st)[i + 1]? = some (sa + na, nb, p2)) (ha : 1 ≤ na) (hb : 1 ≤ nb) (hn : sa + na + nb ≤ n)
    (u1 : Up rk (arrOf st) sa (sa + na)) (u2 : Up rk (arrOf st) (sa + na) (sa + na + nb)) {Q : Bool → SortSt → Prop}
    (h : ∀ st', Merged rk sa (sa + na + nb) (((pendingOf st).setIfInBounds i (sa, na + nb, pw)).eraseIdxIfInBounds (i + 1)) st st' → Q true st') : wpS M A E s (mergeAt' i) Q st := by
  rw [mergeAt_eq]
  refine wpS_bind (wpS_get ?_)
  rw [e1, e2]
  dsimp only
  refine wpS_bind (wpS_set ?_)
  have hall : ∀ j, j < n → ∃ p, (arrOf st)[j]? = some p ∧ S p := fun j hj => by
    obtain ⟨p, a, b, _⟩ := B.at rk hj
    exact ⟨p, a, b⟩
  have hz := B.size
  obtain ⟨q, eq, sq⟩ := hall (sa + na) (by omega)
  have kq : kx rk (arrOf st) (sa + na) = rk q := kx_of eq
  refine wpS_bind (w_elem eq ?_)
  refine wpS_bind (w_gallop L B.kind sq (fun j hj => hall (sa + j) (by omega)) u1 (by omega) fun k k1 k2 k3 => ?_)
  dsimp only
  have low : ∀ j, sa ≤ j → j < sa + k → kx rk (arrOf st) j ≤ kx rk (arrOf st) (sa + na) := fun j a b => by
    have := k2 (j - sa) (by omega)
    rw [show sa + (j - sa) = j by omega] at this
    simp [ahd] at this
    rw [kq]
    exact this
  have high : ∀ j, sa + k ≤ j → j < sa + na → kx rk (arrOf st) (sa + na) < kx rk (arrOf st) j := fun j a b => by
    have := k3 (j - sa) (by omega) (by omega)
    rw [show sa + (j - sa) = j by omega] at this
    simp [ahd] at this
    rw [kq]
    omega
  have joined : kx rk (arrOf st) (sa + na - 1) ≤ kx rk (arrOf st) (sa + na) → Up rk (arrOf st) sa (sa + na + nb) := fun hle i j a b c => by
    by_cases c1 : j < sa + na
    · exact u1 i j a b c1
    · by_cases c2 : sa + na ≤ i
      · exact u2 i j c2 b c
      · have h1 := u1 i (sa + na - 1) a (by omega) (by omega)
        have h2 := u2 (sa + na) j (Nat.le_refl _) (by omega) c
        omega
  by_cases c0 : na - k = 0
  · rw [if_pos (by simpa using c0)]
    exact wpS_pure (h _ ⟨Array.Perm.refl _, fun _ _ => rfl, rfl, rfl, rfl, joined (low _ (by omega) (by omega))⟩)
  · rw [if_neg (by simpa using c0)]
    have el : sa + k + (na - k) - 1 = sa + na - 1 := by omega
    rw [el]
    obtain ⟨z, ez, sz⟩ := hall (sa + na - 1) (by omega)
    have kz : kx rk (arrOf st) (sa + na - 1) = rk z := kx_of ez
    refine wpS_bind (w_elem ez ?_)
    refine wpS_bind (w_gallop L B.kind sz (fun j hj => hall (sa + na + j) (by omega)) u2 (by omega) fun k' k1' k2' k3' => ?_)
    dsimp only
    have low' : ∀ j, sa + na ≤ j → j < sa + na + k' → kx rk (arrOf st) j < kx rk (arrOf st) (sa + na - 1) := fun j a b => by
      have := k2' (j - (sa + na)) (by omega)
      rw [show sa + na + (j - (sa + na)) = j by omega] at this
      simp [ahd] at this
      rw [kz]
      exact this
    have high' : ∀ j, sa + na + k' ≤ j → j < sa + na + nb → kx rk (arrOf st) (sa + na - 1) ≤ kx rk (arrOf st) j := fun j a b => by
      have := k3' (j - (sa + na)) (by omega) (by omega)
      rw [show sa + na + (j - (sa + na)) = j by omega] at this
      simp [ahd] at this
      rw [kz]
      omega
    by_cases c1 : k' = 0
    · rw [if_pos (by simpa using c1)]
      exact wpS_pure (h _ ⟨Array.Perm.refl _, fun _ _ => rfl, rfl, rfl, rfl, joined (high' _ (by omega) (by omega))⟩)
    · rw [if_neg (by simpa using c1)]
      have m : Mg S rk ((arrOf st).extract (sa + k) (sa + na)) ((arrOf st).extract (sa + na) (sa + na + k')) := by
        refine ⟨fun p hp => ?_, fun p hp => ?_, asc_cut (by omega) fun i j a b c => u1 i j (by omega) b c, asc_cut (by omega) fun i j a b c => u2 i j a b (by omega), by rw [Array.size_extract]; omega, by rw [Array.size_extract]; omega, ⟨z, ?_, fun p hp => ?_⟩, ⟨q, ?_, fun p hp => ?_⟩⟩
        · obtain ⟨j, h1, h2, e⟩ := mem_ext (by omega) hp
          obtain ⟨p', e', sp⟩ := hall j (by omega)
          rw [e] at e'
          cases e'
          exact sp
        · obtain ⟨j, h1, h2, e⟩ := mem_ext (by omega) hp
          obtain ⟨p', e', sp⟩ := hall j (by omega)
          rw [e] at e'
          cases e'
          exact sp
        · rw [Array.size_extract, cut_at (by omega) (by omega), ← ez]
          congr 1
          omega
        · obtain ⟨j, h1, h2, e⟩ := mem_ext (by omega) hp
          have := low' j h1 h2
          rwa [kz, kx_of e] at this
        · rw [cut_at (by omega) (by omega), ← eq]
          rfl
        · obtain ⟨j, h1, h2, e⟩ := mem_ext (by omega) hp
          have := high j h1 h2
          rwa [kq, kx_of e] at this
      have fin : ∀ (r : Array Keyed) (st' : SortSt), Gl (setPending st (((pendingOf st).setIfInBounds i (sa, na + nb, pw)).eraseIdxIfInBounds (i + 1))) st' → Good rk ((arrOf st).extract (sa + k) (sa + na)) ((arrOf st).extract (sa + na) (sa + na + k')) r →
          wpS M A E s ((modify fun c => setArr c (wrt (sa + k) r.toList.zipIdx (arrOf c)) : StateT SortSt Sem PUnit) >>= fun _ => get >>= fun c => pure (failedOf c).isNone) Q st' := by
        intro r st' hg hr
        have ha' : arrOf st' = arrOf st := hg.arr
        refine wpS_bind (wpS_modify (wpS_bind (wpS_get (wpS_pure ?_))))
        have hf : failedOf st' = none := hg.failed.trans B.failed
        show Q (failedOf st').isNone _
        rw [hf]
        have hw := Mv.wrote (st := st) (a := sa + k) (m := sa + na) (b := sa + na + k') (r := r) (by omega) (by omega) (by omega) hr.1
        obtain ⟨v, at'⟩ := hw
        have ascr := List.pairwise_iff_getElem.mp hr.2
        have mid : ∀ j, sa + k ≤ j → j < sa + na + k' → kx rk (arrOf st) (sa + na) ≤ kx rk (wrt (sa + k) r.toList.zipIdx (arrOf st)) j ∧ kx rk (wrt (sa + k) r.toList.zipIdx (arrOf st)) j ≤ kx rk (arrOf st) (sa + na - 1) := fun j a b => by
          obtain ⟨p, e, hp, _⟩ := at' j a b
          rw [kx_of e]
          rcases List.mem_append.mp (hr.1.mem_iff.mp hp) with hp | hp
          · obtain ⟨j', h1, h2, e'⟩ := mem_ext (by omega) hp
            rw [← kx_of (rk := rk) e']
            exact ⟨Int.le_of_lt (high j' h1 h2), u1 j' (sa + na - 1) (by omega) (by omega) (by omega)⟩
          · obtain ⟨j', h1, h2, e'⟩ := mem_ext (by omega) hp
            rw [← kx_of (rk := rk) e']
            exact ⟨u2 _ j' (Nat.le_refl _) h1 (by omega), Int.le_of_lt (low' j' h1 h2)⟩
        have out : ∀ j, j < sa + k ∨ sa + na + k' ≤ j → kx rk (wrt (sa + k) r.toList.zipIdx (arrOf st)) j = kx rk (arrOf st) j := fun j hj => kx_same (v.out j hj)
        rw [show (setArr st' (wrt (sa + k) r.toList.zipIdx (arrOf st'))) = setArr st' (wrt (sa + k) r.toList.zipIdx (arrOf st)) by rw [ha']]
        refine h _ ⟨v.perm, fun j hj => v.out j (by omega), hg.kind, hg.failed, hg.pend, fun i j a b c => ?_⟩
        show kx rk (wrt (sa + k) r.toList.zipIdx (arrOf st)) i ≤ kx rk (wrt (sa + k) r.toList.zipIdx (arrOf st)) j
        by_cases i1 : i < sa + k
        · rw [out i (.inl i1)]
          have li := low i a i1
          by_cases j1 : j < sa + k
          · rw [out j (.inl j1)]
            exact u1 i j a b (by omega)
          · by_cases j2 : j < sa + na + k'
            · have := (mid j (by omega) j2).1
              omega
            · rw [out j (.inr (by omega))]
              have := u2 (sa + na) j (Nat.le_refl _) (by omega) c
              omega
        · by_cases i2 : i < sa + na + k'
          · by_cases j2 : j < sa + na + k'
            · obtain ⟨p, ep, _, gp⟩ := at' i (by omega) i2
              obtain ⟨p', ep', _, gp'⟩ := at' j (by omega) j2
              rw [kx_of ep, kx_of ep']
              obtain ⟨l1, x1⟩ := List.getElem?_eq_some_iff.mp gp
              obtain ⟨l2, x2⟩ := List.getElem?_eq_some_iff.mp gp'
              rcases Nat.lt_or_ge i j with hij | hij
              · have := ascr (i - (sa + k)) (j - (sa + k)) l1 l2 (by omega)
                rwa [x1, x2] at this
              · have eij : i = j := by omega
                subst eij
                rw [gp] at gp'
                cases gp'
                exact Int.le_refl _
            · rw [out j (.inr (by omega))]
              have h1 := (mid i (by omega) i2).2
              have h2 := high' j (by omega) c
              omega
          · rw [out i (.inr (by omega)), out j (.inr (by omega))]
            exact u2 i j (by omega) b c
      by_cases c2 : na - k ≤ k'
      · rw [if_pos c2]
        exact wpS_bind (w_mergeLo (st := setPending st (((pendingOf st).setIfInBounds i (sa, na + nb, pw)).eraseIdxIfInBounds (i + 1))) L B.kind m fun r st' hg hr => fin r st' hg hr)
      · rw [if_neg c2]
        exact wpS_bind (w_mergeHi (st := setPending st (((pendingOf st).setIfInBounds i (sa, na + nb, pw)).eraseIdxIfInBounds (i + 1))) L B.kind m fun r st' hg hr => fin r st' hg hr)
end
end Tim
namespace Tim
open PySem PyProof.Rows
theorem pend_list {p : Array (Nat × Nat × Nat)} {l1 l2 : List (Nat × Nat × Nat)} {r1 r2 r : Nat × Nat × Nat} {i : Nat} (h : p.toList = l1 ++ r1 :: r2 :: l2) (hi : l1.length = i) :
    ((p.setIfInBounds i r).eraseIdxIfInBounds (i + 1)).toList = l1 ++ r :: l2 := by
  have hs : i + 1 < (p.setIfInBounds i r).size := by
    rw [Array.size_setIfInBounds, ← Array.length_toList, h]
    simp
    omega
  rw [Array.eraseIdxIfInBounds, dif_pos hs, Array.toList_eraseIdx, Array.toList_setIfInBounds, h, ← hi, List.set_append_right _ _ (Nat.le_refl _), Nat.sub_self, List.set_cons_zero,
    List.eraseIdx_append_of_length_le (by omega)]
  congr 1
  rw [show l1.length + 1 - l1.length = 1 by omega]
  rfl
theorem list_two {α : Type} {l : List α} {i : Nat} (h : i + 1 < l.length) : ∃ l1 r1 r2 l2, l = l1 ++ r1 :: r2 :: l2 ∧ l1.length = i := by
  refine ⟨l.take i, l[i], l[i + 1], l.drop (i + 2), ?_, by rw [List.length_take]; omega⟩
  rw [← List.drop_eq_getElem_cons h, ← List.drop_eq_getElem_cons (by omega), List.take_append_drop]
section
variable {M : Model} {A : Around} {E : Value → Shared → Prop} {s : Shared} {kd : SortKind} {S : Keyed → Prop} {rk : Keyed → Int} {n : Nat}
structure Sr (rk : Keyed → Int) (kd : SortKind) (S : Keyed → Prop) (n : Nat) (st : SortSt) (lo : Nat) (st' : SortSt) : Prop where
  perm : (arrOf st').Perm (arrOf st)
  sane : Sane kd S n st'
  runs : Runs rk (arrOf st') 0 (pendingOf st').toList lo
theorem Sr.merge {st st' : SortSt} {lo i : Nat} (h : Sr rk kd S n st lo st') (hi : i + 1 < (pendingOf st').size) :
    ∃ sa na pw nb p2, (pendingOf st')[i]? = some (sa, na, pw) ∧ (pendingOf st')[i + 1]? = some (sa + na, nb, p2) ∧ 1 ≤ na ∧ 1 ≤ nb ∧ sa + na + nb ≤ lo ∧ Up rk (arrOf st') sa (sa + na) ∧ Up rk (arrOf st') (sa + na) (sa + na + nb) ∧
      ∀ st4, Merged rk sa (sa + na + nb) (((pendingOf st').setIfInBounds i (sa, na + nb, pw)).eraseIdxIfInBounds (i + 1)) st' st4 →
        Sr rk kd S n st lo st4 ∧ (pendingOf st4).size + 1 = (pendingOf st').size ∧ ∀ k, lo ≤ k → (arrOf st4)[k]? = (arrOf st')[k]? := by
  obtain ⟨l1, ⟨a1, n1, q1⟩, ⟨a2, n2, q2⟩, l2, e, el⟩ := list_two (l := (pendingOf st').toList) (i := i) (by rw [Array.length_toList]; exact hi)
  have R := h.runs
  rw [e] at R
  obtain ⟨w, R1, R2⟩ := Runs.split.mp R
  obtain ⟨x1, x2, x3, x4, x5, x6, x7⟩ := R2
  simp only at x1 x2 x3 x4 x5 x6 x7
  subst x1 x4
  have le := Runs.le x7
  have g1 : (pendingOf st')[i]? = some (a1, n1, q1) := by
    rw [← Array.getElem?_toList, e, List.getElem?_append_right (by omega), ← el, Nat.sub_self]
    rfl
  have g2 : (pendingOf st')[i + 1]? = some (a1 + n1, n2, q2) := by
    rw [← Array.getElem?_toList, e, List.getElem?_append_right (by omega), show i + 1 - l1.length = 1 by omega]
    rfl
  refine ⟨a1, n1, q1, n2, q2, g1, g2, x2, x5, by omega, x3, x6, fun st4 m => ⟨⟨m.perm.trans h.perm, ?_, ?_⟩, ?_, fun k hk => m.out k (by omega)⟩⟩
  · exact ⟨m.perm.size_eq.trans h.sane.size, fun p hp => h.sane.all p ((Array.perm_iff_toList_perm.mp m.perm).mem_iff.mp hp), m.kind.trans h.sane.kind, m.failed.trans h.sane.failed⟩
  · rw [m.pend, pend_list e el]
    refine Runs.split.mpr ⟨a1, R1.same fun k _ hk => m.out k (.inl hk), rfl, by show 1 ≤ n1 + n2; omega, ?_, ?_⟩
    · show Up rk (arrOf st4) a1 (a1 + (n1 + n2))
      rw [← Nat.add_assoc]
      exact m.up
    · show Runs rk (arrOf st4) (a1 + (n1 + n2)) l2 lo
      rw [← Nat.add_assoc]
      exact x7.same fun k hk _ => m.out k (.inr hk)
  · rw [m.pend, ← Array.length_toList, pend_list e el, ← Array.length_toList, e]
    simp
    omega
theorem Sr.mv {st st' st2 : SortSt} {lo hi : Nat} (h : Sr rk kd S n st lo st') (v : Mv lo hi st' st2) : Sr rk kd S n st lo st2 :=
  ⟨v.perm.trans h.perm, v.sane h.sane, by rw [v.pend]; exact h.runs.same fun k _ hk => v.out k (.inl hk)⟩
theorem Sr.setP {st st' : SortSt} {lo hi : Nat} {p : Array (Nat × Nat × Nat)} (h : Sr rk kd S n st lo st') (r : Runs rk (arrOf st') 0 p.toList hi) : Sr rk kd S n st hi (setPending st' p) :=
  ⟨h.perm, ⟨h.sane.size, h.sane.all, h.sane.kind, h.sane.failed⟩, r⟩
theorem mod_last (p : Array (Nat × Nat × Nat)) (pw : Nat) : (p.modify (p.size - 1) fun (x : Nat × Nat × Nat) => (x.1, x.2.1, pw)).toList.map (fun r => (r.1, r.2.1)) = p.toList.map (fun r => (r.1, r.2.1)) := by
  apply List.ext_getElem?
  intro j
  rw [List.getElem?_map, List.getElem?_map, Array.getElem?_toList, Array.getElem?_toList, Array.getElem?_modify]
  split
  · cases p[j]? <;> rfl
  · rfl
theorem w_sortRuns (L : LtOk M A E s kd S rk) {st : SortSt} (B : Sane kd S n st) (h2 : 2 ≤ n) (hp : pendingOf st = #[]) {Q : Unit → SortSt → Prop}
    (h : ∀ st', (arrOf st').Perm (arrOf st) → failedOf st' = none → Up rk (arrOf st') 0 n → Q () st') : wpS M A E s sortRuns' Q st := by
  rw [sortRuns'_eq]
  refine wpS_bind (wpS_get ?_)
  dsimp only
  simp only [B.size]
  have start : Sr rk kd S n st 0 st := ⟨Array.Perm.refl _, B, by rw [hp]; rfl⟩
  refine wpS_bind (wpS_mono (wpS_forRange (I := fun x c st' => ∃ lo, c = (none, lo) ∧ Sr rk kd S n st lo st' ∧ lo ≤ n ∧ min x n ≤ lo)
    (Q := fun c st' => c = (none, n) ∧ Sr rk kd S n st n st') ?turn ?last ⟨0, rfl, start, by omega, by omega⟩) ?after)
  case last =>
    rintro c st' ⟨lo, rfl, R, h1, h3⟩
    have e : lo = n := by omega
    subst e
    exact ⟨rfl, R⟩
  case turn =>
    rintro x c st' _ hx ⟨lo, rfl, R, hlo, hxl⟩
    dsimp only
    by_cases hge : lo ≥ n
    · rw [if_pos hge]
      have e : lo = n := by omega
      subst e
      exact wpS_pure ⟨rfl, R⟩
    rw [if_neg hge]
    refine wpS_bind (w_countRun L R.sane (by omega) (by omega) fun k st2 v2 k1 k2 u2 => ?_)
    have R2 := R.mv v2
    dsimp only
    by_cases hlt : k < minRun' n n 0
    case' pos =>
      rw [if_pos hlt]
      refine wpS_bind (wpS_lift (wpAny_rule ⟨rfl, ?_⟩))
      refine wpS_bind (w_binarySort L R2.sane (by omega) (by omega) u2 fun st3 v3 u3 => ?_)
      have R3 := R2.mv v3
      simp only [Bool.not_true, Bool.false_eq_true, if_false]
      have m1 : 1 ≤ min (n - lo) (minRun' n n 0) := by omega
      have m2 : min (n - lo) (minRun' n n 0) ≤ n - lo := by omega
      clear hlt v3
      generalize min (n - lo) (minRun' n n 0) = m at *
    case' neg =>
      rw [if_neg hlt]
      have R3 := R2
      have u3 := u2
      have m1 := k1
      have m2 := k2
      clear hlt
      generalize st2 = st3 at *
      generalize k = m at *
    all_goals
      refine wpS_bind (wpS_get ?_)
      have fin : ∀ (st5 : SortSt) (p : Array (Nat × Nat × Nat)), Sr rk kd S n st lo st5 → Up rk (arrOf st5) lo (lo + m) → Runs rk (arrOf st5) 0 p.toList lo →
          Sr rk kd S n st (lo + m) (setPending (setPending st5 p) ((pendingOf (setPending st5 p)).push (lo, m, 0))) := fun st5 p R5 u5 rp => by
        refine (R5.setP rp).setP ?_
        show Runs rk (arrOf st5) 0 (p.push (lo, m, 0)).toList (lo + m)
        rw [Array.toList_push]
        exact Runs.split.mpr ⟨lo, rp, rfl, m1, u5, rfl⟩
      cases hb : (pendingOf st3).back? with
      | none =>
        dsimp only
        exact wpS_bind (wpS_modify (wpS_pure ⟨lo + m, rfl, fin st3 (pendingOf st3) R3 u3 R3.runs, by omega, by omega⟩))
      | some q =>
        obtain ⟨s1, n1, q1⟩ := q
        dsimp only
        refine wpS_bind (wpS_mono (wpS_forRange (I := fun _ c st4 => c = (none, ()) ∧ Sr rk kd S n st lo st4 ∧ Up rk (arrOf st4) lo (lo + m))
          (Q := fun c st4 => c = (none, ()) ∧ Sr rk kd S n st lo st4 ∧ Up rk (arrOf st4) lo (lo + m)) ?mturn (fun _ _ z => z) ⟨rfl, R3, u3⟩) ?mafter)
        case mturn =>
          rintro j c st4 _ hj ⟨rfl, R4, u4⟩
          refine wpS_bind (wpS_get ?_)
          by_cases c1 : (pendingOf st4).size > 1
          · obtain ⟨sa, na, pw, nb, p2, g1, g2, a1, a2, a3, a4, a5, a6⟩ := R4.merge (i := (pendingOf st4).size - 2) (by omega)
            rw [if_pos c1, g1]
            dsimp only
            split
            · exact wpS_pure ⟨rfl, R4, u4⟩
            · refine wpS_bind (w_mergeAt L R4.sane g1 g2 a1 a2 (by omega) a4 a5 fun st5 mm => ?_)
              obtain ⟨R5, _, o5⟩ := a6 st5 mm
              simp only [Bool.not_true, Bool.false_eq_true, if_false]
              exact wpS_pure ⟨rfl, R5, u4.same fun k hk _ => o5 k hk⟩
          · rw [if_neg c1]
            exact wpS_pure ⟨rfl, R4, u4⟩
        case mafter =>
          rintro c st4 ⟨rfl, R4, u4⟩
          dsimp only
          refine wpS_bind (wpS_modify (wpS_bind (wpS_modify (wpS_pure ⟨lo + m, rfl, ?_, by omega, by omega⟩))))
          exact fin st4 _ R4 u4 (R4.runs.pow (mod_last _ _))
  case after =>
    rintro c st' ⟨rfl, R⟩
    dsimp only
    refine wpS_bind (wpS_mono (wpS_forRange (I := fun x c st4 => c = (none, ()) ∧ Sr rk kd S n st n st4 ∧ (pendingOf st4).size ≤ max 1 (n - x))
      (Q := fun c st4 => c = (none, ()) ∧ Sr rk kd S n st n st4 ∧ (pendingOf st4).size ≤ 1) ?fturn ?flast ⟨rfl, R, ?ffirst⟩) ?fafter)
    case ffirst =>
      have := Runs.le R.runs
      rw [Array.length_toList] at this
      omega
    case flast =>
      rintro c st4 ⟨hc, R4, h4⟩
      exact ⟨hc, R4, by omega⟩
    case fturn =>
      rintro j c st4 _ hj ⟨rfl, R4, h4⟩
      refine wpS_bind (wpS_get ?_)
      by_cases c1 : (pendingOf st4).size ≤ 1
      · rw [if_pos c1]
        exact wpS_pure ⟨rfl, R4, c1⟩
      · rw [if_neg c1]
        have go : ∀ i, i + 1 < (pendingOf st4).size → wpS M A E s (mergeAt' i) (fun b st5 => b = true ∧ Sr rk kd S n st n st5 ∧ (pendingOf st5).size ≤ max 1 (n - (j + 1))) st4 := fun i hi => by
          obtain ⟨sa, na, pw, nb, p2, g1, g2, a1, a2, a3, a4, a5, a6⟩ := R4.merge hi
          refine w_mergeAt L R4.sane g1 g2 a1 a2 (by omega) a4 a5 fun st5 mm => ?_
          obtain ⟨R5, z5, _⟩ := a6 st5 mm
          exact ⟨rfl, R5, by omega⟩
        refine wpS_bind (wpS_mono (go _ ?_) ?_)
        · repeat' split
          all_goals omega
        · rintro b st5 ⟨rfl, R5, z5⟩
          simp only [Bool.not_true, Bool.false_eq_true, if_false]
          exact wpS_pure ⟨rfl, R5, z5⟩
    case fafter =>
      rintro c st4 ⟨rfl, R4, h4⟩
      refine wpS_pure (h st4 R4.perm R4.sane.failed ?_)
      have hr := R4.runs
      have hl : (pendingOf st4).toList.length ≤ 1 := by rw [Array.length_toList]; exact h4
      cases e : (pendingOf st4).toList with
      | nil =>
        rw [e] at hr
        have : 0 = n := hr
        omega
      | cons r l =>
        rw [e] at hr hl
        have : l = [] := by simpa using hl
        subst this
        obtain ⟨_, _, u, z⟩ := hr
        have z' : 0 + r.2.1 = n := z
        rwa [z'] at u
end
end Tim
namespace Tim
open PySem PyProof.Rows
def KLt (prog : Program) (w : World) (A : Around) (s : Shared) (kd : SortKind) (x y : Value) (r : Bool) : Prop :=
  ∀ (E : Value → Shared → Prop) (Q : Bool → Shared → Prop), Q r s → wpAny (model prog w) A (keyLt' kd x y) Q E s
theorem ltOk_of {prog : Program} {w : World} {A : Around} {E : Value → Shared → Prop} {s : Shared} {kd : SortKind} {S : Keyed → Prop} {rk : Keyed → Int} (h : ∀ x y, S x → S y → KLt prog w A s kd x.1 y.1 (decide (rk x < rk y))) :
    LtOk (model prog w) A E s kd S rk := by
  intro x y st Q sx sy hk q
  rw [lt'_eq]
  refine wpS_bind (wpS_get ?_)
  rw [hk]
  refine wpS_bind (wpS_lift (wpAny_attempt (h x y sx sy _ _ ⟨rfl, ?_⟩)))
  exact wpS_pure q
section
variable {α : Type}
theorem count_le {p q : α → Bool} : ∀ (l : List α), (∀ z ∈ l, p z = true → q z = true) → (l.filter p).length ≤ (l.filter q).length
  | [], _ => Nat.le_refl _
  | z :: l, h => by
    have ih := count_le (p := p) (q := q) l fun y hy => h y (List.mem_cons_of_mem _ hy)
    rw [List.filter_cons, List.filter_cons]
    cases e : p z with
    | true =>
      rw [h z (List.mem_cons_self ..) e]
      simp only [if_true, List.length_cons]
      omega
    | false =>
      cases q z with
      | true => simp only [Bool.false_eq_true, if_false, if_true, List.length_cons]; omega
      | false => simpa using ih
theorem count_lt {p q : α → Bool} {y : α} : ∀ (l : List α), (∀ z ∈ l, p z = true → q z = true) → y ∈ l → p y = false → q y = true → (l.filter p).length < (l.filter q).length
  | [], _, hy, _, _ => nomatch hy
  | z :: l, h, hy, h1, h2 => by
    have hl : ∀ w ∈ l, p w = true → q w = true := fun w hw => h w (List.mem_cons_of_mem _ hw)
    rw [List.filter_cons, List.filter_cons]
    rcases List.mem_cons.mp hy with rfl | hy
    · rw [h1, h2]
      have := count_le l hl
      simp only [Bool.false_eq_true, if_false, if_true, List.length_cons]
      omega
    · have ih := count_lt l hl hy h1 h2
      cases e : p z with
      | true =>
        rw [h z (List.mem_cons_self ..) e]
        simp only [if_true, List.length_cons]
        omega
      | false =>
        cases q z with
        | true => simp only [Bool.false_eq_true, if_false, if_true, List.length_cons]; omega
        | false => simpa using ih
def rank (lt : α → α → Bool) (l : List α) (x : α) : Int := ((l.filter fun y => lt y x).length : Nat)
theorem rank_lt {lt : α → α → Bool} {l : List α} (irr : ∀ x ∈ l, lt x x = false) (tr : ∀ x ∈ l, ∀ y ∈ l, ∀ z ∈ l, lt x y = true → lt y z = true → lt x z = true)
    (nt : ∀ x ∈ l, ∀ y ∈ l, ∀ z ∈ l, lt x z = true → lt x y = true ∨ lt y z = true) {x y : α} (hx : x ∈ l) (hy : y ∈ l) : lt x y = decide (rank lt l x < rank lt l y) := by
  unfold rank
  cases e : lt x y with
  | true =>
    have := count_lt (p := fun z => lt z x) (q := fun z => lt z y) l (fun z hz h => tr z hz x hx y hy h e) hx (irr x hx) e
    exact (decide_eq_true (by omega)).symm
  | false =>
    have := count_le (p := fun z => lt z y) (q := fun z => lt z x) l (fun z hz h => (nt z hz x hx y hy h).resolve_right (by rw [e]; exact Bool.false_ne_true))
    exact (decide_eq_false (by omega)).symm
end
structure Sorted (rk : Value → Int) (vs out : List Value) : Prop where
  perm : out.Perm vs
  asc : out.Pairwise fun x y => rk x ≤ rk y
theorem sorted_pairs {rk : Value → Int} {vs : List Value} {xs : Array Keyed} (hp : xs.Perm (pairsOf vs)) (hu : Up (fun p => rk p.1) xs 0 vs.length) : Sorted rk vs (xs.map (·.2)).toList := by
  have hl : xs.toList.Perm (vs.zip vs) := by
    rw [← pairsOf_toList]
    exact Array.perm_iff_toList_perm.mp hp
  have hsz : xs.size = vs.length := by
    rw [hp.size_eq, pairsOf_size]
  have same : ∀ p, p ∈ xs.toList → p.1 = p.2 := fun p h => (mem_zip_self (hl.mem_iff.mp h)).1
  refine ⟨?_, ?_⟩
  · rw [Array.toList_map]
    have := hl.map Prod.snd
    rwa [List.map_snd_zip (Nat.le_refl _)] at this
  · rw [Array.toList_map, List.pairwise_iff_getElem]
    intro i j hi hj hij
    rw [List.getElem_map, List.getElem_map]
    have hi' : i < xs.toList.length := by simpa using hi
    have hj' : j < xs.toList.length := by simpa using hj
    have := hu i j (Nat.zero_le _) (Nat.le_of_lt hij) (by rw [Array.length_toList] at hj'; omega)
    rw [kx_list xs i (List.getElem?_eq_getElem hi'), kx_list xs j (List.getElem?_eq_getElem hj')] at this
    rw [← same _ (List.getElem_mem hi'), ← same _ (List.getElem_mem hj')]
    exact this
section
variable {prog : Program} {w : World} {A : Around} {E : Value → Shared → Prop} {s : Shared}
def Keys (prog : Program) (w : World) (A : Around) (s : Shared) (a : Addr) (vs : List Value) (rk : Value → Int) : Prop := 2 ≤ vs.length → ∀ s' : Shared, (∀ b o, b ≠ a → s.heap.get? b = some o → s'.heap.get? b = some o) →
  ∃ kd : SortKind, (∀ (E : Value → Shared → Prop) (Q : SortKind → Shared → Prop), Q kd s' → wpAny (model prog w) A (keyKind' vs.toArray) Q E s') ∧ ∀ x ∈ vs, ∀ y ∈ vs, KLt prog w A s' kd x y (decide (rk x < rk y))
theorem list_sort_any {a : Addr} {vs : List Value} {n : Nat} {rk : Value → Int} {P : PySem.Fin → Shared → Prop} (ho : s.heap.get? a = some (seqObj "list" vs.toArray n)) (hz : vs.length ≤ sizeLine) (hk : Keys prog w A s a vs rk)
    (h : ∀ out : Array Value, Sorted rk vs out.toList → P (.done (.ret .none)) { s with heap := sortedHeap s.heap a vs out }) : wpAny (model prog w) A (Builtin.«list.sort» ⟨[.ref a], []⟩) P E s := by
  rw [list_sort_plain]
  have ha : a < s.heap.objs.size := Heap.lt_size ho
  have hvs : vs.toArray.size = vs.length := List.size_toArray
  refine wpAny_bind (listItems_at ho rfl (wpAny_bind (listUpdate_at ho rfl ?_ (by rw [hvs]; exact hz) (Nat.zero_le _))))
  obtain ⟨e1, ho1⟩ : ∃ e1, (s.heap.update a (Obj.mapSeq fun _ => #[])).get? a = some (seqObj "list" #[] e1) := ⟨_, get?_update_seq ho (fun _ => #[])⟩
  refine wpAny_bind (seqEpoch_at ho1 rfl (wpAny_bind (wpAny_newTuple (wpAny_bind (wpAny_newList (wpAny_holding ?_))))))
  have s1 := Heap.SameBut.update s.heap a (Obj.mapSeq fun _ => (#[] : Array Value))
  have keep : ∀ b o, (s.heap.update a (Obj.mapSeq fun _ => #[])).get? b = some o → (((s.heap.update a (Obj.mapSeq fun _ => #[])).push (seqObj "tuple" vs.toArray 0)).push (seqObj "list" #[] 0)).get? b = some o :=
    fun b o e => Heap.get?_push_of_some _ (Heap.get?_push_of_some _ e)
  have ho6 := keep a _ ho1
  have others : ∀ b o, b ≠ a → s.heap.get? b = some o → (((s.heap.update a (Obj.mapSeq fun _ => #[])).push (seqObj "tuple" vs.toArray 0)).push (seqObj "list" #[] 0)).get? b = some o :=
    fun b o hb e => keep b o ((s1.2 b hb).trans e)
  show wpAny (model prog w) A _ P E { s with heap := ((s.heap.update a (Obj.mapSeq fun _ => #[])).push (seqObj "tuple" vs.toArray 0)).push (seqObj "list" #[] 0) }
  dsimp only
  by_cases h2 : vs.toArray.size < 2
  · rw [if_pos h2, if_pos h2]
    refine wpAny_bind (wpAny_pure ?_)
    rw [StateT.run_pure]
    refine wpAny_bind (wpAny_pure ?_)
    dsimp only
    have es : ((vs.toArray.zip vs.toArray).map (·.2)).toList = vs := by
      rw [Array.toList_map]
      show (pairsOf vs).toList.map _ = _
      rw [pairsOf_toList, List.map_snd_zip (Nat.le_refl _)]
    refine wpAny_bind (seqEpoch_at ho6 rfl (wpAny_bind (listUpdate_at ho6 rfl ?_ (Nat.zero_le _) (by rw [← Array.length_toList, es]; omega))))
    simp only [bne_self_eq_false, Bool.false_eq_true, if_false]
    refine wpAny_pure (h _ ?_)
    rw [es]
    refine ⟨List.Perm.refl _, ?_⟩
    rw [hvs] at h2
    match vs, h2 with
    | [], _ => exact .nil
    | [_], _ => exact List.pairwise_singleton ..
  · rw [if_neg h2, if_neg h2]
    obtain ⟨kd, kk, kl⟩ := hk (by omega) { s with heap := ((s.heap.update a (Obj.mapSeq fun _ => #[])).push (seqObj "tuple" vs.toArray 0)).push (seqObj "list" #[] 0) } others
    refine wpAny_bind (kk _ _ ?_)
    have hS : ∀ p ∈ (vs.toArray.zip vs.toArray).toList, p.1 ∈ vs := fun p hp => by
      have hp' : p ∈ (pairsOf vs).toList := hp
      rw [pairsOf_toList] at hp'
      exact (mem_zip_self hp').2
    refine wpAny_bind (wpAny_mono (w_sortRuns (S := fun p => p.1 ∈ vs) (rk := fun p => rk p.1) (n := vs.length) (st := SortSt.mk' kd (vs.toArray.zip vs.toArray) #[] 7 none)
      (Q := fun _ st' => (arrOf st').Perm (pairsOf vs) ∧ failedOf st' = none ∧ Up (fun p => rk p.1) (arrOf st') 0 vs.length)
      (ltOk_of fun x y hx hy => kl x.1 hx y.1 hy) ⟨pairsOf_size vs, hS, rfl, rfl⟩ (by omega) rfl fun st' a1 a2 a3 => ⟨a1, a2, a3⟩) ?_ fun _ _ e => e)
    rintro ⟨⟨⟩, st'⟩ s' ⟨rfl, hp, hf, hu⟩
    dsimp only
    have so := sorted_pairs hp hu
    refine wpAny_bind (seqEpoch_at ho6 rfl (wpAny_bind (listUpdate_at ho6 rfl ?_ (Nat.zero_le _) (by rw [← Array.length_toList, so.perm.length_eq]; omega))))
    rw [hf]
    simp only [bne_self_eq_false, Bool.false_eq_true, if_false]
    exact wpAny_pure (h _ so)
end
end Tim
namespace Tim
structure STO {α : Type} (lt : α → α → Bool) : Prop where
  irr : ∀ a, lt a a = false
  tr : ∀ a b c, lt a b = true → lt b c = true → lt a c = true
  tri : ∀ a b, lt a b = false → lt b a = false → a = b
section
variable {α β : Type}
theorem STO.asym {lt : α → α → Bool} (h : STO lt) {a b : α} (x : lt a b = true) : lt b a = false := by
  cases e : lt b a with
  | false => rfl
  | true =>
    have := h.tr a b a x e
    rw [h.irr] at this
    cases this
theorem STO.nt {lt : α → α → Bool} (h : STO lt) {a c : α} (b : α) (x : lt a c = true) : lt a b = true ∨ lt b c = true := by
  cases e : lt a b with
  | true => exact .inl rfl
  | false =>
    cases f : lt b a with
    | true => exact .inr (h.tr b a c f x)
    | false =>
      have := h.tri a b e f
      subst this
      exact .inr x
theorem STO.map {lt : α → α → Bool} (h : STO lt) (f : β → α) (inj : ∀ a b, f a = f b → a = b) : STO fun a b => lt (f a) (f b) :=
  ⟨fun a => h.irr _, fun a b c => h.tr _ _ _, fun a b x y => inj a b (h.tri _ _ x y)⟩
def lexB [DecidableEq α] (lt : α → α → Bool) : List α → List α → Bool
  | [], [] => false
  | [], _ :: _ => true
  | _ :: _, [] => false
  | a :: as, b :: bs => if a = b then lexB lt as bs else lt a b
theorem STO.lex [DecidableEq α] {lt : α → α → Bool} (h : STO lt) : STO (lexB lt) := by
  refine ⟨fun a => ?_, fun a => ?_, fun a => ?_⟩
  · induction a with
    | nil => rfl
    | cons x a ih => rw [lexB, if_pos rfl]; exact ih
  · induction a with
    | nil =>
      intro b c h1 h2
      cases c with
      | nil => cases b with
        | nil => exact h1
        | cons y b => cases h2
      | cons z c => rfl
    | cons x a ih =>
      intro b c h1 h2
      cases b with
      | nil => cases h1
      | cons y b =>
        cases c with
        | nil => cases h2
        | cons z c =>
          rw [lexB] at h1 h2 ⊢
          by_cases xy : x = y
          · subst xy
            rw [if_pos rfl] at h1
            by_cases xz : x = z
            · subst xz
              rw [if_pos rfl] at h2 ⊢
              exact ih b c h1 h2
            · rw [if_neg xz] at h2 ⊢
              exact h2
          · rw [if_neg xy] at h1
            by_cases yz : y = z
            · subst yz
              rw [if_neg xy]
              exact h1
            · rw [if_neg yz] at h2
              have hxz := h.tr x y z h1 h2
              have : ¬ x = z := fun e => by
                subst e
                rw [h.irr] at hxz
                cases hxz
              rw [if_neg this]
              exact hxz
  · induction a with
    | nil =>
      intro b h1 h2
      cases b with
      | nil => rfl
      | cons y b => cases h1
    | cons x a ih =>
      intro b h1 h2
      cases b with
      | nil => cases h2
      | cons y b =>
        rw [lexB] at h1 h2
        by_cases xy : x = y
        · subst xy
          rw [if_pos rfl] at h1 h2
          rw [ih b h1 h2]
        · rw [if_neg xy] at h1
          rw [if_neg (Ne.symm xy)] at h2
          exact absurd (h.tri x y h1 h2) xy
theorem sto_nat : STO (fun a b : Nat => decide (a < b)) :=
  ⟨fun a => by simp, fun a b c h1 h2 => by simp at *; omega, fun a b h1 h2 => by simp at *; omega⟩
theorem lex_nat : ∀ (a b : List Nat), decide (a < b) = lexB (fun x y : Nat => decide (x < y)) a b
  | [], [] => rfl
  | [], _ :: _ => by simp [lexB]
  | _ :: _, [] => by simp [lexB]
  | x :: a, y :: b => by
    rw [lexB, ← lex_nat a b]
    by_cases e : x = y
    · subst e
      rw [if_pos rfl]
      simp
    · rw [if_neg e]
      have : (x :: a < y :: b) ↔ x < y := by
        rw [List.cons_lt_cons_iff]
        constructor
        · rintro (h | h)
          · exact h
          · exact absurd h.1 e
        · exact .inl
      simp [this]
theorem STO.uniq {lt : α → α → Bool} (h : STO lt) : ∀ {a b : List α}, a.Perm b → a.Pairwise (fun x y => lt y x = false) → b.Pairwise (fun x y => lt y x = false) → a = b
  | [], b, p, _, _ => (List.nil_perm.mp p).symm ▸ rfl
  | x :: a, [], p, _, _ => by have := p.length_eq; simp at this
  | x :: a, y :: b, p, pa, pb => by
    obtain ⟨pa1, pa2⟩ := List.pairwise_cons.mp pa
    obtain ⟨pb1, pb2⟩ := List.pairwise_cons.mp pb
    have e : x = y := by
      have hx : x ∈ y :: b := p.mem_iff.mp (List.mem_cons_self ..)
      have hy : y ∈ x :: a := p.mem_iff.mpr (List.mem_cons_self ..)
      rcases List.mem_cons.mp hx with e | hx
      · exact e
      · rcases List.mem_cons.mp hy with e | hy
        · exact e.symm
        · exact h.tri x y (pb1 x hx) (pa1 y hy)
    subst e
    rw [h.uniq (List.Perm.cons_inv p) pa2 pb2]
end
end Tim
namespace L2
open PySem PySem.Spec PyProof.Rows
abbrev Key := Sum Int Str
def keyIs : Key → Value → Bool
  | .inl k, v => Value.isInt k v
  | .inr x, v => Value.isStrOf x v
def keyH (w : World) : Key → Int
  | .inl k => hashInt k
  | .inr x => hashStr w x
theorem keyIs_shape : ∀ {k : Key} {v : Value}, keyIs k v = true → (∃ i t, k = Sum.inl i ∧ v = Value.int i t) ∨ (∃ x t, k = Sum.inr x ∧ v = Value.str x t)
  | .inl i, v, h => by
    obtain ⟨t, e⟩ := Value.isInt_shape (k := i) (v := v) h
    exact .inl ⟨i, t, rfl, e⟩
  | .inr x, v, h => by
    obtain ⟨t, e⟩ := Value.isStrOf_shape (x := x) (v := v) h
    exact .inr ⟨x, t, rfl, e⟩
theorem keyIs_int (i : Int) (t : Tok) : keyIs (.inl i) (.int i t) = true := by simp [keyIs, Value.isInt]
theorem keyIs_str (x : Str) (t : Tok) : keyIs (.inr x) (.str x t) = true := by simp [keyIs, Value.isStrOf]
theorem key_ll (a b : Int) : decide ((Sum.inl a : Key) = Sum.inl b) = (a == b) := by
  by_cases e : a = b
  · subst e; simp
  · have h : ¬ (Sum.inl a : Key) = Sum.inl b := fun q => e (Sum.inl.inj q)
    rw [decide_eq_false h]
    exact (beq_eq_false_iff_ne.mpr e).symm
theorem key_rr (a b : Str) : decide ((Sum.inr a : Key) = Sum.inr b) = decide (a = b) := by
  by_cases e : a = b
  · subst e; simp
  · have h : ¬ (Sum.inr a : Key) = Sum.inr b := fun q => e (Sum.inr.inj q)
    rw [decide_eq_false h, decide_eq_false e]
theorem key_lr (a : Int) (b : Str) : decide ((Sum.inl a : Key) = Sum.inr b) = false := decide_eq_false (fun q => nomatch q)
theorem key_rl (a : Str) (b : Int) : decide ((Sum.inr a : Key) = Sum.inl b) = false := decide_eq_false (fun q => nomatch q)
def mixKind (prog : Program) (w : World) : PySem.KeyKind prog w Key where
  is := keyIs
  hash := keyH w
  inj := fun v a b ha hb => by
    rcases keyIs_shape ha with ⟨i, t, rfl, rfl⟩ | ⟨x, t, rfl, rfl⟩
    · rcases keyIs_shape hb with ⟨j, u, rfl, e⟩ | ⟨y, u, rfl, e⟩
      · injection e with e1 _; rw [e1]
      · exact nomatch e
    · rcases keyIs_shape hb with ⟨j, u, rfl, e⟩ | ⟨y, u, rfl, e⟩
      · exact nomatch e
      · injection e with e1 _; rw [e1]
  byValue := fun k v h => by
    rcases keyIs_shape h with ⟨i, t, rfl, rfl⟩ | ⟨x, t, rfl, rfl⟩ <;> rfl
  pyHash := fun hv h => by
    rcases keyIs_shape hv with ⟨i, t, rfl, rfl⟩ | ⟨x, t, rfl, rfl⟩
    · exact wpAny_pyHash_int h
    · exact wpAny_pyHash_str h
  eqBool := fun hu hv h => by
    rcases keyIs_shape hu with ⟨i, t, rfl, rfl⟩ | ⟨x, t, rfl, rfl⟩
    · rcases keyIs_shape hv with ⟨j, u, rfl, rfl⟩ | ⟨y, u, rfl, rfl⟩
      · rw [key_ll] at h; exact wpAny_eqBool_int h
      · rw [key_lr] at h; exact SeqAt.EqAt.int_str i t y u _ _ _ _ h
    · rcases keyIs_shape hv with ⟨j, u, rfl, rfl⟩ | ⟨y, u, rfl, rfl⟩
      · rw [key_rl] at h; exact SeqAt.EqAt.str_int x t j u _ _ _ _ h
      · rw [key_rr] at h; exact wpAny_eqBool_str h
  «strs» := fun k x t v h => by
    rcases keyIs_shape h with ⟨i, u, rfl, e⟩ | ⟨y, u, rfl, e⟩
    · exact nomatch e
    · injection e with e1 _
      subst e1
      cases v <;> rfl
theorem mixKind_int (prog : Program) (w : World) (i : Int) (t : Tok) : (mixKind prog w).is (.inl i) (.int i t) = true := keyIs_int i t
theorem mixKind_str (prog : Program) (w : World) (x : Str) (t : Tok) : (mixKind prog w).is (.inr x) (.str x t) = true := keyIs_str x t
end L2
namespace L2
open PySem PySem.Spec PyProof.Rows
inductive V where
  | non | bl (b : Bool) | int (i : Int) | str (x : Str) | byt (b : Array UInt8) | flt (b : UInt64) | ref (a : Addr) | ty (n : String)
  deriving DecidableEq
def RelV : V → Value → Prop
  | .non, u => u = Value.none
  | .bl b, u => u = Value.bool b
  | .int i, u => ∃ t, u = Value.int i t
  | .str x, u => ∃ t, u = Value.str x t
  | .byt b, u => ∃ t, u = Value.bytes b t
  | .flt b, u => ∃ t, u = Value.float b t
  | .ref a, u => u = Value.ref a
  | .ty n, u => u = Value.type n
abbrev Vals : List V → List Value → Prop := Paired RelV
theorem Vals.length {xs : List V} {us : List Value} (r : Vals xs us) : xs.length = us.length := Paired.length r
theorem Vals.get : ∀ {xs : List V} {us : List Value} {i : Nat} {x : V}, Vals xs us → xs[i]? = some x → ∃ u, us[i]? = some u ∧ RelV x u
  | _, _, _, _, .nil, e => by simp at e
  | _, _, 0, _, .cons r _, e => by simp at e; subst e; exact ⟨_, rfl, r⟩
  | _, _, i + 1, x, .cons _ t, e => by
    obtain ⟨u, h1, h2⟩ := Vals.get (i := i) (x := x) t (by simpa using e)
    exact ⟨u, by simpa using h1, h2⟩
theorem Vals.set {x : V} {u : Value} (r : RelV x u) : ∀ {xs : List V} {us : List Value} (i : Nat), Vals xs us → Vals (xs.set i x) (us.set i u)
  | _, _, _, .nil => .nil
  | _, _, 0, .cons _ t => .cons r t
  | _, _, i + 1, .cons q t => .cons q (Vals.set r i t)
theorem Vals.append : ∀ {xs ys : List V} {us ws : List Value}, Vals xs us → Vals ys ws → Vals (xs ++ ys) (us ++ ws)
  | _, _, _, _, .nil, s => s
  | _, _, _, _, .cons r t, s => .cons r (Vals.append t s)
theorem Vals.take : ∀ {xs : List V} {us : List Value} (n : Nat), Vals xs us → Vals (xs.take n) (us.take n)
  | _, _, 0, _ => .nil
  | _, _, _ + 1, .nil => .nil
  | _, _, n + 1, .cons r t => .cons r (Vals.take n t)
theorem Vals.drop : ∀ {xs : List V} {us : List Value} (n : Nat), Vals xs us → Vals (xs.drop n) (us.drop n)
  | _, _, 0, r => r
  | _, _, _ + 1, .nil => .nil
  | _, _, n + 1, .cons _ t => Vals.drop n t
def RelO : Option V → Option Value → Prop
  | some v, some u => RelV v u
  | none, none => True
  | _, _ => False
def KV {κ : Type} : List (κ × V) → List (κ × Value) → Prop := Paired fun (p : κ × V) (q : κ × Value) => p.1 = q.1 ∧ RelV p.2 q.2
def kV : Key → V
  | .inl i => .int i
  | .inr x => .str x
inductive HO where
  /-- a list -/
  | lst (xs : List V)
  /-- a tuple (never changes) -/
  | tup (xs : List V)
  /-- a dict whose keys are ints and texts; one whose keys are tuples of ints and texts (the empty one is both) -/
  | dK (kvs : List (Key × V)) | dT (kvs : List (List Key × V))
  /-- a set of ints: its members, its size -/
  | set (S : Int → Bool) (n : Nat)
  /-- an instance of the class at C, its dict at dx, its attributes -/
  | ins (C dx : Addr) (fs : List (Str × V))
  /-- the dict of the instance at x -/
  | own (x : Addr)
  /-- the dict of an exception -/
  | xd (fs : List (Str × V))
  /-- a bound method, f of x -/
  | met (f x : Addr)
  /-- a range object lo, lo + 1, .. below hi -/
  | rng (lo hi : Int)
  /-- a thing that is known to the object (the script; a dict while a loop walks it): read, never written while it is so -/
  | frz (o : Obj) (u : HO)
  /-- a code object's table -/
  | tbl (ps : Array Value)
  /-- any other thing, by what is true of its one object (a def of one's own: SetO a S n := HO.ext fun h => ..) -/
  | ext (φ : Heap → Prop)
abbrev Hp := Addr → Option HO
def upd (H : Hp) (a : Addr) (o : HO) : Hp := fun b => if b = a then some o else H b
theorem upd_same {H : Hp} {a : Addr} {o : HO} : upd H a o a = some o := by unfold upd; rw [if_pos rfl]
theorem upd_ne {H : Hp} {a b : Addr} {o : HO} (h : b ≠ a) : upd H a o b = H b := by unfold upd; rw [if_neg h]
theorem upd_upd {H : Hp} {a : Addr} {o u : HO} : upd (upd H a o) a u = upd H a u := by
  funext b; unfold upd; split <;> rfl
theorem ne_of {H : Hp} {a b : Addr} {o u : HO} (h : H a = some o) (h' : H b = some u) (d : o ≠ u) : a ≠ b := by
  intro e; subst e; rw [h] at h'; exact d (Option.some.inj h')
theorem ne_of_none {H : Hp} {a b : Addr} {o : HO} (h : H a = some o) (h' : H b = none) : a ≠ b := by
  intro e; subst e; rw [h] at h'; cases h'
section
variable (P : Program) (w : World)
def ObjOk (H : Hp) (h : Heap) (a : Addr) : HO → Prop
  | .lst xs => xs.length ≤ sizeLine ∧ ∃ (its : List Value) (n : Nat), Vals xs its ∧ h.get? a = some { cls := .type "list", data := .seq its.toArray n }
  | .tup xs => xs.length ≤ sizeLine ∧ ∃ its : List Value, Vals xs its ∧ IsTup h a its.toArray
  | .dK kvs => kvs.length ≤ sizeLine ∧ (a == sysModules) = false ∧ ∃ vs, KV kvs vs ∧ h.DictOf (mixKind P w) a vs
  | .dT kvs => kvs.length ≤ sizeLine ∧ (a == sysModules) = false ∧ ∃ xs : List (List Key × Addr × Value),
      Paired (fun (p : List Key × V) (q : List Key × Addr × Value) => p.1 = q.1 ∧ H q.2.1 = some (.tup (p.1.map kV)) ∧ RelV p.2 q.2.2) kvs xs ∧
      ∃ o es ep, h.get? a = some o ∧ o.ExactDict ∧ o.data = .dict es ep ∧ es.toList = xs.map (entryOfKey (tupleKind (mixKind P w))) ∧ (xs.map (·.1)).Nodup
  | .set S n => h.SetOf (intKind P w) a S n
  | .ins C dx fs => H dx = some (.own a) ∧ fs.length ≤ 1000 ∧ dx ≠ a ∧ h.get? a = some (PySem.W.instObj C dx) ∧
      ∃ mA, h.Ns1 dx mA ∧ (∀ f, RelO (fs.lookup f) (mA f)) ∧ PySem.Within mA (fs.map (·.1))
  | .own _ => ∃ o, h.get? a = some o
  | .xd fs => ∃ mA, h.Ns1 a mA ∧ ∀ f, RelO (fs.lookup f) (mA f)
  | .rng lo hi => ∃ t u v, h.get? a = some { cls := .type "range", data := .fields #[.int lo t, .int hi u, .int 1 v] }
  | .frz o u => h.get? a = some o ∧ ObjOk H h a u
  | .tbl ps => h.get? a = some { cls := .none, data := .fields ps }
  | .met f x => h.get? a = some (PySem.W.methodObj (.ref f) (.ref x))
  | .ext φ => φ h ∧ (∃ o, h.get? a = some o) ∧ ∀ h1 h2 : Heap, φ h1 → (∀ o, h1.get? a = some o → h2.get? a = some o) → φ h2
def HOk (H : Hp) (h : Heap) : Prop := ∀ a o, H a = some o → ObjOk P w H h a o
end
section
variable {P : Program} {w : World} {H H' : Hp} {h h' : Heap} {a : Addr} {o : HO}
theorem ObjOk.lt (x : ObjOk P w H h a o) : a < h.objs.size := by
  cases o with
  | lst xs => obtain ⟨_, _, _, _, e⟩ := x; exact Heap.lt_size e
  | tup xs => obtain ⟨_, _, _, p⟩ := x; exact p.lt
  | dK kvs => obtain ⟨_, _, _, _, o, _, _, e, _⟩ := x; exact Heap.lt_size e
  | dT kvs => obtain ⟨_, _, _, _, o, _, _, e, _⟩ := x; exact Heap.lt_size e
  | set S n => obtain ⟨o, _, _, _, e, _⟩ := x; exact Heap.lt_size e
  | ins C dx fs => obtain ⟨_, _, _, e, _⟩ := x; exact Heap.lt_size e
  | own y => obtain ⟨_, e⟩ := x; exact Heap.lt_size e
  | xd fs => obtain ⟨_, ⟨_, _, _, e, _⟩, _⟩ := x; exact Heap.lt_size e
  | rng lo hi => obtain ⟨_, _, _, e⟩ := x; exact Heap.lt_size e
  | frz ob u => obtain ⟨e, _⟩ := x; exact Heap.lt_size e
  | tbl ps => exact Heap.lt_size (show h.get? a = some _ from x)
  | met f y => exact Heap.lt_size (show h.get? a = some _ from x)
  | ext φ => obtain ⟨_, ⟨_, e⟩, _⟩ := x; exact Heap.lt_size e
theorem Paired.mapP {α β : Type} {F G : α → β → Prop} : ∀ {l₁ : List α} {l₂ : List β}, Paired F l₁ l₂ → (∀ a b, F a b → G a b) → Paired G l₁ l₂
  | _, _, .nil, _ => .nil
  | _, _, .cons r t, f => .cons (f _ _ r) (Paired.mapP t f)
theorem ObjOk.stay (x : ObjOk P w H h a o) (k : ∀ b u, (b = a ∨ H b = some (.own a)) → h.get? b = some u → h'.get? b = some u)
    (ho : ∀ b, H b = some (.own a) → H' b = some (.own a)) (ht : ∀ b xs, H b = some (.tup xs) → H' b = some (.tup xs)) : ObjOk P w H' h' a o := by
  induction o with
  | lst xs => obtain ⟨z, its, n, r, e⟩ := x; exact ⟨z, its, n, r, k _ _ (.inl rfl) e⟩
  | tup xs => obtain ⟨z, its, r, ob, e, c⟩ := x; exact ⟨z, its, r, ob, k _ _ (.inl rfl) e, c⟩
  | dK kvs => obtain ⟨z, y, vs, r, ob, es, ep, e, c⟩ := x; exact ⟨z, y, vs, r, ob, es, ep, k _ _ (.inl rfl) e, c⟩
  | dT kvs =>
    obtain ⟨z, y, xs, r, ob, es, ep, e, c⟩ := x
    exact ⟨z, y, xs, Paired.mapP r fun p q z => ⟨z.1, ht _ _ z.2.1, z.2.2⟩, ob, es, ep, k _ _ (.inl rfl) e, c⟩
  | set S n => obtain ⟨ob, es, ep, t, e, c⟩ := x; exact ⟨ob, es, ep, t, k _ _ (.inl rfl) e, c⟩
  | ins C dx fs =>
    obtain ⟨d, z, ne, e, mA, ⟨od, es, ep, e2, c⟩, r⟩ := x
    exact ⟨ho _ d, z, ne, k _ _ (.inl rfl) e, mA, ⟨od, es, ep, k _ _ (.inr d) e2, c⟩, r⟩
  | own y => obtain ⟨ob, e⟩ := x; exact ⟨ob, k _ _ (.inl rfl) e⟩
  | xd fs => obtain ⟨mA, ⟨od, es, ep, e, c⟩, r⟩ := x; exact ⟨mA, ⟨od, es, ep, k _ _ (.inl rfl) e, c⟩, r⟩
  | rng lo hi => obtain ⟨t, u, v, e⟩ := x; exact ⟨t, u, v, k _ _ (.inl rfl) e⟩
  | frz ob u ih => obtain ⟨e, q⟩ := x; exact ⟨k _ _ (.inl rfl) e, ih q⟩
  | tbl ps =>
    have e : h.get? a = some { cls := .none, data := .fields ps } := x
    show h'.get? a = some { cls := .none, data := .fields ps }
    exact k a _ (.inl rfl) e
  | met f y =>
    have e : h.get? a = some (PySem.W.methodObj (.ref f) (.ref y)) := x
    show h'.get? a = some (PySem.W.methodObj (.ref f) (.ref y))
    exact k a _ (.inl rfl) e
  | ext φ => obtain ⟨p, ⟨o, e⟩, st⟩ := x; exact ⟨st _ _ p fun o q => k _ _ (.inl rfl) q, ⟨o, k _ _ (.inl rfl) e⟩, st⟩
theorem HOk.lt (x : HOk P w H h) (e : H a = some o) : a < h.objs.size := (x a o e).lt
theorem HOk.fresh (x : HOk P w H h) (e : h.objs.size ≤ a) : H a = none := by
  cases q : H a with
  | none => rfl
  | some u => exact absurd (Nat.lt_of_lt_of_le (x.lt q) e) (Nat.lt_irrefl _)
theorem HOk.kept (x : HOk P w H h) (k : ∀ b u, h.get? b = some u → h'.get? b = some u) : HOk P w H h' := fun a o e =>
  (x a o e).stay (fun b u _ q => k b u q) (fun _ q => q) fun _ _ q => q
theorem HOk.laid (x : HOk P w H h) (k : ∀ b u, h.get? b = some u → h'.get? b = some u) (hp : h.objs.size ≤ a) (new : ObjOk P w (upd H a o) h' a o) : HOk P w (upd H a o) h' := fun b u e => by
  have hn := x.fresh hp
  by_cases hb : b = a
  · subst hb; rw [upd_same] at e; cases e; exact new
  · rw [upd_ne hb] at e
    exact (x b u e).stay (fun c v _ q => k c v q) (fun c q => by rw [upd_ne (ne_of_none q hn)]; exact q) fun c xs q => by rw [upd_ne (ne_of_none q hn)]; exact q
end
def Rd (H : Hp) (a : Addr) (u : HO) : Prop := H a = some u ∨ ∃ o, H a = some (.frz o u)
theorem Rd.of {H : Hp} {a : Addr} {u : HO} (h : H a = some u) : Rd H a u := .inl h
theorem Rd.ok {P : Program} {w : World} {H : Hp} {h : Heap} {a : Addr} {u : HO} (r : Rd H a u) (x : HOk P w H h) : ObjOk P w H h a u := by
  rcases r with r | ⟨o, r⟩
  · exact x a u r
  · obtain ⟨_, q⟩ := x a _ r
    exact q
def Mut : Option HO → Prop
  | some (.lst _) => True
  | some (.dK _) => True
  | some (.dT _) => True
  | some (.set _ _) => True
  | some (.ins _ _ _) => True
  | some (.ext _) => True
  | _ => False
section
variable {P : Program} {w : World} {H : Hp} {h h' : Heap} {x e : Addr} {o' : HO}
theorem HOk.write (ok : HOk P w H h) (mu : Mut (H x)) (he : e = x ∨ H e = some (.own x)) (k : ∀ b u, b ≠ e → h.get? b = some u → h'.get? b = some u) (heo : ∃ u, h'.get? e = some u)
    (new : ObjOk P w (upd H x o') h' x o') : HOk P w (upd H x o') h' := fun b u q => by
  have nown : ∀ c y, H c = some (.own y) → c ≠ x := fun c y r z => by subst z; rw [r] at mu; exact mu
  have ntup : ∀ c xs, H c = some (.tup xs) → c ≠ x := fun c xs r z => by subst z; rw [r] at mu; exact mu
  by_cases hb : b = x
  · subst hb; rw [upd_same] at q; cases q; exact new
  · rw [upd_ne hb] at q
    by_cases hbe : b = e
    · have q' : H b = some (.own x) := by
        rcases he with z | z
        · exact absurd (hbe.trans z) hb
        · rw [hbe]; exact z
      rw [q] at q'; cases q'
      obtain ⟨v, hv⟩ := heo
      exact ⟨v, by rw [hbe]; exact hv⟩
    · refine (ok b u q).stay (fun c v hc r => k c v ?_ r) (fun c r => by rw [upd_ne (nown c b r)]; exact r) fun c xs r => by rw [upd_ne (ntup c xs r)]; exact r
      rcases hc with rfl | hc
      · exact hbe
      · rintro rfl
        rcases he with z | z
        · exact nown c b hc z
        · rw [hc] at z; cases z; exact hb rfl
end
structure Un (fs ex : List Addr) (H H' : Hp) (h h' : Heap) : Prop where
  keep : ∀ b o, h.get? b = some o → H b = none → b ∉ fs → b ∉ ex → h'.get? b = some o
  slot : ∀ b o, h.get? b = some o → H b = none → b ∈ fs → b ∉ ex → ∃ sl, h'.get? b = some { o with slots := sl }
  free : ∀ b o, h.get? b = some o → H b = none → b ∉ ex → H' b = none
  there : ∀ b o, h.get? b = some o → b ∉ ex → ∃ o', h'.get? b = some o'
  tups : ∀ b xs, H b = some (.tup xs) → H' b = some (.tup xs)
  frzs : ∀ b o u, H b = some (.frz o u) → H' b = some (.frz o u)
  tbls : ∀ b ps, H b = some (.tbl ps) → ∃ more, H' b = some (.tbl (ps ++ more))
section
variable {fs fs' ex ex' : List Addr} {H H1 H2 : Hp} {h h1 h2 h' : Heap} {a x e : Addr} {o : HO}
theorem Un.any (u : Un fs ex H H1 h h1) {b : Addr} {ob : Obj} (q : h.get? b = some ob) (n : H b = none) (hx : b ∉ ex) : ∃ sl, h1.get? b = some { ob with slots := sl } := by
  by_cases hb : b ∈ fs
  · exact u.slot b ob q n hb hx
  · exact ⟨ob.slots, u.keep b ob q n hb hx⟩
theorem Un.trans (a : Un fs ex H H1 h h1) (b : Un fs ex H1 H2 h1 h2) : Un fs ex H H2 h h2 where
  keep := fun c ob q n hc hx => b.keep c ob (a.keep c ob q n hc hx) (a.free c ob q n hx) hc hx
  slot := fun c ob q n hc hx => by
    obtain ⟨sl, e1⟩ := a.slot c ob q n hc hx
    obtain ⟨sl', e2⟩ := b.slot c _ e1 (a.free c ob q n hx) hc hx
    exact ⟨sl', e2⟩
  free := fun c ob q n hx => by
    obtain ⟨o', e1⟩ := a.there c ob q hx
    exact b.free c o' e1 (a.free c ob q n hx) hx
  there := fun c ob q hx => by
    obtain ⟨o', e1⟩ := a.there c ob q hx
    exact b.there c o' e1 hx
  tups := fun c xs q => b.tups c xs (a.tups c xs q)
  frzs := fun c ob xs q => b.frzs c ob xs (a.frzs c ob xs q)
  tbls := fun c ps q => by
    obtain ⟨m1, e1⟩ := a.tbls c ps q
    obtain ⟨m2, e2⟩ := b.tbls c _ e1
    exact ⟨m1 ++ m2, by rw [e2, Array.append_assoc]⟩
theorem Un.kept (k : ∀ b u, h.get? b = some u → h'.get? b = some u) : Un fs ex H H h h' :=
  ⟨fun b ob q _ _ _ => k b ob q, fun b ob q _ _ _ => ⟨ob.slots, k b ob q⟩, fun _ _ _ n _ => n, fun b ob q _ => ⟨ob, k b ob q⟩, fun _ _ q => q, fun _ _ _ q => q, fun _ ps q => ⟨#[], by rw [q]; simp⟩⟩
theorem Un.refl : Un fs ex H H h h := Un.kept fun _ _ q => q
theorem Un.laid (k : ∀ b u, h.get? b = some u → h'.get? b = some u) (hp : h.objs.size ≤ a) (hn : H a = none) : Un fs ex H (upd H a o) h h' where
  keep := fun b u q _ _ _ => k b u q
  slot := fun b u q _ _ _ => ⟨u.slots, k b u q⟩
  free := fun b u q n _ => by rw [upd_ne (Nat.ne_of_lt (Nat.lt_of_lt_of_le (Heap.lt_size q) hp))]; exact n
  there := fun b u q _ => ⟨u, k b u q⟩
  tups := fun b xs q => by rw [upd_ne (ne_of_none q hn)]; exact q
  frzs := fun b u xs q => by rw [upd_ne (ne_of_none q hn)]; exact q
  tbls := fun b ps q => ⟨#[], by rw [upd_ne (ne_of_none q hn), q]; simp⟩
theorem Un.write (mu : Mut (H x)) (he : e = x ∨ H e = some (.own x)) (k : ∀ b u, b ≠ e → h.get? b = some u → h'.get? b = some u) (heo : ∃ u, h'.get? e = some u) : Un fs ex H (upd H x o) h h' := by
  have hx : ∀ b, H b = none → b ≠ x := fun b n z => by subst z; rw [n] at mu; exact mu
  have hb : ∀ b, H b = none → b ≠ e := fun b n z => by
    subst z
    rcases he with r | r
    · exact hx b n r
    · rw [n] at r; cases r
  have hm : ∀ b u, H b = some u → ¬ Mut (some u) → b ≠ x := fun b u q nm z => by subst z; rw [q] at mu; exact nm mu
  refine ⟨fun b u q n _ _ => k b u (hb b n) q, fun b u q n _ _ => ⟨u.slots, k b u (hb b n) q⟩, fun b u q n _ => by rw [upd_ne (hx b n)]; exact n, fun b u q _ => ?_,
    fun b xs q => by rw [upd_ne (hm b _ q fun z => z)]; exact q, fun b u xs q => by rw [upd_ne (hm b _ q fun z => z)]; exact q, fun b ps q => ⟨#[], by rw [upd_ne (hm b _ q fun z => z), q]; simp⟩⟩
  by_cases hbe : b = e
  · subst hbe; exact heo
  · exact ⟨u, k b u hbe q⟩
theorem Un.mono (u : Un fs ex H H1 h h1) (hs : ∀ b ∈ fs, b ∈ fs') (hx : ∀ b ∈ ex, b ∈ ex') : Un fs' ex' H H1 h h1 :=
  ⟨fun b ob q n hb he => u.keep b ob q n (fun z => hb (hs b z)) fun z => he (hx b z), fun _ _ q n _ he => u.any q n fun z => he (hx _ z), fun b ob q n he => u.free b ob q n fun z => he (hx b z), fun b ob q he => u.there b ob q fun z => he (hx b z), u.tups, u.frzs, u.tbls⟩
end
def trk (h : Heap) (H : Hp) : List Addr := (List.range h.objs.size).filter fun a => (H a).isSome
def hidT (h : Heap) (H : Hp) : Heap := PySem.W.hideAll h (trk h H)
theorem hidT_size (h : Heap) (H : Hp) : (hidT h H).objs.size = h.objs.size := PySem.W.hideAll_size _ _
theorem hidT_get {h : Heap} {H : Hp} {b : Addr} {o : Obj} (e : h.get? b = some o) (n : H b = none) : (hidT h H).get? b = some o :=
  PySem.W.hideAll_get _ e fun hm => by
    have q : (H b).isSome = true := (List.mem_filter.mp hm).2
    rw [n] at q; simp at q
theorem of_hidT {h : Heap} {H : Hp} {b : Addr} {o : Obj} (e : (hidT h H).get? b = some o) : h.get? b = some o ∧ H b = none := by
  have e' : h.get? b = some o := PySem.W.of_hideAll (trk h H) e
  refine ⟨e', ?_⟩
  cases q : H b with
  | none => rfl
  | some x =>
    have hm : b ∈ trk h H := List.mem_filter.mpr ⟨List.mem_range.mpr (Heap.lt_size e'), by simp [q]⟩
    have z : (hidT h H).get? b = none := PySem.W.hideAll_none (trk h H) hm
    rw [z] at e; cases e
def allNews (g h : Heap) (L : Addr) : List (Addr × Obj) := (List.range h.objs.size).filterMap fun a => if a = L ∨ (g.get? a).isSome = true then none else (h.get? a).map fun o => (a, o)
theorem mem_allNews {g h : Heap} {L a : Addr} {o : Obj} (h1 : a ≠ L) (h2 : g.get? a = none) (h3 : h.get? a = some o) : (a, o) ∈ allNews g h L :=
  List.mem_filterMap.mpr ⟨a, List.mem_range.mpr (Heap.lt_size h3), by simp [h1, h2, h3]⟩
def rest (g h : Heap) (L d : Addr) : List (Addr × Obj) := (allNews g h L).filter fun p => decide (p.1 ≠ d)
theorem mem_rest {g h : Heap} {L d a : Addr} {o : Obj} (h1 : a ≠ L) (h2 : g.get? a = none) (h3 : h.get? a = some o) (h4 : a ≠ d) : (a, o) ∈ rest g h L d :=
  List.mem_filter.mpr ⟨mem_allNews h1 h2 h3, decide_eq_true h4⟩
end L2
namespace L2
open PySem PySem.Spec PyProof.Rows
structure Mod (K : PySem.W.Frag) (mg : Str → Option Value) (base : Heap) : Prop where
  kin : K.In base
  glob : base.Ns mainGlobals mg
  blt : ∃ mb, base.Ns builtinsNs mb ∧ ∀ x : Str, x ≠ "__name__" → mb x = bootBuiltins x
  nolimit : base.NoLimit
structure Cx where
  prog : Program
  w : World
  K : PySem.W.Frag
  mg : Str → Option Value
  base : Heap
  A : Around
  N : List Str
  s₀ : Shared
  H₀ : Hp
  env : Env
  outer : List Env
  stack : List Env
  ex : List Addr
  fn : Str → Bool
  calm : Bool
  pn : List (Addr × Obj)
  xe : Value → Shared → Prop
def frs (l : List Env) : List Addr := l.filterMap (·.frame)
abbrev Cx.fs (X : Cx) : List Addr := frs X.outer
def Vis (sc : Scope) (x : Str) : Prop := sc.names.lookup x = some .local ∨ sc.names.lookup x = some .cell ∨ sc.names.lookup x = some .free
def Loc (sc : Scope) (x : Str) : Prop := sc.names.lookup x = some .local ∨ sc.names.lookup x = some .cell
def Look (env : Env) (h : Heap) (m : Str → Option Value) (x : Str) (u : Value) : Prop :=
  (env.kindOf x = some .local ∧ m x = some u) ∨ ((env.kindOf x = some .cell ∨ env.kindOf x = some .free) ∧ ∃ c, env.cells.lookup x = some c ∧ h.IsCell c (some u))
structure Cx.Ok (X : Cx) : Prop where
  mod : Mod X.K X.mg X.base
  kind : X.env.scope.kind = .function
  glob : X.env.globals = mainGlobals
  blt : X.env.builtins = builtinsNs
  above : X.s₀.heap.objs.size ≤ X.env.locals
  inj : ∀ x y c, X.env.cells.lookup x = some c → X.env.cells.lookup y = some c → x = y
  has : ∀ x, (X.env.kindOf x = some .cell ∨ X.env.kindOf x = some .free) → ∃ c, X.env.cells.lookup x = some c
  cab : ∀ x c, X.fn x = true → X.env.cells.lookup x = some c → X.s₀.heap.objs.size ≤ c
  hd : X.calm = true → X.A.handled = none
  frames : X.A.frames = some X.stack
  stk : X.stack = X.outer ∨ (X.stack = X.env :: X.outer ∧ X.env.frame = some X.env.locals)
  exf : ∀ b ∈ X.ex, b ≠ X.env.locals ∧ ∀ x c, X.env.cells.lookup x = some c → c ≠ b
  bs : ∀ b o, X.base.get? b = some o → X.s₀.heap.get? b = some o ∧ X.H₀ b = none
  bsz : X.base.objs.size ≤ X.s₀.heap.objs.size
  noex : ∀ b o, X.base.get? b = some o → b ∉ X.ex
  exfs : ∀ b ∈ X.ex, b ∉ X.fs
  funs : X.s₀.heap.FunFrames X.base X.outer
  frf : ∀ b ∈ X.fs, X.H₀ b = none
structure Inv (X : Cx) (pins : List (Addr × Obj)) (σ : List (Option V)) (H : Hp) (s : Shared) : Prop where
  ok : X.Ok
  os : s.os = X.s₀.os
  bare : AllBare s.gens
  base : Un X.fs X.ex X.H₀ H X.s₀.heap s.heap
  loc : ∃ m, s.heap.Ns X.env.locals m ∧ ∀ (i : Nat) (x : Str) (v : V), X.N[i]? = some x → σ[i]? = some (some v) → Vis X.env.scope x → ∃ u, RelV v u ∧ Look X.env s.heap m x u
  cell : ∀ x c, X.env.cells.lookup x = some c → ∃ v, s.heap.IsCell c v
  free : H X.env.locals = none
  freeC : ∀ x c, X.env.cells.lookup x = some c → H c = none
  pin : ∀ p ∈ X.pn ++ pins, s.heap.get? p.1 = some p.2 ∧ H p.1 = none ∧ p.1 ≠ X.env.locals ∧ p.1 ∉ X.fs ∧ ∀ v, p.2.data ≠ .cell v
  hok : HOk X.prog X.w H s.heap
  len : σ.length = X.N.length
section
variable {X : Cx} {pins : List (Addr × Obj)} {σ : List (Option V)} {H H' : Hp} {s : Shared} {h' : Heap}
theorem Cx.Ok.nofr (ok : X.Ok) {b : Addr} {o : Obj} (e : X.base.get? b = some o) : b ∉ X.fs := fun hb => by
  have := (ok.funs.mem hb).1
  rw [e] at this; cases this
theorem Inv.bs (I : Inv X pins σ H s) : ∀ b o, X.base.get? b = some o → s.heap.get? b = some o ∧ H b = none := fun b o e =>
  ⟨I.base.keep b o (I.ok.bs b o e).1 (I.ok.bs b o e).2 (I.ok.nofr e) (I.ok.noex b o e), I.base.free b o (I.ok.bs b o e).1 (I.ok.bs b o e).2 (I.ok.noex b o e)⟩
theorem Inv.bk (I : Inv X pins σ H s) : ∀ b o, X.base.get? b = some o → s.heap.get? b = some o := fun b o e => (I.bs b o e).1
theorem Inv.mod (I : Inv X pins σ H s) : Mod X.K X.mg X.base := I.ok.mod
theorem Inv.kIn (I : Inv X pins σ H s) : X.K.In s.heap := I.ok.mod.kin.keeps I.bk
theorem Inv.nolimit (I : Inv X pins σ H s) : s.heap.NoLimit := I.ok.mod.nolimit.keeps I.bk
theorem Inv.fr (I : Inv X pins σ H s) : ∃ m, Fr X.base X.env.locals s.heap m :=
  let ⟨m, hn, _⟩ := I.loc
  ⟨m, hn, I.bk, Nat.le_trans I.ok.bsz I.ok.above⟩
theorem Inv.lt (I : Inv X pins σ H s) : X.env.locals < s.heap.objs.size := let ⟨_, hn, _⟩ := I.loc; hn.lt
theorem Inv.sz (I : Inv X pins σ H s) : X.s₀.heap.objs.size ≤ s.heap.objs.size := Nat.le_trans I.ok.above (Nat.le_of_lt I.lt)
theorem Inv.nofs (I : Inv X pins σ H s) {a : Addr} (h : s.heap.objs.size ≤ a) : a ∉ X.fs := fun hb => by
  obtain ⟨_, o, ho, _⟩ := I.ok.funs.mem hb
  exact absurd (Nat.lt_of_lt_of_le (Heap.lt_size ho) (Nat.le_trans I.sz h)) (Nat.lt_irrefl _)
theorem Inv.cne (I : Inv X pins σ H s) : ∀ x c, X.env.cells.lookup x = some c → c ≠ X.env.locals := fun x c e z => by
  obtain ⟨v, o, ho, hd⟩ := I.cell x c e
  obtain ⟨m, ⟨o', es, ep, ho', hd', _⟩, _⟩ := I.loc
  rw [z, ho'] at ho; cases ho; rw [hd'] at hd; cases hd
theorem Inv.funs (I : Inv X pins σ H s) : s.heap.FunFrames X.base X.outer := by
  have all : ∀ (l : List Env), (∀ b ∈ frs l, b ∈ X.fs) → X.s₀.heap.FunFrames X.base l → s.heap.FunFrames X.base l := by
    intro l
    induction l with
    | nil => intro _ _; trivial
    | cons env r ih =>
      intro hs hl
      obtain ⟨hk, ⟨L, o, hf, hn, ho, hd⟩, hr⟩ := hl
      have hL : L ∈ X.fs := hs L (by unfold frs; rw [List.filterMap_cons, hf]; exact List.mem_cons_self)
      obtain ⟨sl, e⟩ := I.base.slot L o ho (I.ok.frf L hL) hL fun z => I.ok.exfs L z hL
      exact ⟨hk, ⟨L, _, hf, hn, e, hd⟩, ih (fun b hb => hs b (by unfold frs; rw [List.filterMap_cons, hf]; exact List.mem_cons_of_mem _ hb)) hr⟩
  exact all X.outer (fun _ hb => hb) I.ok.funs
theorem Inv.stack (I : Inv X pins σ H s) : s.heap.FunFrames X.base X.stack := by
  rcases I.ok.stk with e | ⟨e, hf⟩
  · rw [e]; exact I.funs
  · rw [e]
    obtain ⟨m, hn, _⟩ := I.loc
    refine .cons (by rw [I.ok.kind]; decide) hf hn ?_ I.funs
    exact Heap.get?_none_of_le (Nat.le_trans I.ok.bsz I.ok.above)
theorem Inv.stkSub (I : Inv X pins σ H s) : ∀ b ∈ frs X.stack, b ∈ X.env.locals :: X.fs := fun b hb => by
  rcases I.ok.stk with e | ⟨e, hf⟩
  · rw [e] at hb; exact List.mem_cons_of_mem _ hb
  · rw [e] at hb
    unfold frs at hb
    rw [List.filterMap_cons, hf] at hb
    exact hb
theorem Inv.stkFree (I : Inv X pins σ H s) : ∀ b ∈ frs X.stack, H b = none := fun b hb => by
  rcases List.mem_cons.mp (I.stkSub b hb) with e | hb
  · rw [e]; exact I.free
  · obtain ⟨_, o, ho, _⟩ := I.ok.funs.mem hb
    exact I.base.free b o ho (I.ok.frf b hb) fun z => I.ok.exfs b z hb
theorem Inv.step {g' : Array GenState} {t' : Nat} {d' : Drawn} {ch : List Addr} (I : Inv X pins σ H s)
    (hch : ∀ b ∈ ch, (b ∈ X.ex ∨ X.s₀.heap.objs.size ≤ b) ∧ b ≠ X.env.locals ∧ (∀ x c, X.env.cells.lookup x = some c → c ≠ b) ∧ ∀ p ∈ X.pn ++ pins, p.1 ≠ b)
    (keep : ∀ b o, b ≠ X.env.locals → b ∉ X.fs → b ∉ ch → s.heap.get? b = some o → H b = none → h'.get? b = some o)
    (slot : ∀ b o, b ≠ X.env.locals → b ∈ X.fs → b ∉ ch → s.heap.get? b = some o → H b = none → ∃ sl, h'.get? b = some { o with slots := sl }) (free : ∀ b o, b ∉ ch → s.heap.get? b = some o → H b = none → H' b = none)
    (there : ∀ b o, b ∉ ch → s.heap.get? b = some o → ∃ o', h'.get? b = some o')
    (tups : ∀ b xs, H b = some (.tup xs) → H' b = some (.tup xs)) (frzs : ∀ b o u, H b = some (.frz o u) → H' b = some (.frz o u)) (tbls : ∀ b ps, H b = some (.tbl ps) → ∃ more, H' b = some (.tbl (ps ++ more)))
    (ns : ∀ m, s.heap.Ns X.env.locals m → h'.Ns X.env.locals m) (hok : HOk X.prog X.w H' h') (hg : AllBare g') :
    Inv X pins σ H' { s with heap := h', gens := g', drawn := d', toks := t' } := by
  have neL : ∀ b o, X.s₀.heap.get? b = some o → b ≠ X.env.locals := fun b o e => Nat.ne_of_lt (Nat.lt_of_lt_of_le (Heap.lt_size e) I.ok.above)
  have neC : ∀ b o, X.s₀.heap.get? b = some o → b ∉ X.ex → b ∉ ch := fun b o e hx hb => by
    rcases (hch b hb).1 with z | z
    · exact hx z
    · exact absurd (Nat.lt_of_lt_of_le (Heap.lt_size e) z) (Nat.lt_irrefl _)
  have cellK : ∀ x c, X.env.cells.lookup x = some c → ∀ v, s.heap.IsCell c v → h'.IsCell c v := fun x c e v ⟨o, ho, hd⟩ => by
    have nch : c ∉ ch := fun z => (hch c z).2.2.1 x c e rfl
    by_cases hc : c ∈ X.fs
    · obtain ⟨sl, q⟩ := slot c o (I.cne x c e) hc nch ho (I.freeC x c e)
      exact ⟨_, q, hd⟩
    · exact ⟨o, keep c o (I.cne x c e) hc nch ho (I.freeC x c e), hd⟩
  refine ⟨I.ok, I.os, hg, ⟨fun b o e n hb hx => ?_, fun b o e n hb hx => ?_, fun b o e n hx => ?_, fun b o e hx => ?_, fun b xs e => tups b xs (I.base.tups b xs e), fun b o xs e => frzs b o xs (I.base.frzs b o xs e), fun b ps e => ?_⟩, ?_, fun x c e => ?_, ?_, fun x c e => ?_, fun p hp => ?_, hok, I.len⟩
  · exact keep b o (neL b o e) hb (neC b o e hx) (I.base.keep b o e n hb hx) (I.base.free b o e n hx)
  · obtain ⟨sl, e1⟩ := I.base.slot b o e n hb hx
    obtain ⟨sl', e2⟩ := slot b _ (neL b o e) hb (neC b o e hx) e1 (I.base.free b o e n hx)
    exact ⟨sl', e2⟩
  · obtain ⟨o', e1⟩ := I.base.there b o e hx
    exact free b o' (neC b o e hx) e1 (I.base.free b o e n hx)
  · obtain ⟨o', e1⟩ := I.base.there b o e hx
    exact there b o' (neC b o e hx) e1
  · obtain ⟨m1, e1⟩ := I.base.tbls b ps e
    obtain ⟨m2, e2⟩ := tbls b _ e1
    exact ⟨m1 ++ m2, by rw [e2, Array.append_assoc]⟩
  · obtain ⟨m, hn, hl⟩ := I.loc
    refine ⟨m, ns m hn, fun i x v e1 e2 e3 => ?_⟩
    obtain ⟨u, r, l⟩ := hl i x v e1 e2 e3
    refine ⟨u, r, ?_⟩
    rcases l with l | ⟨k, c, e, z⟩
    · exact .inl l
    · exact .inr ⟨k, c, e, cellK x c e _ z⟩
  · obtain ⟨v, z⟩ := I.cell x c e
    exact ⟨v, cellK x c e v z⟩
  · obtain ⟨m, ⟨o, _, _, ho, _⟩, _⟩ := I.loc
    exact free _ o (fun z => (hch _ z).2.1 rfl) ho I.free
  · obtain ⟨v, o, ho, hd⟩ := I.cell x c e
    exact free c o (fun z => (hch c z).2.2.1 x c e rfl) ho (I.freeC x c e)
  · obtain ⟨e, n, ne, nf, d⟩ := I.pin p hp
    have nch : p.1 ∉ ch := fun z => (hch p.1 z).2.2.2 p hp rfl
    exact ⟨keep p.1 p.2 ne nf nch e n, free p.1 p.2 nch e n, ne, nf, d⟩
theorem Inv.un {t' : Nat} (I : Inv X pins σ H s) (u : Un X.fs [] H H' s.heap h') (hok : HOk X.prog X.w H' h') : Inv X pins σ H' { s with heap := h', toks := t' } := by
  obtain ⟨m, ⟨o, es, ep, ho, r⟩, _⟩ := id I.loc
  obtain ⟨sl, hL⟩ := u.any ho I.free (by simp)
  exact I.step (g' := s.gens) (d' := s.drawn) (ch := []) (fun _ z => nomatch z) (fun b o _ hb _ e n => u.keep b o e n hb (by simp)) (fun b o _ hb _ e n => u.slot b o e n hb (by simp)) (fun b o _ e n => u.free b o e n (by simp)) (fun b o _ e => u.there b o e (by simp)) u.tups u.frzs u.tbls (fun m' hm => by
    obtain ⟨o', es', ep', ho', r'⟩ := hm
    rw [ho] at ho'; cases ho'
    exact ⟨_, es', ep', hL, r'⟩) hok I.bare
theorem Inv.call {g' : Array GenState} {t' : Nat} {d' : Drawn} {ch : List Addr} (I : Inv X pins σ H s) (u : Un (frs X.stack) ch H H' s.heap h') (hok : HOk X.prog X.w H' h') (hg : AllBare g')
    (hch : ∀ b ∈ ch, (b ∈ X.ex ∨ X.s₀.heap.objs.size ≤ b) ∧ b ≠ X.env.locals ∧ (∀ x c, X.env.cells.lookup x = some c → c ≠ b) ∧ ∀ p ∈ X.pn ++ pins, p.1 ≠ b) :
    Inv X pins σ H' { s with heap := h', gens := g', drawn := d', toks := t' } := by
  obtain ⟨m, ⟨o, es, ep, ho, r⟩, _⟩ := id I.loc
  obtain ⟨sl, hL⟩ := u.any ho I.free fun z => (hch _ z).2.1 rfl
  exact I.step (ch := ch) hch (fun b o hL hb hc e n => u.keep b o e n (fun z => (List.mem_cons.mp (I.stkSub b z)).elim hL hb) hc) (fun b o _ _ hc e n => u.any e n hc) (fun b o hc e n => u.free b o e n hc) (fun b o hc e => u.there b o e hc) u.tups u.frzs u.tbls (fun m' hm => by
    obtain ⟨o', es', ep', ho', r'⟩ := hm
    rw [ho] at ho'; cases ho'
    exact ⟨_, es', ep', hL, r'⟩) hok hg
theorem Inv.turned {t' : Nat} {it : Addr} (I : Inv X pins σ H s) (k : ∀ b o, b ≠ it → s.heap.get? b = some o → h'.get? b = some o) (hn : H it = none) (hL : it ≠ X.env.locals)
    (h1 : it ∈ X.ex ∨ X.s₀.heap.objs.size ≤ it) (h2 : ∀ x c, X.env.cells.lookup x = some c → c ≠ it) (h3 : ∀ p ∈ X.pn ++ pins, p.1 ≠ it) : Inv X pins σ H { s with heap := h', toks := t' } := by
  have nit : ∀ b u, H b = some u → b ≠ it := fun b u e z => by rw [z, hn] at e; cases e
  refine I.step (g' := s.gens) (d' := s.drawn) (ch := [it]) (fun b hb => ?_) (fun b o _ _ hc e _ => k b o (fun z => hc (by simp [z])) e) (fun b o _ _ hc e _ => ⟨o.slots, k b o (fun z => hc (by simp [z])) e⟩) (fun _ _ _ _ n => n)
    (fun b o hc e => ⟨o, k b o (fun z => hc (by simp [z])) e⟩) (fun _ _ e => e) (fun _ _ _ e => e) (fun b ps e => ⟨#[], by rw [e]; simp⟩) (fun m hm => ?_) (fun b u e => ?_) I.bare
  · have e : b = it := by simpa using hb
    subst e
    exact ⟨h1, hL, h2, h3⟩
  · obtain ⟨o, es, ep, ho, r⟩ := hm
    exact ⟨o, es, ep, k _ o (Ne.symm hL) ho, r⟩
  · refine (I.hok b u e).stay (fun c v hc q => k c v ?_ q) (fun _ q => q) fun _ _ q => q
    rcases hc with z | z
    · rw [z]; exact nit b u e
    · exact nit c _ z
theorem Inv.tok (I : Inv X pins σ H s) (t : Nat) : Inv X pins σ H { s with toks := t } := I.un (h' := s.heap) (t' := t) Un.refl I.hok
theorem Inv.kept {t' : Nat} (I : Inv X pins σ H s) (k : ∀ b u, s.heap.get? b = some u → h'.get? b = some u) : Inv X pins σ H { s with heap := h', toks := t' } := I.un (Un.kept k) (I.hok.kept k)
theorem Inv.laid {a : Addr} {o : HO} {t' : Nat} (I : Inv X pins σ H s) (k : ∀ b u, s.heap.get? b = some u → h'.get? b = some u) (hp : s.heap.objs.size ≤ a) (new : ObjOk X.prog X.w (upd H a o) h' a o) :
    Inv X pins σ (upd H a o) { s with heap := h', toks := t' } := I.un (Un.laid k hp (I.hok.fresh hp)) (I.hok.laid k hp new)
theorem Inv.write {x e : Addr} {o : HO} {t' : Nat} (I : Inv X pins σ H s) (mu : Mut (H x)) (he : e = x ∨ H e = some (.own x)) (k : ∀ b u, b ≠ e → s.heap.get? b = some u → h'.get? b = some u) (heo : ∃ u, h'.get? e = some u)
    (new : ObjOk X.prog X.w (upd H x o) h' x o) : Inv X pins σ (upd H x o) { s with heap := h', toks := t' } := I.un (Un.write mu he k heo) (I.hok.write mu he k heo new)
theorem Inv.pins_of {pins' : List (Addr × Obj)} (I : Inv X pins σ H s) (h : ∀ p ∈ pins', s.heap.get? p.1 = some p.2 ∧ H p.1 = none ∧ p.1 ≠ X.env.locals ∧ p.1 ∉ X.fs ∧ ∀ v, p.2.data ≠ .cell v) : Inv X pins' σ H s :=
  ⟨I.ok, I.os, I.bare, I.base, I.loc, I.cell, I.free, I.freeC, fun p hp => (List.mem_append.mp hp).elim (fun z => I.pin p (List.mem_append_left _ z)) (h p), I.hok, I.len⟩
theorem nodup_ix {N : List Str} (hN : N.Nodup) {i j : Nat} {x : Str} (a : N[i]? = some x) (b : N[j]? = some x) : i = j := by
  obtain ⟨h1, e1⟩ := List.getElem?_eq_some_iff.mp a
  obtain ⟨h2, e2⟩ := List.getElem?_eq_some_iff.mp b
  exact (List.getElem_inj hN).mp (e1.trans e2.symm)
theorem store_ok2 {M : Model} {A : Around} {E : Value → Shared → Prop} {i : Nat} {x : Str} {v : V} {u : Value} {Q : Unit → Shared → Prop} (I : Inv X pins σ H s) (hN : X.N.Nodup) (hi : X.N[i]? = some x) (hx : Loc X.env.scope x) (r : RelV v u)
    (h : ∀ s', Inv X pins (σ.set i (some v)) H s' → (∃ a, Heap.SameBut a s.heap s'.heap ∧ (a = X.env.locals ∨ X.env.cells.lookup x = some a)) → Q () s') (hf : X.fn x = true ∨ X.env.scope.names.lookup x = some .local := by first | exact .inl rfl | exact .inr rfl | assumption) : wpAny M A (storeName X.env x u) Q E s := by
  obtain ⟨m, hn, hl⟩ := id I.loc
  have hcls : (X.env.scope.kind == .class || (X.env.scope.kind == .module && X.env.locals != X.env.globals)) = false := by rw [I.ok.kind]; rfl
  have hiσ : i < σ.length := by rw [I.len]; exact (List.getElem?_eq_some_iff.mp hi).1
  have cne := I.cne
  have tracked : ∀ {a : Addr} {h' : Heap}, (∃ o, s.heap.get? a = some o ∧ H a = none) → Heap.SameBut a s.heap h' → HOk X.prog X.w H h' := fun {a h'} ha hs b ob e => by
    obtain ⟨_, _, hfree⟩ := ha
    refine (I.hok b ob e).stay (fun c w' hc q => (hs.2 c ?_).trans q) (fun _ q => q) fun _ _ q => q
    rintro rfl
    rcases hc with rfl | hc
    · rw [hfree] at e; cases e
    · rw [hfree] at hc; cases hc
  rcases hx with hk | hk
  · refine wpAny_storeName_local hk hn (fun h' hn' hs => ?_) hcls
    obtain ⟨oL, _, _, hoL, _⟩ := id hn
    refine h _ ⟨I.ok, I.os, I.bare, ⟨fun b o e n hb hx => ?_, fun b o e n hb hx => ?_, I.base.free, fun b o e hx => ?_, I.base.tups, I.base.frzs, I.base.tbls⟩, ⟨_, hn', fun j y v' e1 e2 e3 => ?_⟩, fun y c e => ?_, I.free, I.freeC, fun p hp => ?_, tracked ⟨oL, hoL, I.free⟩ hs, by simpa using I.len⟩ ⟨_, hs, .inl rfl⟩
    · exact (hs.2 b (Nat.ne_of_lt (Nat.lt_of_lt_of_le (Heap.lt_size e) I.ok.above))).trans (I.base.keep b o e n hb hx)
    · obtain ⟨sl, e1⟩ := I.base.slot b o e n hb hx
      exact ⟨sl, (hs.2 b (Nat.ne_of_lt (Nat.lt_of_lt_of_le (Heap.lt_size e) I.ok.above))).trans e1⟩
    · obtain ⟨o', e1⟩ := I.base.there b o e hx
      exact ⟨o', (hs.2 b (Nat.ne_of_lt (Nat.lt_of_lt_of_le (Heap.lt_size e) I.ok.above))).trans e1⟩
    · by_cases hj : j = i
      · subst hj
        rw [hi] at e1; cases e1
        rw [List.getElem?_set_self hiσ] at e2
        cases e2
        exact ⟨u, r, .inl ⟨hk, by simp⟩⟩
      · rw [List.getElem?_set_ne (Ne.symm hj)] at e2
        obtain ⟨u', r', q⟩ := hl j y v' e1 e2 e3
        refine ⟨u', r', ?_⟩
        rcases q with ⟨k, e⟩ | ⟨k, c, e, z⟩
        · refine .inl ⟨k, ?_⟩
          have : y ≠ x := fun e => hj (nodup_ix hN e1 (e ▸ hi))
          simp [this, e]
        · exact .inr ⟨k, c, e, z.sameBut hs (cne y c e)⟩
    · obtain ⟨w', z⟩ := I.cell y c e
      exact ⟨w', z.sameBut hs (cne y c e)⟩
    · obtain ⟨e, n, ne, nf, d⟩ := I.pin p hp
      exact ⟨(hs.2 p.1 ne).trans e, n, ne, nf, d⟩
  · have hfn : X.fn x = true := by
      rcases hf with z | z
      · exact z
      · rw [z] at hk; cases hk
    obtain ⟨c, hc⟩ := I.ok.has x (.inl hk)
    obtain ⟨w', z⟩ := I.cell x c hc
    refine wpAny_storeName_cell I.ok.kind hk hc z (fun h' hc' hs => ?_)
    obtain ⟨oc, hoc, hocd⟩ := id z
    refine h { s with heap := h' } ⟨I.ok, I.os, I.bare, ⟨fun b o e n hb hx => ?_, fun b o e n hb hx => ?_, I.base.free, fun b o e hx => ?_, I.base.tups, I.base.frzs, I.base.tbls⟩, ⟨m, hn.sameBut hs (Ne.symm (cne x c hc)), fun j y v' e1 e2 e3 => ?_⟩, fun y c' e => ?_, I.free, I.freeC, fun p hp => ?_, tracked ⟨oc, hoc, I.freeC x c hc⟩ hs, by simpa using I.len⟩ ⟨c, hs, .inr hc⟩
    · exact (hs.2 b (Nat.ne_of_lt (Nat.lt_of_lt_of_le (Heap.lt_size e) (I.ok.cab x c hfn hc)))).trans (I.base.keep b o e n hb hx)
    · obtain ⟨sl, e1⟩ := I.base.slot b o e n hb hx
      exact ⟨sl, (hs.2 b (Nat.ne_of_lt (Nat.lt_of_lt_of_le (Heap.lt_size e) (I.ok.cab x c hfn hc)))).trans e1⟩
    · obtain ⟨o', e1⟩ := I.base.there b o e hx
      exact ⟨o', (hs.2 b (Nat.ne_of_lt (Nat.lt_of_lt_of_le (Heap.lt_size e) (I.ok.cab x c hfn hc)))).trans e1⟩
    · by_cases hj : j = i
      · subst hj
        rw [hi] at e1; cases e1
        rw [List.getElem?_set_self hiσ] at e2
        cases e2
        exact ⟨u, r, .inr ⟨.inl hk, c, hc, hc'⟩⟩
      · rw [List.getElem?_set_ne (Ne.symm hj)] at e2
        obtain ⟨u', r', q⟩ := hl j y v' e1 e2 e3
        refine ⟨u', r', ?_⟩
        rcases q with q | ⟨k, c', e, z'⟩
        · exact .inl q
        · refine .inr ⟨k, c', e, z'.sameBut hs ?_⟩
          rintro rfl
          exact hj (nodup_ix hN e1 (I.ok.inj _ _ _ e hc ▸ hi))
    · by_cases hcc : c' = c
      · subst hcc; exact ⟨_, hc'⟩
      · obtain ⟨w2, z2⟩ := I.cell y c' e
        exact ⟨w2, z2.sameBut hs hcc⟩
    · obtain ⟨e, n, ne, nf, d⟩ := I.pin p hp
      refine ⟨(hs.2 p.1 ?_).trans e, n, ne, nf, d⟩
      intro q
      rw [q, hoc] at e
      have q' : oc = p.2 := Option.some.inj e
      exact d w' (by rw [← q']; exact hocd)
theorem store_ok {M : Model} {A : Around} {E : Value → Shared → Prop} {i : Nat} {x : Str} {v : V} {u : Value} {Q : Unit → Shared → Prop} (I : Inv X pins σ H s) (hN : X.N.Nodup) (hi : X.N[i]? = some x) (hx : Loc X.env.scope x) (r : RelV v u)
    (h : ∀ s', Inv X pins (σ.set i (some v)) H s' → Q () s') (hf : X.fn x = true ∨ X.env.scope.names.lookup x = some .local := by first | exact .inl rfl | exact .inr rfl | assumption) : wpAny M A (storeName X.env x u) Q E s :=
  store_ok2 I hN hi hx r (fun s' I' _ => h s' I') hf
theorem Inv.call' {s' : Shared} {ch : List Addr} (I : Inv X pins σ H s) (ho : s'.os = s.os) (u : Un (frs X.stack) ch H H' s.heap s'.heap) (hok : HOk X.prog X.w H' s'.heap) (hg : AllBare s'.gens)
    (hch : ∀ b ∈ ch, (b ∈ X.ex ∨ X.s₀.heap.objs.size ≤ b) ∧ b ≠ X.env.locals ∧ (∀ x c, X.env.cells.lookup x = some c → c ≠ b) ∧ ∀ p ∈ X.pn ++ pins, p.1 ≠ b) : Inv X pins σ H' s' := by
  obtain ⟨h', g', d', t', o'⟩ := s'
  have e : o' = s.os := ho
  subst e
  exact I.call (g' := g') (t' := t') (d' := d') u hok hg hch
end
abbrev XK := Value → Option Addr → Hp → Prop
abbrev St := List (Option V)
abbrev VK := V → Hp → Prop
abbrev TE := St → Hp → VK → Prop
abbrev TT := St → Hp → (Bool → Hp → Prop) → Prop
abbrev TA := St → Hp → (List V → Hp → Prop) → Prop
structure Ends where
  nx : St → Hp → Prop
  rt : VK
  bk : St → Hp → Prop := fun _ _ => False
  ct : St → Hp → Prop := fun _ _ => False
abbrev TS := Ends → St → Hp → Prop
def EP (X : Cx) (pins : List (Addr × Obj)) (σ : St) (Q : VK) (u : Value) (s' : Shared) : Prop := ∃ v H', Inv X pins σ H' s' ∧ RelV v u ∧ Q v H'
def TP (X : Cx) (pins : List (Addr × Obj)) (σ : St) (Q : Bool → Hp → Prop) (b : Bool) (s' : Shared) : Prop := ∃ H', Inv X pins σ H' s' ∧ Q b H'
def AP (X : Cx) (pins : List (Addr × Obj)) (σ : St) (Q : List V → Hp → Prop) (us : List Value) (s' : Shared) : Prop := ∃ vs H', Inv X pins σ H' s' ∧ Vals vs us ∧ Q vs H'
def SP (X : Cx) (pins : List (Addr × Obj)) (D : Ends) (f : Flow) (s' : Shared) : Prop :=
  match f with
  | .next => ∃ σ' H', Inv X pins σ' H' s' ∧ D.nx σ' H'
  | .brk => ∃ σ' H', Inv X pins σ' H' s' ∧ D.bk σ' H'
  | .cont => ∃ σ' H', Inv X pins σ' H' s' ∧ D.ct σ' H'
  | .ret u => ∃ v σ' H', Inv X pins σ' H' s' ∧ RelV v u ∧ D.rt v H'
def PE (X : Cx) (e : Expr) (t : TE) : Prop :=
  ∀ (pins : List (Addr × Obj)) (s : Shared) (σ : St) (H : Hp) (Q : VK), Inv X pins σ H s → t σ H Q → wpAny (model X.prog X.w) X.A (eval e X.env) (EP X pins σ Q) X.xe s
def PT (X : Cx) (e : Expr) (t : TT) : Prop :=
  ∀ (pins : List (Addr × Obj)) (s : Shared) (σ : St) (H : Hp) (Q : Bool → Hp → Prop), Inv X pins σ H s → t σ H Q → wpAny (model X.prog X.w) X.A (isTrue e X.env (eval e X.env)) (TP X pins σ Q) X.xe s
def PW (X : Cx) (e : Expr) (t : TT) : Prop :=
  ∀ (whole : Sem Value) (pins : List (Addr × Obj)) (s : Shared) (σ : St) (H : Hp) (Q : Bool → Hp → Prop), Inv X pins σ H s → t σ H Q → wpAny (model X.prog X.w) X.A (isTrue e X.env whole) (TP X pins σ Q) X.xe s
theorem PW.pt {X : Cx} {e : Expr} {t : TT} (h : PW X e t) : PT X e t := h _
def PA (X : Cx) (es : List Expr) (t : TA) : Prop :=
  ∀ (pos : Pos) (pins : List (Addr × Obj)) (s : Shared) (σ : St) (H : Hp) (Q : List V → Hp → Prop), Inv X pins σ H s → t σ H Q → wpAny (model X.prog X.w) X.A (spliced (backTo pos (starEach es X.env))) (AP X pins σ Q) X.xe s
def PS (X : Cx) (st : Stmt) (t : TS) : Prop :=
  ∀ (pins : List (Addr × Obj)) (s : Shared) (σ : St) (H : Hp) (D : Ends), Inv X pins σ H s → t D σ H → wpAny (model X.prog X.w) X.A (exec st X.env) (SP X pins D) X.xe s
def PSs (X : Cx) (st : List Stmt) (t : TS) : Prop :=
  ∀ (pins : List (Addr × Obj)) (s : Shared) (σ : St) (H : Hp) (D : Ends), Inv X pins σ H s → t D σ H → wpAny (model X.prog X.w) X.A (execs st X.env) (SP X pins D) X.xe s
theorem thn {α : Type} {t : Sem α} {Q Q' : α → Shared → Prop} {M : Model} {A : Around} {E : Value → Shared → Prop} {s : Shared} (h : wpAny M A t Q E s) (hQ : ∀ a s, Q a s → Q' a s) : wpAny M A t Q' E s := wpAny_mono h hQ fun _ _ x => x
end L2
namespace L2
open PySem PySem.Spec PyProof.Rows
section
variable {X : Cx}
def tVar (i : Nat) : TE := fun σ H Q => ∃ v, σ[i]? = some (some v) ∧ Q v H
def tC (v : V) : TE := fun _ H Q => Q v H
theorem pe_var {i : Nat} {x : Str} {pos : Pos} (hN : X.N[i]? = some x) (hv : Vis X.env.scope x) (hd : (x == ("__debug__" : Str)) = false := by decide) (hcd : (x == ("__classdict__" : Str)) = false := by decide) : PE X (.Name x pos) (tVar i) := by
  intro pins s σ H Q I h
  obtain ⟨v, e, h⟩ := h
  obtain ⟨m, hn, hl⟩ := I.loc
  obtain ⟨u, r, l⟩ := hl i x v hN e hv
  have fin : EP X pins σ Q u s := ⟨v, H, I, r, h⟩
  rcases l with ⟨hk, hm⟩ | ⟨hk, c, hc, hcell⟩
  · exact wpAny_Name (wpAny_loadName_local I.ok.kind hk hn hm fin) hd
  · rcases hk with hk | hk
    · exact wpAny_Name (wpAny_loadName_cell I.ok.kind hk hc hcell fin) hd
    · exact wpAny_Name (wpAny_loadName_free I.ok.kind hk hc hcell fin hcd) hd
theorem pe_int {i j pos} : PE X (.Constant (.int i) j pos) (tC (.int i)) := fun _ _ _ H _ I h => wpAny_Constant_int ⟨.int i, H, I.tok _, ⟨_, rfl⟩, h⟩
theorem pe_bl {b j pos} : PE X (.Constant (.bool b) j pos) (tC (.bl b)) := fun _ _ _ H _ I h => Constant_bool ⟨.bl b, H, I, rfl, h⟩
theorem pe_str {x j pos} : PE X (.Constant (.str x) j pos) (tC (.str x)) := fun _ _ _ H _ I h => Calls.Constant_str ⟨.str x, H, I.tok _, ⟨_, rfl⟩, h⟩
def Gl (X : Cx) (x : Str) : Prop := X.env.kindOf x = some .globalImplicit
theorem ld_glob {E : Value → Shared → Prop} {pins : List (Addr × Obj)} {s : Shared} {σ : St} {H : Hp} {x : Str} {u : Value} {pos : Pos} {Q : Value → Shared → Prop} (I : Inv X pins σ H s) (hg : Gl X x) (hm : X.mg x = some u) (h : Q u s)
    (hd : (x == ("__debug__" : Str)) = false := by decide) : wpAny (model X.prog X.w) X.A (eval (.Name x pos) X.env) Q E s :=
  Calls.Name_function_global I.ok.kind hg (Calls.loadGlobal_global (by rw [I.ok.glob]; exact I.mod.glob.keeps I.bk) hm h) hd
theorem ld_blt {E : Value → Shared → Prop} {pins : List (Addr × Obj)} {s : Shared} {σ : St} {H : Hp} {x : Str} {u : Value} {pos : Pos} {Q : Value → Shared → Prop} (I : Inv X pins σ H s) (hg : Gl X x) (hm : X.mg x = none) (hv : bootBuiltins x = some u) (h : Q u s)
    (hn : x ≠ "__name__" := by decide) (hd : (x == ("__debug__" : Str)) = false := by decide) : wpAny (model X.prog X.w) X.A (eval (.Name x pos) X.env) Q E s := by
  obtain ⟨mb, h1, h2⟩ := I.mod.blt
  exact Calls.Name_function_global I.ok.kind hg (Calls.loadGlobal_builtin (by rw [I.ok.glob]; exact I.mod.glob.keeps I.bk) hm (by rw [I.ok.blt]; exact h1.keeps I.bk) ((h2 x hn).trans hv) h) hd
theorem pe_bltn {x : Str} {v : V} {u : Value} {pos : Pos} (hg : Gl X x) (hm : X.mg x = none) (hv : bootBuiltins x = some u) (r : RelV v u) (hn : x ≠ "__name__" := by decide) (hd : (x == ("__debug__" : Str)) = false := by decide) : PE X (.Name x pos) (tC v) :=
  fun _ _ _ H _ I h => ld_blt I hg hm hv ⟨v, H, I, r, h⟩ hn hd
variable {a b : Expr} {ta tb : TE} {pos : Pos}
def tB (t : TE) : TT := fun σ H Q => t σ H fun x H1 => ∃ c, x = .bl c ∧ Q c H1
theorem pt_val {e : Expr} {t : TE} (h : PE X e t) (he : ∀ whole, isTrue e X.env whole = (do let v ← whole; standAt e.pos; holding [v] (truthy v)) := by intro _; rfl) : PT X e (tB t) := by
  intro pins s σ H Q I hw
  refine isTrue_plain (thn (h pins s σ H _ I hw) fun v s1 ⟨x, H1, I1, r1, q1⟩ => ?_) (he _)
  obtain ⟨d, rfl, q⟩ := q1
  cases r1
  exact wpAny_truthy_bool ⟨H1, I1, q⟩
variable {tA tB' : TT} {rest : List Expr}
def tAnd (t u : TT) : TT := fun σ H Q => t σ H fun c H1 => if c = true then u σ H1 Q else Q false H1
def tOr (t u : TT) : TT := fun σ H Q => t σ H fun c H1 => if c = true then Q true H1 else u σ H1 Q
def tNot (t : TT) : TT := fun σ H Q => t σ H fun c H1 => Q (!c) H1
theorem pw_and1 (ha : PT X a tA) : PW X (.BoolOp .And [a] pos) tA := by
  intro wh pins s σ H Q I h
  refine isTrue_and (thn (ha pins s σ H Q I h) fun c s1 e => ?_)
  cases c with
  | true => exact isTrue_and_nil e
  | false => exact e
theorem pw_or1 (ha : PT X a tA) : PW X (.BoolOp .Or [a] pos) tA := by
  intro wh pins s σ H Q I h
  refine isTrue_or (thn (ha pins s σ H Q I h) fun c s1 e => ?_)
  cases c with
  | false => exact isTrue_or_nil e
  | true => exact e
theorem pw_and (ha : PT X a tA) (hb : PW X (.BoolOp .And (b :: rest) pos) tB') : PW X (.BoolOp .And (a :: b :: rest) pos) (tAnd tA tB') := by
  intro wh pins s σ H Q I h
  refine isTrue_and (thn (ha pins s σ H _ I h) fun c s1 ⟨H1, I1, q1⟩ => ?_)
  cases c with
  | true => exact hb wh pins s1 σ H1 Q I1 q1
  | false => exact ⟨H1, I1, q1⟩
theorem pw_or (ha : PT X a tA) (hb : PW X (.BoolOp .Or (b :: rest) pos) tB') : PW X (.BoolOp .Or (a :: b :: rest) pos) (tOr tA tB') := by
  intro wh pins s σ H Q I h
  refine isTrue_or (thn (ha pins s σ H _ I h) fun c s1 ⟨H1, I1, q1⟩ => ?_)
  cases c with
  | true => exact ⟨H1, I1, q1⟩
  | false => exact hb wh pins s1 σ H1 Q I1 q1
theorem pt_not (ha : PT X a tA) : PT X (.UnaryOp .Not a pos) (tNot tA) := by
  intro pins s σ H Q I h
  exact isTrue_not (ha pins s σ H (fun c H1 => Q (!c) H1) I h)
end
end L2
namespace L2
open PySem PySem.Spec PyProof.Rows
def SqL (K : PySem.W.Frag) (H : Hp) (a : Addr) (xs : List V) : Prop :=
  Rd H a (.lst xs) ∨
    ∃ (o : Obj) (its : Array Value) (n : Nat), K.lookup a = some o ∧ o.cls = .type "list" ∧ o.dict = none ∧ o.data = .seq its n ∧ its.size ≤ sizeLine ∧ Vals xs its.toList
def SqT (K : PySem.W.Frag) (H : Hp) (a : Addr) (xs : List V) : Prop :=
  Rd H a (.tup xs) ∨
    ∃ (o : Obj) (its : Array Value) (n : Nat), K.lookup a = some o ∧ o.cls = .type "tuple" ∧ o.data = .seq its n ∧ its.size ≤ sizeLine ∧ Vals xs its.toList
def absV : Value → Option V
  | .none => some .non
  | .bool b => some (.bl b)
  | .int i _ => some (.int i)
  | .str x _ => some (.str x)
  | .bytes b _ => some (.byt b)
  | .float b _ => some (.flt b)
  | .ref a => some (.ref a)
  | .type n => some (.ty n)
  | _ => none
theorem RelV.abs {x : V} {u : Value} (r : RelV x u) : absV u = some x := by
  cases x with
  | non => cases r; rfl
  | bl _ => cases r; rfl
  | int _ => obtain ⟨t, rfl⟩ := r; rfl
  | str _ => obtain ⟨t, rfl⟩ := r; rfl
  | byt _ => obtain ⟨t, rfl⟩ := r; rfl
  | flt _ => obtain ⟨t, rfl⟩ := r; rfl
  | ref _ => cases r; rfl
  | ty _ => cases r; rfl
theorem RelV.inj {x y : V} {u : Value} (r : RelV x u) (q : RelV y u) : x = y := Option.some.inj (r.abs.symm.trans q.abs)
theorem Vals.inj : ∀ {xs ys : List V} {us : List Value}, Vals xs us → Vals ys us → xs = ys
  | _, _, _, .nil, .nil => rfl
  | _, _, _, .cons r t, .cons r' t' => by rw [r.inj r', Vals.inj t t']
section
variable {X : Cx} {pins : List (Addr × Obj)} {σ : St} {H : Hp} {s : Shared} {a : Addr} {xs ys : List V}
theorem SqL.of {K : PySem.W.Frag} (h : H a = some (.lst xs)) : SqL K H a xs := .inl (.inl h)
theorem SqT.of {K : PySem.W.Frag} (h : H a = some (.tup xs)) : SqT K H a xs := .inl (.inl h)
theorem Inv.list (I : Inv X pins σ H s) (h : SqL X.K H a xs) : ∃ its : List Value, Vals xs its ∧ PlainL s.heap a its.toArray ∧ xs.length ≤ sizeLine := by
  rcases h with h | ⟨o, its, n, hk, hc, hd, hs, hz, r⟩
  · obtain ⟨z, its, n, r, e⟩ := h.ok I.hok
    exact ⟨its, r, ⟨_, n, e, rfl, rfl, rfl⟩, z⟩
  · refine ⟨its.toList, r, ⟨o, n, I.kIn a o hk, hc, hd, by simpa using hs⟩, ?_⟩
    have e := r.length
    simp only [Array.length_toList] at e
    omega
theorem Inv.tuple (I : Inv X pins σ H s) (h : SqT X.K H a xs) : ∃ its : List Value, Vals xs its ∧ IsTup s.heap a its.toArray ∧ xs.length ≤ sizeLine := by
  rcases h with h | ⟨o, its, n, hk, hc, hs, hz, r⟩
  · obtain ⟨z, its, r, p⟩ := h.ok I.hok
    exact ⟨its, r, p, z⟩
  · refine ⟨its.toList, r, ⟨o, I.kIn a o hk, hc, n, by simpa using hs⟩, ?_⟩
    have e := r.length
    simp only [Array.length_toList] at e
    omega
theorem Inv.list_inj (I : Inv X pins σ H s) (h : SqL X.K H a xs) (h' : SqL X.K H a ys) : xs = ys := by
  obtain ⟨its, r, ⟨o, n, e, _, _, d⟩, _⟩ := I.list h
  obtain ⟨its', r', ⟨o', n', e', _, _, d'⟩, _⟩ := I.list h'
  rw [e] at e'; cases e'
  rw [d] at d'
  injection d' with d1 _
  have : its = its' := by simpa using congrArg Array.toList d1
  subst this
  exact r.inj r'
theorem Inv.tuple_inj (I : Inv X pins σ H s) (h : SqT X.K H a xs) (h' : SqT X.K H a ys) : xs = ys := by
  obtain ⟨its, r, ⟨o, e, _, n, d⟩, _⟩ := I.tuple h
  obtain ⟨its', r', ⟨o', e', _, n', d'⟩, _⟩ := I.tuple h'
  rw [e] at e'; cases e'
  rw [d] at d'
  injection d' with d1 _
  have : its = its' := by simpa using congrArg Array.toList d1
  subst this
  exact r.inj r'
end
abbrev Cx.wish (X : Cx) (E : Value → Shared → Prop) : Cx := { X with xe := E }
abbrev Cx.nox (X : Cx) : Cx := X.wish fun _ _ => False
theorem Cx.Ok.wish {X : Cx} (ok : X.Ok) (E : Value → Shared → Prop) : (X.wish E).Ok :=
  ⟨ok.mod, ok.kind, ok.glob, ok.blt, ok.above, ok.inj, ok.has, ok.cab, ok.hd, ok.frames, ok.stk, ok.exf, ok.bs, ok.bsz, ok.noex, ok.exfs, ok.funs, ok.frf⟩
theorem Cx.Ok.unwish {X : Cx} {E : Value → Shared → Prop} (ok : (X.wish E).Ok) : X.Ok :=
  ⟨ok.mod, ok.kind, ok.glob, ok.blt, ok.above, ok.inj, ok.has, ok.cab, ok.hd, ok.frames, ok.stk, ok.exf, ok.bs, ok.bsz, ok.noex, ok.exfs, ok.funs, ok.frf⟩
section
variable {X : Cx} {pins : List (Addr × Obj)} {σ : St} {H : Hp} {s : Shared} {E : Value → Shared → Prop}
theorem Inv.wish (I : Inv X pins σ H s) (E : Value → Shared → Prop) : Inv (X.wish E) pins σ H s := ⟨I.ok.wish E, I.os, I.bare, I.base, I.loc, I.cell, I.free, I.freeC, I.pin, I.hok, I.len⟩
theorem Inv.unwish (I : Inv (X.wish E) pins σ H s) : Inv X pins σ H s := ⟨I.ok.unwish, I.os, I.bare, I.base, I.loc, I.cell, I.free, I.freeC, I.pin, I.hok, I.len⟩
theorem SP.unwish {D : Ends} {f : Flow} {s' : Shared} (h : SP (X.wish E) pins D f s') : SP X pins D f s' := by
  cases f with
  | next => obtain ⟨σ', H', I, q⟩ := h; exact ⟨σ', H', I.unwish, q⟩
  | brk => obtain ⟨σ', H', I, q⟩ := h; exact ⟨σ', H', I.unwish, q⟩
  | cont => obtain ⟨σ', H', I, q⟩ := h; exact ⟨σ', H', I.unwish, q⟩
  | ret u => obtain ⟨v, σ', H', I, r, q⟩ := h; exact ⟨v, σ', H', I.unwish, r, q⟩
theorem PE.nox {e : Expr} {t : TE} (h : PE X.nox e t) : PE X e t := fun pins s σ H Q I hw =>
  wpAny_mono (h pins s σ H Q (I.wish _) hw) (fun _ _ ⟨v, H', I', r, q⟩ => ⟨v, H', I'.unwish, r, q⟩) fun _ _ z => False.elim z
theorem PT.nox {e : Expr} {t : TT} (h : PT X.nox e t) : PT X e t := fun pins s σ H Q I hw =>
  wpAny_mono (h pins s σ H Q (I.wish _) hw) (fun _ _ ⟨H', I', q⟩ => ⟨H', I'.unwish, q⟩) fun _ _ z => False.elim z
theorem PSs.nox {st : List Stmt} {t : TS} (h : PSs X.nox st t) : PSs X st t := fun pins s σ H D I hw =>
  wpAny_mono (h pins s σ H D (I.wish _) hw) (fun _ _ q => q.unwish) fun _ _ z => False.elim z
end
section
variable {X : Cx} {st : Stmt} {rest : List Stmt} {t u : TS} {e : Expr} {te : TE} {pos : Pos}
def tNext : TS := fun D σ H => D.nx σ H
def tSeq (t u : TS) : TS := fun D σ H => t { D with nx := u D } σ H
theorem pss_nil : PSs X [] tNext := fun _ _ σ H _ I h => wpAny_execs_nil ⟨σ, H, I, h⟩
theorem pss_cons (h1 : PS X st t) (h2 : PSs X rest u) : PSs X (st :: rest) (tSeq t u) := by
  intro pins s σ H D I h
  refine wpAny_execs_cons (thn (h1 pins s σ H { D with nx := u D } I h) fun f s1 q => ?_)
  cases f with
  | next =>
    obtain ⟨σ', H', I', q⟩ := q
    exact h2 pins s1 σ' H' D I' q
  | ret v => exact q
  | brk => exact q
  | cont => exact q
theorem pss_one (h1 : PS X st t) : PSs X [st] t := by
  intro pins s σ H D I h
  refine wpAny_execs_cons (thn (h1 pins s σ H D I h) fun f s1 q => ?_)
  cases f with
  | next => exact wpAny_execs_nil q
  | ret v => exact q
  | brk => exact q
  | cont => exact q
theorem Inv.quiet {pins : List (Addr × Obj)} {σ : St} {H : Hp} {s : Shared} (I : Inv X pins σ H s) : interactive X.env = false := by simp [interactive, I.ok.kind]
def tDrop (te : TE) : TS := fun D σ H => te σ H fun _ H1 => D.nx σ H1
theorem ps_expr (he : PE X e te) (hs : swapsWith e none pos.line X.env = pure false := by rfl) : PS X (.Expr e pos) (tDrop te) := by
  intro pins s σ H D I h
  exact wpAny_Expr_any (thn (he pins s σ H _ I h) fun v s1 ⟨x, H1, I1, r1, q1⟩ => ⟨σ, H1, I1, q1⟩) I.quiet hs
def tRet (te : TE) : TS := fun D σ H => te σ H D.rt
theorem ps_ret (he : PE X e te) : PS X (.Return (some e) pos) (tRet te) := by
  intro pins s σ H D I h
  exact wpAny_Return_some (thn (he pins s σ H _ I h) fun v s1 ⟨x, H1, I1, r1, q1⟩ => ⟨x, σ, H1, I1, r1, q1⟩)
def tIfS (c : TT) (t u : TS) : TS := fun D σ H => c σ H fun b H1 => if b = true then t D σ H1 else u D σ H1
theorem ps_if {c : Expr} {a b : List Stmt} {tc : TT} (hc : PT X c tc) (ha : PSs X a t) (hb : PSs X b u) : PS X (.If c a b pos) (tIfS tc t u) := by
  intro pins s σ H D I h
  refine wpAny_If (thn (hc pins s σ H _ I h) fun d s1 ⟨H1, I1, q1⟩ => ?_)
  cases d with
  | true => exact ha pins s1 σ H1 D I1 q1
  | false => exact hb pins s1 σ H1 D I1 q1
end
abbrev TG := V → St → Hp → (St → Hp → Prop) → Prop
abbrev TGs := List V → St → Hp → (St → Hp → Prop) → Prop
def PG (X : Cx) (target : Expr) (t : TG) : Prop :=
  ∀ (pins : List (Addr × Obj)) (s : Shared) (σ : St) (H : Hp) (v : V) (u : Value) (Q : St → Hp → Prop), Inv X pins σ H s → RelV v u → t v σ H Q →
    wpAny (model X.prog X.w) X.A (assign target X.env u) (fun _ s' => ∃ σ' H', Inv X pins σ' H' s' ∧ Q σ' H') X.xe s
def PGs (X : Cx) (ts : List Expr) (t : TGs) : Prop :=
  ∀ (pins : List (Addr × Obj)) (s : Shared) (σ : St) (H : Hp) (vs : List V) (us : List Value) (Q : St → Hp → Prop), Inv X pins σ H s → Vals vs us → t vs σ H Q →
    wpAny (model X.prog X.w) X.A (assignInOrder ((assignEach ts X.env).map (·.2)) us) (fun _ s' => ∃ σ' H', Inv X pins σ' H' s' ∧ Q σ' H') X.xe s
section
variable {X : Cx} {pos : Pos}
def gName (i : Nat) : TG := fun v σ H Q => Q (σ.set i (some v)) H
theorem pg_name {i : Nat} {x : Str} (hN : X.N.Nodup) (hi : X.N[i]? = some x) (hx : Loc X.env.scope x) (hf : X.fn x = true ∨ X.env.scope.names.lookup x = some .local := by first | exact .inl rfl | exact .inr rfl | assumption) : PG X (.Name x pos) (gName i) := by
  intro pins s σ H v u Q I r h
  exact wpAny_assign_Name (store_ok I hN hi hx r (fun s' I' => ⟨_, H, I', h⟩) hf)
def gNil : TGs := fun vs σ H Q => vs = [] ∧ Q σ H
def gCons (t : TG) (u : TGs) : TGs := fun vs σ H Q => ∃ v r, vs = v :: r ∧ t v σ H fun σ' H' => u r σ' H' Q
theorem pgs_nil : PGs X [] gNil := by
  intro pins s σ H vs us Q I r h
  obtain ⟨e, h⟩ := h
  subst e
  cases r
  exact assignInOrder_nil ⟨σ, H, I, h⟩
theorem pgs_cons {e : Expr} {es : List Expr} {t : TG} {u : TGs} (h1 : PG X e t) (h2 : PGs X es u)
    (hs : (assignEach (e :: es) X.env).map (·.2) = assign e X.env :: (assignEach es X.env).map (·.2) := by rfl) : PGs X (e :: es) (gCons t u) := by
  intro pins s σ H vs us Q I r h
  obtain ⟨v, vr, e1, h⟩ := h
  subst e1
  cases r with
  | cons r rr =>
    rw [hs]
    refine assignInOrder_cons (thn (h1 pins s σ H _ _ _ I r h) fun _ s1 ⟨σ1, H1, I1, q1⟩ => ?_)
    exact h2 pins s1 σ1 H1 _ _ Q I1 rr q1
def gTup (K : PySem.W.Frag) (n : Nat) (t : TGs) : TG := fun v σ H Q => ∃ a xs, v = .ref a ∧ SqT K H a xs ∧ xs.length = n ∧ t xs σ H Q
theorem pg_tup {es : List Expr} {k : Nat} {t : TGs} {n : Nat} (hc : X.calm = true) (h : PGs X es t)
    (hn : (assignEach es X.env).length = n := by rfl) (hst : (assignEach es X.env).findIdx? (·.1) = none := by rfl) : PG X (.Tuple es k pos) (gTup X.K n t) := by
  intro pins s σ H v u Q I r hw
  obtain ⟨a, xs, e1, hq, hl, hw⟩ := hw
  subst e1
  cases r
  obtain ⟨its, rv, ht, hz⟩ := I.tuple hq
  refine assign_Tuple_tuple (I.ok.hd hc) ht (by simp [hn, ← hl, rv.length]) hst fun h' hx => ?_
  have I1 : Inv X pins σ H { s with heap := h' } := I.kept (t' := s.toks) fun b o e => hx b o (Nat.ne_of_lt (Heap.lt_size e)) e
  exact h pins _ σ H xs _ Q I1 (by simpa using rv) hw
def tAsg (te : TE) (g : TG) : TS := fun D σ H => te σ H fun x H1 => g x σ H1 D.nx
theorem ps_set {i : Nat} {x : Str} {e : Expr} {te : TE} {pos' : Pos} (hN : X.N.Nodup) (hi : X.N[i]? = some x) (hx : Loc X.env.scope x) (he : PE X e te) (hs : swapsWith e (some (.Name x pos')) pos.line X.env = pure false := by rfl) (hf : X.fn x = true ∨ X.env.scope.names.lookup x = some .local := by first | exact .inl rfl | exact .inr rfl | assumption) :
    PS X (.Assign [.Name x pos'] e pos) (tAsg te (gName i)) := by
  intro pins s σ H D I h
  refine wpAny_Assign_Name (thn (he pins s σ H _ I h) fun v s1 ⟨y, H1, I1, r1, q1⟩ => ?_) hs
  exact store_ok I1 hN hi hx r1 (fun s2 I2 => ⟨_, H1, I2, q1⟩) hf
end
section
variable {X : Cx} {pos : Pos}
end
structure It where
  go : Nat → Hp → Prop
  yld : Nat → Hp → V → Hp → Prop
  stop : Nat → Hp → Prop
def FpOk (X : Cx) (pins : List (Addr × Obj)) (H : Hp) (b : Addr) : Prop :=
  H b = none ∧ b ≠ X.env.locals ∧ b ∉ X.fs ∧ (b ∈ X.ex ∨ X.s₀.heap.objs.size ≤ b) ∧ (∀ x c, X.env.cells.lookup x = some c → c ≠ b) ∧ ∀ p ∈ X.pn ++ pins, p.1 ≠ b
theorem Inv.fpOk {X : Cx} {pins : List (Addr × Obj)} {σ : St} {H H' : Hp} {s : Shared} {b : Addr} (I : Inv X pins σ H s) (hb : s.heap.objs.size ≤ b) (hn : H' b = none) : FpOk X pins H' b := by
  refine ⟨hn, Nat.ne_of_gt (Nat.lt_of_lt_of_le I.lt hb), I.nofs hb, .inr (Nat.le_trans I.sz hb), fun x c e z => ?_, fun p hp z => ?_⟩
  · obtain ⟨v, q⟩ := I.cell x c e
    exact absurd (Nat.lt_of_lt_of_le q.lt (by rw [z]; exact hb)) (Nat.lt_irrefl _)
  · exact absurd (Nat.lt_of_lt_of_le (Heap.lt_size (I.pin p hp).1) (by rw [z]; exact hb)) (Nat.lt_irrefl _)
structure Turn (P : Program) (w : World) (K : PySem.W.Frag) (tg : Expr) (J : It) (fp : List Addr) (it : Addr) (tn : Nat → Heap → Prop) : Prop where
  mem : it ∈ fp
  obj : ∀ i h, tn i h → ∀ b ∈ fp, ∃ o, h.get? b = some o ∧ ∀ v, o.data ≠ .cell v
  keep : ∀ i h h', tn i h → (∀ b ∈ fp, ∀ o, h.get? b = some o → h'.get? b = some o) → tn i h'
  item : ∀ (X : Cx), X.prog = P → X.w = w → X.K = K → X.calm = true → ∀ (i : Nat) (pins : List (Addr × Obj)) (s : Shared) (σ : St) (H : Hp) (E : Value → Shared → Prop), Inv X pins σ H s → (∀ b ∈ fp, FpOk X pins H b) → tn i s.heap → J.go i H →
    wpAny (model P w) X.A (pyNext (.ref it)) (fun r s1 => ∃ u, r = some u ∧
      wpAny (model P w) X.A (letOwnedTupleGo tg (.ref it) u) (fun _ s2 => ∃ x H', Inv X pins σ H' s2 ∧ RelV x u ∧ J.yld i H x H' ∧ tn (i + 1) s2.heap ∧ ∀ b ∈ fp, H' b = none) E s1) E s
  done : ∀ (X : Cx), X.prog = P → X.w = w → X.K = K → X.calm = true → ∀ (i : Nat) (pins : List (Addr × Obj)) (s : Shared) (σ : St) (H : Hp) (E : Value → Shared → Prop), Inv X pins σ H s → (∀ b ∈ fp, FpOk X pins H b) → tn i s.heap → J.stop i H →
    wpAny (model P w) X.A (pyNext (.ref it)) (fun r s1 => r = none ∧ Inv X pins σ H s1) E s
  self : ∀ (A : Around) (i : Nat) (s : Shared) (Q : Value → Shared → Prop) (E : Value → Shared → Prop), tn i s.heap → Q (.ref it) s → wpAny (model P w) A (pyIter (.ref it)) Q E s
abbrev TI := St → Hp → (It → Hp → Prop) → Prop
def PIE (X : Cx) (pins : List (Addr × Obj)) (σ : St) (tg : Expr) (R : It → Hp → Prop) (itv : Value) (s2 : Shared) : Prop :=
  ∃ (it : Addr) (fp : List Addr) (tn : Nat → Heap → Prop) (J : It) (H' : Hp), itv = .ref it ∧ Inv X pins σ H' s2 ∧ Turn X.prog X.w X.K tg J fp it tn ∧ tn 0 s2.heap ∧ (∀ b ∈ fp, FpOk X pins H' b) ∧ R J H'
def PI (X : Cx) (tg iter : Expr) (wi : TI) : Prop :=
  ∀ (pins : List (Addr × Obj)) (s : Shared) (σ : St) (H : Hp) (R : It → Hp → Prop), Inv X pins σ H s → wi σ H R →
    wpAny (model X.prog X.w) X.A (eval iter X.env) (fun v s1 => wpAny (model X.prog X.w) X.A (pyIter v) (PIE X pins σ tg R) X.xe s1) X.xe s
theorem go_of {M : Model} {A : Around} {E : Value → Shared → Prop} {s : Shared} {tg : Expr} {it : Addr} {u : Value} {o : Obj} {n : String} {vs : Array Value} {Q : Unit → Shared → Prop} (ho : s.heap.get? it = some o) (hc : o.cls = .type n) (hd : o.data = .fields vs)
    (hn : ["enumerate", "zip", "dict_itemiterator", "dict_reverseitemiterator", "odict_iterator", "itertools.zip_longest", "itertools.pairwise"].contains n = false) (hQ : Q () s) : wpAny M A (letOwnedTupleGo tg (.ref it) u) Q E s := by
  unfold letOwnedTupleGo
  cases tg <;> first
    | exact wpAny_pure hQ
    | (cases u <;> first
        | exact wpAny_pure hQ
        | (refine wpAny_bind (wpAny_load ho ?_)
           rw [hc, hd]
           show wpAny M A (if (["enumerate", "zip", "dict_itemiterator", "dict_reverseitemiterator", "odict_iterator", "itertools.zip_longest", "itertools.pairwise"].contains n && vs[0]? == some (rawInt _)) = true then _ else _) Q E s
           rw [if_neg (by intro h; rw [hn, Bool.false_and] at h; cases h)]
           exact wpAny_pure hQ))
def Itl (K : PySem.W.Frag) (a : Addr) : It :=
  ⟨fun i H => ∃ xs x, SqL K H a xs ∧ xs[i]? = some x, fun i H x H' => H' = H ∧ ∀ xs, SqL K H a xs → xs[i]? = some x, fun i H => ∃ xs, SqL K H a xs ∧ xs.length ≤ i⟩
def Itt (K : PySem.W.Frag) (a : Addr) : It :=
  ⟨fun i H => ∃ xs x, SqT K H a xs ∧ xs[i]? = some x, fun i H x H' => H' = H ∧ ∀ xs, SqT K H a xs → xs[i]? = some x, fun i H => ∃ xs, SqT K H a xs ∧ xs.length ≤ i⟩
def Itr (lo : Int) (n : Nat) : It := ⟨fun i _ => i < n, fun i H x H' => H' = H ∧ x = .int (lo + i), fun i _ => n ≤ i⟩
theorem turn_list {P : Program} {w : World} {K : PySem.W.Frag} {tg : Expr} (a it : Addr) : Turn P w K tg (Itl K a) [it] it (fun i h => h.IsListIter it a i) where
  mem := by simp
  obj := fun i h st b hb => by
    have e : b = it := by simpa using hb
    subst e
    obtain ⟨o, e, c, d⟩ := st
    exact ⟨o, e, fun v z => by rw [d] at z; cases z⟩
  keep := fun i h h' st k => st.at fun o e => k it (by simp) o e
  item := by
    intro X hP hw hK hc i pins s σ H E I hf st hg
    subst hP hw hK
    obtain ⟨xs, x, hq, hx⟩ := hg
    obtain ⟨its, rv, p, hz⟩ := I.list hq
    obtain ⟨u, hu, ru⟩ := rv.get hx
    obtain ⟨f0, f1, f2, f3, f4, f5⟩ := hf it (by simp)
    refine wpAny_pyNext_list_item st p.isList (x := u) (by simpa using hu) fun h' st' sb => ?_
    have I1 : Inv X pins σ H { s with heap := h' } := I.turned (t' := s.toks) (fun b o hb e => (sb.2 b hb).trans e) f0 f1 f3 f4 f5
    obtain ⟨o, e, c, d⟩ := id st'
    exact ⟨u, rfl, go_of (s := { s with heap := h' }) e c d (by decide) ⟨x, H, I1, ru, ⟨rfl, fun ys hy => by rw [I.list_inj hy hq]; exact hx⟩, st', fun b hb => (hf b hb).1⟩⟩
  done := by
    intro X hP hw hK hc i pins s σ H E I hf st hg
    subst hP hw hK
    obtain ⟨xs, hq, hx⟩ := hg
    obtain ⟨its, rv, p, hz⟩ := I.list hq
    obtain ⟨f0, f1, f2, f3, f4, f5⟩ := hf it (by simp)
    have hl := rv.length
    exact wpAny_pyNext_list_end (I.ok.hd hc) st p.isList (by simp; omega) fun h' eb => ⟨rfl, I.turned (t' := s.toks) (fun b o hb e => eb b o hb e) f0 f1 f3 f4 f5⟩
  self := fun _ _ _ _ _ st h => wpAny_pyIter_listiter st h
theorem turn_tuple {P : Program} {w : World} {K : PySem.W.Frag} {tg : Expr} (a it : Addr) : Turn P w K tg (Itt K a) [it] it (fun i h => h.IsTupleIter it a i) where
  mem := by simp
  obj := fun i h st b hb => by
    have e : b = it := by simpa using hb
    subst e
    obtain ⟨o, e, c, d⟩ := st
    exact ⟨o, e, fun v z => by rw [d] at z; cases z⟩
  keep := fun i h h' st k => st.at fun o e => k it (by simp) o e
  item := by
    intro X hP hw hK hc i pins s σ H E I hf st hg
    subst hP hw hK
    obtain ⟨xs, x, hq, hx⟩ := hg
    obtain ⟨its, rv, p, hz⟩ := I.tuple hq
    obtain ⟨u, hu, ru⟩ := rv.get hx
    obtain ⟨f0, f1, f2, f3, f4, f5⟩ := hf it (by simp)
    refine wpAny_pyNext_tuple_item st (show s.heap.IsTuple a its.toArray from p) (x := u) (by simpa using hu) fun h' st' sb => ?_
    have I1 : Inv X pins σ H { s with heap := h' } := I.turned (t' := s.toks) (fun b o hb e => (sb.2 b hb).trans e) f0 f1 f3 f4 f5
    obtain ⟨o, e, c, d⟩ := id st'
    exact ⟨u, rfl, go_of (s := { s with heap := h' }) e c d (by decide) ⟨x, H, I1, ru, ⟨rfl, fun ys hy => by rw [I.tuple_inj hy hq]; exact hx⟩, st', fun b hb => (hf b hb).1⟩⟩
  done := by
    intro X hP hw hK hc i pins s σ H E I hf st hg
    subst hP hw hK
    obtain ⟨xs, hq, hx⟩ := hg
    obtain ⟨its, rv, p, hz⟩ := I.tuple hq
    obtain ⟨f0, f1, f2, f3, f4, f5⟩ := hf it (by simp)
    have hl := rv.length
    exact wpAny_pyNext_tuple_end (I.ok.hd hc) st (show s.heap.IsTuple a its.toArray from p) (by simp; omega) fun h' eb => ⟨rfl, I.turned (t' := s.toks) (fun b o hb e => eb b o hb e) f0 f1 f3 f4 f5⟩
  self := fun _ _ _ _ _ st h => wpAny_pyIter_tupleiter st h
theorem turn_range {P : Program} {w : World} {K : PySem.W.Frag} {tg : Expr} (it : Addr) (lo : Int) (n : Nat) : Turn P w K tg (Itr lo n) [it] it (fun i h => IsRangeIter h it (lo + (i : Nat) * 1) ((n : Int) - (i : Nat)) 1) where
  mem := by simp
  obj := fun i h st b hb => by
    have e : b = it := by simpa using hb
    subst e
    exact ⟨_, st, fun v z => by
      have z' : Data.fields _ = Data.cell v := z
      cases z'⟩
  keep := fun i h h' st k => k it (by simp) _ st
  item := by
    intro X hP hw hK hc i pins s σ H E I hf st hg
    subst hP hw hK
    obtain ⟨f0, f1, f2, f3, f4, f5⟩ := hf it (by simp)
    have W := Walks.range (prog := X.prog) (w := X.w) (I.ok.hd hc) it lo 1 n
    refine W.item i s _ _ hg st fun v h' tk hv st' kk => ?_
    obtain ⟨t, rfl⟩ := hv
    have I1 : Inv X pins σ H { s with heap := h', toks := tk } := I.turned (fun b o hb e => kk b o (by simpa using hb) e) f0 f1 f3 f4 f5
    refine ⟨_, rfl, go_of (s := { s with heap := h', toks := tk }) (n := "range_iterator") st' rfl rfl (by decide) ⟨.int (lo + i), H, I1, ⟨t, ?_⟩, ⟨rfl, rfl⟩, st', fun b hb => (hf b hb).1⟩⟩
    rw [Int.mul_one]
  done := by
    intro X hP hw hK hc i pins s σ H E I hf st hg
    subst hP hw hK
    obtain ⟨f0, f1, f2, f3, f4, f5⟩ := hf it (by simp)
    exact wpAny_pyNext_range_end (I.ok.hd hc) st (by have : n ≤ i := hg; omega) fun h' eb => ⟨rfl, I.turned (t' := s.toks) (fun b o hb e => eb b o hb e) f0 f1 f3 f4 f5⟩
  self := fun _ _ _ _ _ st h => wpAny_pyIter_rangeiter st h
end L2
namespace L2
open PySem PySem.Spec PyProof.Rows
section
variable {X : Cx} {tg : Expr}
def iList (K : PySem.W.Frag) (tl : TE) : TI := fun σ H R => tl σ H fun x H1 => ∃ a, x = .ref a ∧ (∃ xs, SqL K H1 a xs) ∧ R (Itl K a) H1
def iTup (K : PySem.W.Frag) (tl : TE) : TI := fun σ H R => tl σ H fun x H1 => ∃ a, x = .ref a ∧ (∃ xs, SqT K H1 a xs) ∧ R (Itt K a) H1
theorem pi_list {l : Expr} {tl : TE} (hl : PE X l tl) : PI X tg l (iList X.K tl) := by
  intro pins s σ H R I h
  refine thn (hl pins s σ H _ I h) fun v s1 ⟨x, H1, I1, r1, q1⟩ => ?_
  obtain ⟨a, e, ⟨xs, hq⟩, q⟩ := q1
  subst e
  cases r1
  obtain ⟨its, rv, p, hz⟩ := I1.list hq
  refine wpAny_pyIter_list p.isList ?_
  refine ⟨s1.heap.objs.size, [s1.heap.objs.size], _, _, H1, rfl, I1.kept (t' := s1.toks) fun b o e => Heap.get?_push_of_some _ e, turn_list a _, ⟨_, Heap.get?_push_size _ rfl, rfl, rfl⟩, fun b hb => ?_, q⟩
  have e : b = s1.heap.objs.size := by simpa using hb
  subst e
  exact I1.fpOk (Nat.le_refl _) (I1.hok.fresh (Nat.le_refl _))
theorem pi_tup {l : Expr} {tl : TE} (hl : PE X l tl) : PI X tg l (iTup X.K tl) := by
  intro pins s σ H R I h
  refine thn (hl pins s σ H _ I h) fun v s1 ⟨x, H1, I1, r1, q1⟩ => ?_
  obtain ⟨a, e, ⟨xs, hq⟩, q⟩ := q1
  subst e
  cases r1
  obtain ⟨its, rv, p, hz⟩ := I1.tuple hq
  refine wpAny_pyIter_tuple (show s1.heap.IsTuple a its.toArray from p) ?_
  refine ⟨s1.heap.objs.size, [s1.heap.objs.size], _, _, H1, rfl, I1.kept (t' := s1.toks) fun b o e => Heap.get?_push_of_some _ e, turn_tuple a _, ⟨_, Heap.get?_push_size _ rfl, rfl, rfl⟩, fun b hb => ?_, q⟩
  have e : b = s1.heap.objs.size := by simpa using hb
  subst e
  exact I1.fpOk (Nat.le_refl _) (I1.hok.fresh (Nat.le_refl _))
theorem range_it {pins : List (Addr × Obj)} {σ : St} {H : Hp} {s : Shared} {R : It → Hp → Prop} {E : Value → Shared → Prop} {lo hi : Int} {t u v : Tok} {tk : Nat} (I : Inv X pins σ H s) (h1 : -(2 ^ 62) ≤ lo) (h2 : lo < 2 ^ 62) (h3 : -(2 ^ 62) ≤ hi) (h4 : hi < 2 ^ 62)
    (q : R (Itr lo (hi - lo).toNat) H) : wpAny (model X.prog X.w) X.A (pyIter (.ref s.heap.objs.size)) (PIE X pins σ tg R) E { s with heap := s.heap.push { cls := .type "range", data := .fields #[.int lo t, .int hi u, .int 1 v] }, toks := tk } := by
  refine wpAny_pyIter_range (IsRange.new ..) (small_one h1 h2 h3 h4) ?_
  have I1 : Inv X pins σ H { s with heap := s.heap.push { cls := .type "range", data := .fields #[.int lo t, .int hi u, .int 1 v] }, toks := tk } := I.kept fun b o e => Heap.get?_push_of_some _ e
  refine ⟨(s.heap.push { cls := .type "range", data := .fields #[.int lo t, .int hi u, .int 1 v] }).objs.size, [(s.heap.push { cls := .type "range", data := .fields #[.int lo t, .int hi u, .int 1 v] }).objs.size], _, _, H, rfl,
    I1.kept (t' := tk) fun b o e => Heap.get?_push_of_some _ e, turn_range _ lo (hi - lo).toNat, ?_, fun b hb => ?_, q⟩
  · have e1 : lo + ((0 : Nat) : Int) * 1 = lo := by simp
    have e2 : (((hi - lo).toNat : Nat) : Int) - ((0 : Nat) : Int) = Builtin.Range.rangeSize lo hi 1 := by rw [rangeSize_one]; split <;> omega
    show IsRangeIter _ _ (lo + ((0 : Nat) : Int) * 1) ((((hi - lo).toNat : Nat) : Int) - ((0 : Nat) : Int)) 1
    rw [e1, e2]
    exact Heap.get?_push_size _ rfl
  · have e : b = (s.heap.push { cls := .type "range", data := .fields #[.int lo t, .int hi u, .int 1 v] }).objs.size := by simpa using hb
    subst e
    exact I1.fpOk (Nat.le_refl _) (I1.hok.fresh (Nat.le_refl _))
def iRng1 (ta : TA) : TI := fun σ H R => ta σ H fun vs H1 => ∃ j : Int, vs = [.int j] ∧ -(2 ^ 62) ≤ j ∧ j < 2 ^ 62 ∧ R (Itr 0 j.toNat) H1
def iRng2 (ta : TA) : TI := fun σ H R => ta σ H fun vs H1 => ∃ i j : Int, vs = [.int i, .int j] ∧ (-(2 ^ 62) ≤ i ∧ i < 2 ^ 62 ∧ -(2 ^ 62) ≤ j ∧ j < 2 ^ 62) ∧ R (Itr i (j - i).toNat) H1
theorem pi_range1 {a : Expr} {ta : TA} {p pos : Pos} (hg : Gl X "range") (hm : X.mg "range" = none) (ha : PA X [a] ta) (hs : starEach [a] X.env = [(false, eval a X.env)] := by rfl) : PI X tg (.Call (.Name "range" p) [a] [] pos) (iRng1 ta) := by
  intro pins s σ H R I h
  refine Call_ (ld_blt I hg hm boot_range (PyProof.Rows.callWith_type1 (thn (ha pos pins s σ H _ I h) fun us s1 ⟨vs, H1, I1, r1, q1⟩ => ?_) hs rfl))
  obtain ⟨j, e, q1, q2, q⟩ := q1
  subst e
  cases r1 with
  | cons r rr =>
    cases rr
    obtain ⟨t, rfl⟩ := r
    exact call_range_1 (range_it I1 (by omega) (by omega) q1 q2 (by simpa using q))
theorem pi_range2 {a b : Expr} {ta : TA} {p pos : Pos} (hg : Gl X "range") (hm : X.mg "range" = none) (ha : PA X [a, b] ta) (hs : starEach [a, b] X.env = [(false, eval a X.env), (false, eval b X.env)] := by rfl) (hs2 : starEach [b] X.env = [(false, eval b X.env)] := by rfl) :
    PI X tg (.Call (.Name "range" p) [a, b] [] pos) (iRng2 ta) := by
  intro pins s σ H R I h
  refine Call_ (ld_blt I hg hm boot_range (PyProof.Rows.callWith_type1 (thn (ha pos pins s σ H _ I h) fun us s1 ⟨vs, H1, I1, r1, q1⟩ => ?_) (by rw [hs, hs2]) (by rw [hs2]; rfl)))
  obtain ⟨i, j, e, ⟨q1, q2, q3, q4⟩, q⟩ := q1
  subst e
  cases r1 with
  | cons r rr =>
    cases rr with
    | cons r' rr =>
      cases rr
      obtain ⟨t, rfl⟩ := r
      obtain ⟨t', rfl⟩ := r'
      exact call_range_2 (range_it I1 q1 q2 q3 q4 q)
def tFor (wi : TI) (g : TG) (tb : TS) : TS := fun D σ H => wi σ H fun J H1 => ∃ W : Nat → Nat → St → Hp → Prop, (∃ m, W 0 m σ H1) ∧ ∀ i m σ H, W i m σ H →
  (J.stop i H ∧ D.nx σ H) ∨ (J.go i H ∧ ∃ N : St → Hp → Prop, (∀ σ' H', N σ' H' → ∃ m', m' < m ∧ W (i + 1) m' σ' H') ∧ ∀ x H', J.yld i H x H' → g x σ H' fun σ2 H2 => tb { D with nx := N, ct := N, bk := D.nx } σ2 H2)
def pinsAt (fp : List Addr) (h : Heap) : List (Addr × Obj) := fp.filterMap fun b => (h.get? b).map fun o => (b, o)
theorem mem_pinsAt {fp : List Addr} {h : Heap} {b : Addr} {o : Obj} (hb : b ∈ fp) (e : h.get? b = some o) : (b, o) ∈ pinsAt fp h := List.mem_filterMap.mpr ⟨b, hb, by rw [e]; rfl⟩
theorem of_pinsAt {fp : List Addr} {h : Heap} {p : Addr × Obj} (hp : p ∈ pinsAt fp h) : p.1 ∈ fp ∧ h.get? p.1 = some p.2 := by
  obtain ⟨b, hb, e⟩ := List.mem_filterMap.mp hp
  cases q : h.get? b with
  | none => rw [q] at e; cases e
  | some o =>
    rw [q] at e
    have e' : (b, o) = p := Option.some.inj e
    subst e'
    exact ⟨hb, q⟩
theorem Inv.pinned {pins : List (Addr × Obj)} {σ : St} {H : Hp} {s : Shared} {fp : List Addr} (I : Inv X pins σ H s) (hf : ∀ b ∈ fp, FpOk X pins H b) (ho : ∀ b ∈ fp, ∃ o, s.heap.get? b = some o ∧ ∀ v, o.data ≠ .cell v) : Inv X (pins ++ pinsAt fp s.heap) σ H s :=
  I.pins_of fun p hp => (List.mem_append.mp hp).elim (fun z => I.pin p (List.mem_append_right _ z)) fun z => by
    obtain ⟨hb, e⟩ := of_pinsAt z
    obtain ⟨f0, f1, f2, _⟩ := hf p.1 hb
    obtain ⟨o, e', d⟩ := ho p.1 hb
    rw [e] at e'; cases e'
    exact ⟨e, f0, f1, f2, d⟩
theorem Inv.unpinned {pins pl : List (Addr × Obj)} {σ : St} {H : Hp} {s : Shared} (I : Inv X (pins ++ pl) σ H s) : Inv X pins σ H s := I.pins_of fun p hp => I.pin p (List.mem_append_right _ (List.mem_append_left _ hp))
theorem ps_for {iter : Expr} {body : List Stmt} {wi : TI} {g : TG} {tb : TS} {pos : Pos} (hp : PassesOwn (model X.prog X.w) X.A X.env X.xe) (hc : X.calm = true) (hi : PI X tg iter wi) (hg : PG X tg g) (hb : PSs X body tb)
    (hs : ∀ x, foldedSetIterable iter X.env x = pure x := by intro _; rfl) : PS X (.For tg iter body [] pos) (tFor wi g tb) := by
  intro pins s σ H D I h
  refine wpAny_For (thn (hi pins s σ H _ I h) fun v s1 h1 => thn h1 fun itv s2 h2 => ?_) hs
  obtain ⟨it, fp, tn, J, H2, e, I2, T, st2, f2, W, ⟨m0, w0⟩, turn⟩ := h2
  subst e
  have stat : ∀ {H' : Hp}, (∀ b ∈ fp, H' b = none) → ∀ b ∈ fp, FpOk X pins H' b := fun hn b hb => ⟨hn b hb, (f2 b hb).2⟩
  refine codeAny_forLoop_any (fun n s' => ∃ i σ' H', Inv X pins σ' H' s' ∧ tn i s'.heap ∧ (∀ b ∈ fp, H' b = none) ∧ W i n σ' H') ?_ m0 ⟨0, σ, H2, I2, st2, fun b hb => (f2 b hb).1, w0⟩
  rintro n s3 ⟨i, σ3, H3, I3, st3, fr3, w3⟩
  rcases turn i n σ3 H3 w3 with ⟨stop, qn⟩ | ⟨go, N, hN, step⟩
  · refine wpAny_passesOwn hp (thn (T.done X rfl rfl rfl hc i pins s3 σ3 H3 X.xe I3 (stat fr3) st3 stop) fun r s4 ⟨hr, I4⟩ => ?_)
    subst hr
    exact wpAny_execs_nil ⟨σ3, H3, I4, qn⟩
  · refine wpAny_passesOwn hp (thn (T.item X rfl rfl rfl hc i pins s3 σ3 H3 X.xe I3 (stat fr3) st3 go) fun r s4 ⟨u, hr, h4⟩ => ?_)
    subst hr
    refine wpAny_passesOwn hp (thn h4 fun _ s5 ⟨x, H5, I5, r5, y5, st5, fr5⟩ => ?_)
    have I5' := I5.pinned (stat fr5) (T.obj _ _ st5)
    refine wpAny_passesOwn hp (thn (hg _ s5 σ3 H5 x u _ I5' r5 (step x H5 y5)) fun _ s6 ⟨σ6, H6, I6, q6⟩ => ?_)
    refine wpAny_passesOwn hp (thn (hb _ s6 σ6 H6 _ I6 q6) fun f s7 q7 => ?_)
    have again : ∀ {σ7 : St} {H7 : Hp}, Inv X (pins ++ pinsAt fp s5.heap) σ7 H7 s7 → N σ7 H7 → ∃ m, m < n ∧ ∃ i σ' H', Inv X pins σ' H' s7 ∧ tn i s7.heap ∧ (∀ b ∈ fp, H' b = none) ∧ W i m σ' H' := fun {σ7 H7} I7 n7 => by
      obtain ⟨m', hm, w7⟩ := hN σ7 H7 n7
      refine ⟨m', hm, i + 1, σ7, H7, I7.unpinned, T.keep _ _ _ st5 fun b hb o e => (I7.pin (b, o) (List.mem_append_right _ (List.mem_append_right _ (mem_pinsAt hb e)))).1, fun b hb => ?_, w7⟩
      obtain ⟨o, e, d⟩ := T.obj _ _ st5 b hb
      exact (I7.pin (b, o) (List.mem_append_right _ (List.mem_append_right _ (mem_pinsAt hb e)))).2.1
    cases f with
    | next => obtain ⟨σ7, H7, I7, n7⟩ := q7; exact again I7 n7
    | cont => obtain ⟨σ7, H7, I7, n7⟩ := q7; exact again I7 n7
    | brk => obtain ⟨σ7, H7, I7, q7⟩ := q7; exact ⟨σ7, H7, I7.unpinned, q7⟩
    | ret v => obtain ⟨x7, σ7, H7, I7, r7, q7⟩ := q7; exact ⟨x7, σ7, H7, I7.unpinned, r7, q7⟩
end
theorem for_list {K : PySem.W.Frag} {a : Addr} {xs : List V} {g : TG} {tb : TS} {D : Ends} {σ : St} {H : Hp} (Pv : Nat → St → Hp → Prop) (h0 : Pv 0 σ H) (hl : ∀ i σ H, i ≤ xs.length → Pv i σ H → SqL K H a xs)
    (hs : ∀ i x σ H, xs[i]? = some x → Pv i σ H → g x σ H fun σ2 H2 => tb { D with nx := Pv (i + 1), ct := Pv (i + 1), bk := D.nx } σ2 H2) (hd : ∀ σ H, Pv xs.length σ H → D.nx σ H) :
    ∃ W : Nat → Nat → St → Hp → Prop, (∃ m, W 0 m σ H) ∧ ∀ i m σ H, W i m σ H →
      ((Itl K a).stop i H ∧ D.nx σ H) ∨ ((Itl K a).go i H ∧ ∃ N : St → Hp → Prop, (∀ σ' H', N σ' H' → ∃ m', m' < m ∧ W (i + 1) m' σ' H') ∧ ∀ x H', (Itl K a).yld i H x H' → g x σ H' fun σ2 H2 => tb { D with nx := N, ct := N, bk := D.nx } σ2 H2) := by
  refine ⟨fun i m σ H => m = xs.length - i ∧ i ≤ xs.length ∧ Pv i σ H, ⟨xs.length, by simp, Nat.zero_le _, h0⟩, ?_⟩
  rintro i m σ H ⟨rfl, hi, p⟩
  have q := hl i σ H hi p
  by_cases hlt : i < xs.length
  · refine .inr ⟨⟨xs, xs[i], q, by simp [hlt]⟩, Pv (i + 1), fun σ' H' p' => ⟨xs.length - (i + 1), by omega, rfl, hlt, p'⟩, fun x H' y => ?_⟩
    obtain ⟨e, y⟩ := y
    subst e
    exact hs i x σ _ (y xs q) p
  · have e : i = xs.length := by omega
    subst e
    exact .inl ⟨⟨xs, q, Nat.le_refl _⟩, hd σ H p⟩
theorem for_tup {K : PySem.W.Frag} {a : Addr} {xs : List V} {g : TG} {tb : TS} {D : Ends} {σ : St} {H : Hp} (Pv : Nat → St → Hp → Prop) (h0 : Pv 0 σ H) (hl : ∀ i σ H, i ≤ xs.length → Pv i σ H → SqT K H a xs)
    (hs : ∀ i x σ H, xs[i]? = some x → Pv i σ H → g x σ H fun σ2 H2 => tb { D with nx := Pv (i + 1), ct := Pv (i + 1), bk := D.nx } σ2 H2) (hd : ∀ σ H, Pv xs.length σ H → D.nx σ H) :
    ∃ W : Nat → Nat → St → Hp → Prop, (∃ m, W 0 m σ H) ∧ ∀ i m σ H, W i m σ H →
      ((Itt K a).stop i H ∧ D.nx σ H) ∨ ((Itt K a).go i H ∧ ∃ N : St → Hp → Prop, (∀ σ' H', N σ' H' → ∃ m', m' < m ∧ W (i + 1) m' σ' H') ∧ ∀ x H', (Itt K a).yld i H x H' → g x σ H' fun σ2 H2 => tb { D with nx := N, ct := N, bk := D.nx } σ2 H2) := by
  refine ⟨fun i m σ H => m = xs.length - i ∧ i ≤ xs.length ∧ Pv i σ H, ⟨xs.length, by simp, Nat.zero_le _, h0⟩, ?_⟩
  rintro i m σ H ⟨rfl, hi, p⟩
  have q := hl i σ H hi p
  by_cases hlt : i < xs.length
  · refine .inr ⟨⟨xs, xs[i], q, by simp [hlt]⟩, Pv (i + 1), fun σ' H' p' => ⟨xs.length - (i + 1), by omega, rfl, hlt, p'⟩, fun x H' y => ?_⟩
    obtain ⟨e, y⟩ := y
    subst e
    exact hs i x σ _ (y xs q) p
  · have e : i = xs.length := by omega
    subst e
    exact .inl ⟨⟨xs, q, Nat.le_refl _⟩, hd σ H p⟩
theorem for_range {lo : Int} {n : Nat} {g : TG} {tb : TS} {D : Ends} {σ : St} {H : Hp} (Pv : Nat → St → Hp → Prop) (h0 : Pv 0 σ H)
    (hs : ∀ i σ H, i < n → Pv i σ H → g (.int (lo + i)) σ H fun σ2 H2 => tb { D with nx := Pv (i + 1), ct := Pv (i + 1), bk := D.nx } σ2 H2) (hd : ∀ σ H, Pv n σ H → D.nx σ H) :
    ∃ W : Nat → Nat → St → Hp → Prop, (∃ m, W 0 m σ H) ∧ ∀ i m σ H, W i m σ H →
      ((Itr lo n).stop i H ∧ D.nx σ H) ∨ ((Itr lo n).go i H ∧ ∃ N : St → Hp → Prop, (∀ σ' H', N σ' H' → ∃ m', m' < m ∧ W (i + 1) m' σ' H') ∧ ∀ x H', (Itr lo n).yld i H x H' → g x σ H' fun σ2 H2 => tb { D with nx := N, ct := N, bk := D.nx } σ2 H2) := by
  refine ⟨fun i m σ H => m = n - i ∧ i ≤ n ∧ Pv i σ H, ⟨n, by simp, Nat.zero_le _, h0⟩, ?_⟩
  rintro i m σ H ⟨rfl, hi, p⟩
  by_cases hlt : i < n
  · refine .inr ⟨hlt, Pv (i + 1), fun σ' H' p' => ⟨n - (i + 1), by omega, rfl, hlt, p'⟩, fun x H' y => ?_⟩
    obtain ⟨e, y⟩ := y
    subst e y
    exact hs i σ _ hlt p
  · have e : i = n := by omega
    subst e
    exact .inl ⟨Nat.le_refl _, hd σ H p⟩
end L2
namespace L2
open PySem PySem.Spec PyProof.Rows
abbrev R2 := V → V → Hp → VK → Prop
def OpR (X : Cx) (f : Value → Value → Sem Value) (r : R2) : Prop :=
  ∀ (pins : List (Addr × Obj)) (s : Shared) (σ : St) (H : Hp) (x y : V) (v u : Value) (Q : VK), Inv X pins σ H s → RelV x v → RelV y u → r x y H Q →
    wpAny (model X.prog X.w) X.A (f v u) (EP X pins σ Q) X.xe s
def UnR (X : Cx) (f : Value → Sem Value) (r : V → Hp → VK → Prop) : Prop :=
  ∀ (pins : List (Addr × Obj)) (s : Shared) (σ : St) (H : Hp) (x : V) (v : Value) (Q : VK), Inv X pins σ H s → RelV x v → r x H Q →
    wpAny (model X.prog X.w) X.A (f v) (EP X pins σ Q) X.xe s
def CallR (X : Cx) (f : Value) (r : List V → Hp → VK → Prop) : Prop :=
  ∀ (pins : List (Addr × Obj)) (s : Shared) (σ : St) (H : Hp) (xs : List V) (us : List Value) (Q : VK), Inv X pins σ H s → Vals xs us → r xs H Q →
    wpAny (model X.prog X.w) X.A (call f us) (EP X pins σ Q) X.xe s
def tOp (r : R2) (ta tb : TE) : TE := fun σ H Q => ta σ H fun x H1 => tb σ H1 fun y H2 => r x y H2 Q
def tUn (r : V → Hp → VK → Prop) (ta : TE) : TE := fun σ H Q => ta σ H fun x H1 => r x H1 Q
def rI (C : Int → Int → Prop) (g : Int → Int → V) : R2 := fun x y H Q => ∃ i j, x = .int i ∧ y = .int j ∧ C i j ∧ Q (g i j) H
def rI0 (g : Int → Int → V) : R2 := fun x y H Q => ∃ i j, x = .int i ∧ y = .int j ∧ Q (g i j) H
def rU (g : Int → V) : V → Hp → VK → Prop := fun x H Q => ∃ i, x = .int i ∧ Q (g i) H
section
variable {X : Cx} {a b c : Expr} {ta tb tc : TE} {pos : Pos}
theorem binT (ha : PE X a ta) (hb : PE X b tb) {pins : List (Addr × Obj)} {s : Shared} {σ : St} {H : Hp} {R : V → V → Hp → Prop} (I : Inv X pins σ H s)
    (h : ta σ H fun x H1 => tb σ H1 fun y H2 => R x y H2) {Q : Value → Shared → Prop} {f : Value → Value → Sem Value}
    (hf : ∀ v u s2 x y H2, Inv X pins σ H2 s2 → RelV x v → RelV y u → R x y H2 → wpAny (model X.prog X.w) X.A (f v u) Q X.xe s2) :
    wpAny (model X.prog X.w) X.A (eval a X.env) (fun v s₁ => wpAny (model X.prog X.w) X.A (eval b X.env) (fun u s₂ => wpAny (model X.prog X.w) X.A (f v u) Q X.xe s₂) X.xe s₁) X.xe s := by
  refine thn (ha pins s σ H _ I h) fun v s1 ⟨x, H1, I1, r1, q1⟩ => ?_
  refine thn (hb pins s1 σ H1 _ I1 q1) fun u s2 ⟨y, H2, I2, r2, q2⟩ => ?_
  exact hf v u s2 x y H2 I2 r1 r2 q2
theorem pe_op {op : Operator} {r : R2} (ho : OpR X (binaryOp op) r) (ha : PE X a ta) (hb : PE X b tb) : PE X (.BinOp a op b pos) (tOp r ta tb) := by
  intro pins s σ H Q I h
  exact wpAny_BinOp (binT ha hb I h fun v u s2 x y H2 I2 rx ry q => ho pins s2 σ H2 x y v u Q I2 rx ry q)
theorem pe_un {op : UnaryOp} {r : V → Hp → VK → Prop} (ho : UnR X (unaryOp op) r) (ha : PE X a ta) : PE X (.UnaryOp op a pos) (tUn r ta) := by
  intro pins s σ H Q I h
  exact UnaryOp_ (thn (ha pins s σ H _ I h) fun v s1 ⟨x, H1, I1, r1, q1⟩ => ho pins s1 σ H1 x v Q I1 r1 q1)
theorem opI {f : Value → Value → Sem Value} {C : Int → Int → Prop} {g : Int → Int → Int}
    (rule : ∀ (i j : Int) (t u : Tok) (s : Shared) (Q : Value → Shared → Prop) (E : Value → Shared → Prop), C i j → Q (.int (g i j) s.toks) { s with toks := s.toks + 1 } → wpAny (model X.prog X.w) X.A (f (.int i t) (.int j u)) Q E s) :
    OpR X f (rI C fun i j => .int (g i j)) := by
  intro pins s σ H x y v u Q I rx ry h
  obtain ⟨i, j, rfl, rfl, hc, q⟩ := h
  obtain ⟨t, rfl⟩ := rx
  obtain ⟨t', rfl⟩ := ry
  exact rule i j t t' s _ _ hc ⟨.int (g i j), H, I.tok _, ⟨_, rfl⟩, q⟩
theorem opI0 {f : Value → Value → Sem Value} {g : Int → Int → Int}
    (rule : ∀ (i j : Int) (t u : Tok) (s : Shared) (Q : Value → Shared → Prop) (E : Value → Shared → Prop), Q (.int (g i j) s.toks) { s with toks := s.toks + 1 } → wpAny (model X.prog X.w) X.A (f (.int i t) (.int j u)) Q E s) :
    OpR X f (rI0 fun i j => .int (g i j)) := by
  intro pins s σ H x y v u Q I rx ry h
  obtain ⟨i, j, rfl, rfl, q⟩ := h
  obtain ⟨t, rfl⟩ := rx
  obtain ⟨t', rfl⟩ := ry
  exact rule i j t t' s _ _ ⟨.int (g i j), H, I.tok _, ⟨_, rfl⟩, q⟩
theorem opB0 {f : Value → Value → Sem Value} {g : Int → Int → Bool}
    (rule : ∀ (i j : Int) (t u : Tok) (s : Shared) (Q : Value → Shared → Prop) (E : Value → Shared → Prop), Q (.bool (g i j)) s → wpAny (model X.prog X.w) X.A (f (.int i t) (.int j u)) Q E s) :
    OpR X f (rI0 fun i j => .bl (g i j)) := by
  intro pins s σ H x y v u Q I rx ry h
  obtain ⟨i, j, rfl, rfl, q⟩ := h
  obtain ⟨t, rfl⟩ := rx
  obtain ⟨t', rfl⟩ := ry
  exact rule i j t t' s _ _ ⟨.bl (g i j), H, I, rfl, q⟩
def CPow (i j : Int) : Prop := 0 ≤ j ∧ j ≤ 1000000 ∧ i.natAbs < 2 ^ 64
def CMul (i j : Int) : Prop := (-(2 ^ 64) < i ∧ i < 2 ^ 64) ∨ (-(2 ^ 64) < j ∧ j < 2 ^ 64)
theorem CMul.ok {i j : Int} (h : CMul i j) : IntMulOk i j := by
  rcases h with ⟨h1, h2⟩ | ⟨h1, h2⟩
  · exact .of_left (intBits_le_64 h1 h2)
  · exact .of_right (intBits_le_64 h1 h2)
theorem op_add : OpR X (binaryOp .Add) (rI0 fun i j => .int (i + j)) := opI0 fun _ _ _ _ _ _ _ q => add_int q
theorem op_sub : OpR X (binaryOp .Sub) (rI0 fun i j => .int (i - j)) := opI0 fun _ _ _ _ _ _ _ q => sub_int q
theorem op_mul : OpR X (binaryOp .Mult) (rI CMul fun i j => .int (i * j)) := opI fun _ _ _ _ _ _ _ hc q => mul_int q hc.ok
theorem op_mod : OpR X (binaryOp .Mod) (rI (fun _ j => 0 < j) fun i j => .int (i % j)) := opI fun i j _ _ _ _ _ hc q => by
  have h1 : (0 : Int) < j := hc
  exact mod_int' (by omega) (by rw [Int.fmod_eq_emod_of_nonneg i (by omega)]; exact q)
theorem op_pow : OpR X (binaryOp .Pow) (rI CPow fun i j => .int (i ^ j.toNat)) := opI fun _ _ _ _ _ _ _ hc q => pow_int_small hc.1 hc.2.1 hc.2.2 q
theorem unI {f : Value → Sem Value} {g : Int → Int}
    (rule : ∀ (i : Int) (t : Tok) (s : Shared) (Q : Value → Shared → Prop) (E : Value → Shared → Prop), Q (.int (g i) s.toks) { s with toks := s.toks + 1 } → wpAny (model X.prog X.w) X.A (f (.int i t)) Q E s) :
    UnR X f (rU fun i => .int (g i)) := by
  intro pins s σ H x v Q I rx h
  obtain ⟨i, rfl, q⟩ := h
  obtain ⟨t, rfl⟩ := rx
  exact rule i t s _ _ ⟨.int (g i), H, I.tok _, ⟨_, rfl⟩, q⟩
theorem un_neg : UnR X (unaryOp .USub) (rU fun i => .int (-i)) := unI fun _ _ _ _ _ q => neg_int q
end
def scal : V → V → Bool
  | .non, .non => true | .non, .int _ => true | .int _, .non => true | .non, .bl _ => true | .bl _, .non => true | .non, .str _ => true | .str _, .non => true
  | .int _, .int _ => true | .bl _, .bl _ => true | .str _, .str _ => true | .byt _, .byt _ => true
  | .int _, .str _ => true | .str _, .int _ => true | .bl _, .str _ => true | .str _, .bl _ => true
  | _, _ => false
def rEq : R2 := fun x y H Q => scal x y = true ∧ Q (.bl (decide (x = y))) H
def rNe : R2 := fun x y H Q => scal x y = true ∧ Q (.bl (!decide (x = y))) H
theorem dec_int {i j : Int} : decide (V.int i = V.int j) = (i == j) := by
  rw [Bool.eq_iff_iff]
  simp
theorem dec_bl {i j : Bool} : decide (V.bl i = V.bl j) = (i == j) := by
  rw [Bool.eq_iff_iff]
  simp
theorem dec_str {i j : Str} : decide (V.str i = V.str j) = (i == j) := by
  rw [Bool.eq_iff_iff]
  simp
theorem dec_byt {i j : Array UInt8} : decide (V.byt i = V.byt j) = (i.toList == j.toList) := by
  rw [Bool.eq_iff_iff]
  cases i
  cases j
  simp
section
variable {X : Cx} {a b c : Expr} {ta tb tc : TE} {pos : Pos}
theorem fin_bl {pins : List (Addr × Obj)} {σ : St} {H : Hp} {s : Shared} {Q : VK} {k k' : Bool} (I : Inv X pins σ H s) (q : Q (.bl k) H) (e : k = k') : EP X pins σ Q (.bool k') s := by
  subst e
  exact ⟨.bl k, H, I, rfl, q⟩
theorem op_eq : OpR X (compareOp .Eq) rEq := by
  intro pins s σ H x y v u Q I rx ry h
  obtain ⟨hs, q⟩ := h
  cases x with
  | non =>
    cases rx
    cases y with
    | non => cases ry; exact PySem.EqNone.eq_none_none (fin_bl I q (by simp))
    | bl j => cases ry; exact PySem.EqNone.eq_none_bool (fin_bl I q (by simp))
    | int j => obtain ⟨t', rfl⟩ := ry; exact PySem.EqNone.eq_none_int (fin_bl I q (by simp))
    | str j => obtain ⟨t', rfl⟩ := ry; exact PySem.EqNone.eq_none_str (fin_bl I q (by simp))
    | _ => exact absurd (show false = true from hs) Bool.false_ne_true
  | bl i =>
    cases rx
    cases y with
    | non => cases ry; exact PySem.EqNone.eq_bool_none (fin_bl I q (by simp))
    | bl j => cases ry; exact eq_bool (fin_bl I q dec_bl)
    | str j => obtain ⟨t', rfl⟩ := ry; exact PySem.EqMixed.eq_bool_str (fin_bl I q (by simp))
    | _ => exact absurd (show false = true from hs) Bool.false_ne_true
  | int i =>
    obtain ⟨t, rfl⟩ := rx
    cases y with
    | non => cases ry; exact PySem.EqNone.eq_int_none (fin_bl I q (by simp))
    | int j => obtain ⟨t', rfl⟩ := ry; exact eq_int (fin_bl I q dec_int)
    | str j => obtain ⟨t', rfl⟩ := ry; exact PySem.EqMixed.eq_int_str (fin_bl I q (by simp))
    | _ => exact absurd (show false = true from hs) Bool.false_ne_true
  | str i =>
    obtain ⟨t, rfl⟩ := rx
    cases y with
    | non => cases ry; exact PySem.EqNone.eq_str_none (fin_bl I q (by simp))
    | bl j => cases ry; exact PySem.EqMixed.eq_str_bool (fin_bl I q (by simp))
    | int j => obtain ⟨t', rfl⟩ := ry; exact PySem.EqMixed.eq_str_int (fin_bl I q (by simp))
    | str j => obtain ⟨t', rfl⟩ := ry; exact eq_str (fin_bl I q dec_str)
    | _ => exact absurd (show false = true from hs) Bool.false_ne_true
  | byt i =>
    obtain ⟨t, rfl⟩ := rx
    cases y with
    | byt j => obtain ⟨t', rfl⟩ := ry; exact PySem.W.eq_bytes (fin_bl I q dec_byt)
    | _ => exact absurd (show false = true from hs) Bool.false_ne_true
  | _ => cases y <;> exact absurd (show false = true from hs) Bool.false_ne_true
theorem op_ne : OpR X (compareOp .NotEq) rNe := by
  intro pins s σ H x y v u Q I rx ry h
  obtain ⟨hs, q⟩ := h
  cases x with
  | non =>
    cases rx
    cases y with
    | non => cases ry; exact PySem.EqNone.ne_none_none (fin_bl I q (by simp))
    | bl j => cases ry; exact PySem.EqNone.ne_none_bool (fin_bl I q (by simp))
    | int j => obtain ⟨t', rfl⟩ := ry; exact PySem.EqNone.ne_none_int (fin_bl I q (by simp))
    | str j => obtain ⟨t', rfl⟩ := ry; exact PySem.EqNone.ne_none_str (fin_bl I q (by simp))
    | _ => exact absurd (show false = true from hs) Bool.false_ne_true
  | bl i =>
    cases rx
    cases y with
    | non => cases ry; exact PySem.EqNone.ne_bool_none (fin_bl I q (by simp))
    | bl j => cases ry; exact ne_bool (fin_bl I q (congrArg not dec_bl))
    | str j => obtain ⟨t', rfl⟩ := ry; exact PySem.EqMixed.ne_bool_str (fin_bl I q (by simp))
    | _ => exact absurd (show false = true from hs) Bool.false_ne_true
  | int i =>
    obtain ⟨t, rfl⟩ := rx
    cases y with
    | non => cases ry; exact PySem.EqNone.ne_int_none (fin_bl I q (by simp))
    | int j => obtain ⟨t', rfl⟩ := ry; exact ne_int (fin_bl I q (congrArg not dec_int))
    | str j => obtain ⟨t', rfl⟩ := ry; exact PySem.EqMixed.ne_int_str (fin_bl I q (by simp))
    | _ => exact absurd (show false = true from hs) Bool.false_ne_true
  | str i =>
    obtain ⟨t, rfl⟩ := rx
    cases y with
    | non => cases ry; exact PySem.EqNone.ne_str_none (fin_bl I q (by simp))
    | bl j => cases ry; exact PySem.EqMixed.ne_str_bool (fin_bl I q (by simp))
    | int j => obtain ⟨t', rfl⟩ := ry; exact PySem.EqMixed.ne_str_int (fin_bl I q (by simp))
    | str j => obtain ⟨t', rfl⟩ := ry; exact ne_str (fin_bl I q (congrArg not dec_str))
    | _ => exact absurd (show false = true from hs) Bool.false_ne_true
  | byt i =>
    obtain ⟨t, rfl⟩ := rx
    cases y with
    | byt j => obtain ⟨t', rfl⟩ := ry; exact PySem.W.ne_bytes (fin_bl I q (congrArg not dec_byt))
    | _ => exact absurd (show false = true from hs) Bool.false_ne_true
  | _ => cases y <;> exact absurd (show false = true from hs) Bool.false_ne_true
theorem op_lt : OpR X (compareOp .Lt) (rI0 fun i j => .bl (decide (i < j))) := opB0 fun _ _ _ _ _ _ _ q => lt_int q
theorem op_gt : OpR X (compareOp .Gt) (rI0 fun i j => .bl (decide (j < i))) := opB0 fun _ _ _ _ _ _ _ q => gt_int q
theorem op_lt_str : OpR X (compareOp .Lt) (fun x y H Q => ∃ i j, x = .str i ∧ y = .str j ∧ Q (.bl (decide (i.cps.toList < j.cps.toList))) H) := by
  intro pins s σ H x y v u Q I rx ry h
  obtain ⟨i, j, rfl, rfl, q⟩ := h
  obtain ⟨t, rfl⟩ := rx
  obtain ⟨t', rfl⟩ := ry
  exact lt_str (fin_bl I q rfl)
theorem nomark (b : Expr) {op : CmpOp} (h : op ≠ .In := by decide) (h2 : op ≠ .NotIn := by decide) : behindInMarks op b = false := by
  have e1 : (op == CmpOp.In) = false := by cases op <;> first | rfl | exact absurd rfl h
  have e2 : (op == CmpOp.NotIn) = false := by cases op <;> first | rfl | exact absurd rfl h2
  cases b <;> simp [behindInMarks, e1, e2]
theorem pe_cmpR {op : CmpOp} {r : R2} (ho : OpR X (compareOp op) r) (ha : PE X a ta) (hb : PE X b tb) (hm : behindInMarks op b = false) : PE X (.Compare a [op] [b] pos) (tOp r ta tb) := by
  intro pins s σ H Q I h
  exact wpAny_Compare1 (binT ha hb I h fun v u s2 x y H2 I2 rx ry q => ho pins s2 σ H2 x y v u Q I2 rx ry q) hm
def tTest (t : TE) : TT := fun σ H Q => t σ H fun x H' => ∃ k, x = .bl k ∧ Q k H'
theorem pt_cmpR {op : CmpOp} {r : R2} (ho : OpR X (compareOp op) r) (ha : PE X a ta) (hb : PE X b tb) (hm : behindInMarks op b = false) : PT X (.Compare a [op] [b] pos) (tTest (tOp r ta tb)) := by
  intro pins s σ H Q I h
  refine wpAny_isTrue_Compare1 (thn (ha pins s σ H _ I h) fun v s1 ⟨x, H1, I1, r1, q1⟩ => thn (hb pins s1 σ H1 _ I1 q1) fun u s2 ⟨y, H2, I2, r2, q2⟩ =>
    thn (ho pins s2 σ H2 x y v u _ I2 r1 r2 q2) fun c s3 ⟨z, H3, I3, r3, k, e, q3⟩ => ?_) hm
  subst e
  cases r3
  exact wpAny_truthy_bool ⟨H3, I3, q3⟩
theorem line63 : (sizeLine : Nat) < 2 ^ 63 := by rw [sizeLine_eq]; decide
theorem op_add_str : OpR X (binaryOp .Add) (fun x y H Q => ∃ i j, x = .str i ∧ y = .str j ∧ i.length + j.length ≤ sizeLine ∧ Q (.str (i ++ j)) H) := by
  intro pins s σ H x y v u Q I rx ry h
  obtain ⟨i, j, rfl, rfl, hz, q⟩ := h
  obtain ⟨t, rfl⟩ := rx
  obtain ⟨t', rfl⟩ := ry
  exact add_str (fun t' tk => ⟨.str (i ++ j), H, I.tok _, ⟨_, rfl⟩, q⟩) hz
theorem vals1 {x : V} {us : List Value} (r : Vals [x] us) : ∃ u, us = [u] ∧ RelV x u := by
  cases r with
  | cons r1 r2 => cases r2; exact ⟨_, rfl, r1⟩
theorem vals2 {x y : V} {us : List Value} (r : Vals [x, y] us) : ∃ u w', us = [u, w'] ∧ RelV x u ∧ RelV y w' := by
  cases r with
  | cons r1 r2 =>
    cases r2 with
    | cons r3 r4 => cases r4; exact ⟨_, _, rfl, r1, r3⟩
def LenV (K : PySem.W.Frag) (x : V) (H : Hp) (n : Nat) : Prop :=
  match x with
  | .str y => y.length ≤ sizeLine ∧ n = y.length
  | .byt y => y.size ≤ sizeLine ∧ n = y.size
  | .ref p => (∃ xs, SqL K H p xs ∧ n = xs.length) ∨ ∃ xs, SqT K H p xs ∧ n = xs.length
  | _ => False
theorem call_len : CallR X (.builtin "len") (fun xs H Q => ∃ x n, xs = [x] ∧ LenV X.K x H n ∧ Q (.int n) H) := by
  intro pins s σ H xs us Q I r h
  obtain ⟨x, n, rfl, e, q⟩ := h
  obtain ⟨u, rfl, rx⟩ := vals1 r
  have hl := line63
  have hs : sizeLine = 16777216 := sizeLine_eq
  cases x with
  | str y =>
    obtain ⟨t, rfl⟩ := rx
    obtain ⟨hy, e'⟩ : y.length ≤ sizeLine ∧ n = y.length := e
    subst e'
    exact len_str (by omega) ⟨.int _, H, I.tok _, ⟨_, rfl⟩, q⟩
  | byt y =>
    obtain ⟨t, rfl⟩ := rx
    obtain ⟨hy, e'⟩ : y.size ≤ sizeLine ∧ n = y.size := e
    subst e'
    exact PySem.W.len_bytes (by omega) ⟨.int _, H, I.tok _, ⟨_, rfl⟩, q⟩
  | ref p =>
    cases rx
    have e' : (∃ xs, SqL X.K H p xs ∧ n = xs.length) ∨ ∃ xs, SqT X.K H p xs ∧ n = xs.length := e
    rcases e' with ⟨xs, hx, e'⟩ | ⟨xs, hx, e'⟩
    · subst e'
      obtain ⟨its, r', pl, hz⟩ := I.list hx
      have hlen := r'.length
      exact Calls.call_len_list pl.isList (by simp only [List.size_toArray]; omega) ⟨.int xs.length, H, I.tok _, ⟨_, by simp only [List.size_toArray]; rw [hlen]⟩, q⟩
    · subst e'
      obtain ⟨its, r', pl, hz⟩ := I.tuple hx
      have hlen := r'.length
      exact len_tuple pl (by simp only [List.size_toArray]; omega) ⟨.int xs.length, H, I.tok _, ⟨_, by simp only [List.size_toArray]; rw [hlen]⟩, q⟩
  | _ => exact (show False from e).elim
end
end L2
namespace L2
open PySem PySem.Spec PyProof.Rows
structure ObjM (h : Heap) (x dx C : Addr) (mA : Str → Option Value) : Prop where
  obj : h.get? x = some (PySem.W.instObj C dx)
  ns : h.Ns1 dx mA
  ne : dx ≠ x
theorem lookIn_ns {h : Heap} {dx : Addr} {mA : Str → Option Value} (n : h.Ns1 dx mA) : ∃ od, h.get? dx = some od ∧ ∀ name, PySem.W.lookIn name od = some (mA name) := by
  obtain ⟨o, es, ep, ho, hd, hk, _, hm⟩ := n
  refine ⟨o, ho, fun name => ?_⟩
  have e := hm name
  unfold nsFind findBy at e
  rw [← Array.find?_toList] at e
  unfold PySem.W.lookIn
  rw [hd]
  dsimp only
  split
  · rename_i y q
    rw [q] at e
    exact congrArg some e
  · rename_i q
    rw [q] at e
    have a : es.toList.any (·.refKey) = false := by
      rw [List.any_eq_false]
      intro y hy
      obtain ⟨z, t, hkey⟩ := hk y (Array.mem_toList_iff.mp hy)
      simp [DictEntry.refKey, hkey]
    have a' : ¬ es.toList.any (·.refKey) = true := by rw [a]; exact Bool.false_ne_true
    rw [if_neg a']
    exact congrArg some e
theorem ObjM.look {h : Heap} {x dx C : Addr} {mA : Str → Option Value} (I : ObjM h x dx C mA) : ∃ od, PySem.W.InstAt h x (PySem.W.instObj C dx) C (some od) ∧ ∀ name, PySem.W.lookIn name od = some (mA name) :=
  let ⟨od, ho, hl⟩ := lookIn_ns I.ns
  ⟨od, ⟨I.obj, rfl, rfl, ho⟩, hl⟩
section
variable {prog : Program} {w : World} {A : Around} {E : Value → Shared → Prop} {s : Shared} {K : PySem.W.Frag} {x dx C f : Addr} {mA : Str → Option Value} {name : Str} {v : Value}
end
theorem RelO.some_of {v : V} {o : Option Value} (r : RelO (some v) o) : ∃ u, o = some u ∧ RelV v u := by
  cases o with
  | none => exact (show False from r).elim
  | some u => exact ⟨u, rfl, r⟩
section
variable {P : Program} {w : World} {H H' : Hp} {h h' : Heap} {a C dx : Addr} {fs fs' : List (Str × V)}
theorem ins_get (hok : HOk P w H h) (e : H a = some (.ins C dx fs)) : ∃ mA, ObjM h a dx C mA ∧ (∀ f, RelO (fs.lookup f) (mA f)) ∧ PySem.Within mA (fs.map (·.1)) ∧ fs.length ≤ 1000 ∧ H dx = some (.own a) := by
  obtain ⟨d, z, ne, ob, mA, n, r, q⟩ := (show ObjOk P w H h a (.ins C dx fs) from hok a _ e)
  exact ⟨mA, ⟨ob, n, ne⟩, r, q, z, d⟩
end
structure Cls (K : PySem.W.Frag) (C : Addr) : Prop where
  pg : PySem.W.plainGet K C Str.empty = true
  hd : PySem.W.hasDictIn K C = true
  po : PySem.W.plainOver K C = true
  sa : PySem.W.findIn K (.ref C) "__setattr__" = some (some (.builtin "object.__setattr__"))
theorem Cls.get {K : PySem.W.Frag} {C : Addr} (c : Cls K C) (f : Str) : PySem.W.plainGet K C f = true := c.pg
structure Con (K : PySem.W.Frag) (C : Addr) (f : Str) (v : V) (u : Value) : Prop where
  at_ : PySem.W.findIn K (.ref C) f = some (some u)
  rel : RelV v u
  get : PySem.W.specialIn K u "__get__" = some none
  cp : PySem.W.copiedNames.contains f = false
structure Meth (K : PySem.W.Frag) (C : Addr) (m : Str) (f : Addr) : Prop where
  at_ : PySem.W.findIn K (.ref C) m = some (some (.ref f))
  fn : PySem.W.isFn K (.ref f) = true
  kp : PySem.W.keepIn K (.ref f) = true
section
variable {X : Cx} {pins : List (Addr × Obj)} {σ : St} {H : Hp} {s : Shared} {a C dx : Addr} {fs : List (Str × V)} {f : Str} {v : V} {A : Around} {E : Value → Shared → Prop}
end
section
variable {X : Cx} {o e value : Expr} {f : Str} {pos pos' tpos : Pos} {ta tv : TE}
end
section
variable {X : Cx} {pins : List (Addr × Obj)} {σ : St} {H : Hp} {s : Shared} {A : Around} {E : Value → Shared → Prop} {Q : Value → Shared → Prop} {c : Value} {b : Bool}
inductive TyOf (K : PySem.W.Frag) (H : Hp) : V → Value → Prop where
  | non : TyOf K H .non (.type "NoneType")
  | bl (x : Bool) : TyOf K H (.bl x) (.type "bool")
  | int (i : Int) : TyOf K H (.int i) (.type "int")
  | str (x : Str) : TyOf K H (.str x) (.type "str")
  | flt (x : UInt64) : TyOf K H (.flt x) (.type "float")
  | lst {a : Addr} {xs : List V} (e : H a = some (.lst xs)) : TyOf K H (.ref a) (.type "list")
  | frz {a : Addr} {o : Obj} {xs : List V} (e : H a = some (.frz o (.lst xs))) : TyOf K H (.ref a) (.type "list")
  | tup {a : Addr} {xs : List V} (e : H a = some (.tup xs)) : TyOf K H (.ref a) (.type "tuple")
  | dK {a : Addr} {kvs : List (Key × V)} (e : H a = some (.dK kvs)) : TyOf K H (.ref a) (.type "dict")
  | dT {a : Addr} {kvs : List (List Key × V)} (e : H a = some (.dT kvs)) : TyOf K H (.ref a) (.type "dict")
  | ins {a C dx : Addr} {fs : List (Str × V)} (e : H a = some (.ins C dx fs)) (cl : Cls K C) (ha : PySem.W.findIn K (.ref C) "__class__" = some (some (.builtin "object.__class__")))
      (hn : PySem.W.specialIn K (.builtin "object.__class__") "__get__" = some (some (.builtin "getset_descriptor.__get__"))) (htk : PySem.W.takesIn K (.builtin "object.__class__") = some true)
      (hm : PySem.W.mroIn K C (.type "object") = some true) : TyOf K H (.ref a) (.ref C)
theorem isinst_ok {x : V} {u t : Value} (I : Inv X pins σ H s) (rx : RelV x u) (ty : TyOf X.K H x t) (e : PySem.W.kitOne X.K t c = some b) (h : ∀ tk, Q (.bool b) { s with toks := tk }) :
    wpAny (model X.prog X.w) A (call (.builtin "isinstance") [u, c]) Q E s := by
  cases ty with
  | non => cases (show u = Value.none from rx); exact PySem.W.kia_one PySem.W.kitx_none I.kIn True.intro e (fun z => nomatch z) h
  | bl y => cases (show u = Value.bool y from rx); exact PySem.W.kia_one PySem.W.kitx_bool I.kIn True.intro e (fun z => nomatch z) h
  | int i => obtain ⟨t, q⟩ := (show ∃ t, u = Value.int i t from rx); cases q; exact PySem.W.kia_one PySem.W.kitx_int I.kIn True.intro e (fun z => nomatch z) h
  | str y => obtain ⟨t, q⟩ := (show ∃ t, u = Value.str y t from rx); cases q; exact PySem.W.kia_one PySem.W.kitx_str I.kIn True.intro e (fun z => nomatch z) h
  | flt y => obtain ⟨t, q⟩ := (show ∃ t, u = Value.float y t from rx); cases q; exact PySem.W.kia_one PySem.W.kitx_float I.kIn True.intro e (fun z => nomatch z) h
  | @lst a xs ea =>
    cases (show u = Value.ref a from rx)
    obtain ⟨_, _, n, _, h1⟩ := (show ObjOk X.prog X.w H s.heap a (.lst xs) from I.hok a _ ea)
    exact PySem.W.kia_one PySem.W.kitx_list I.kIn ⟨_, h1, rfl⟩ e (fun z => nomatch z) h
  | @frz a ob xs ea =>
    cases (show u = Value.ref a from rx)
    obtain ⟨_, _, _, n, _, h1⟩ := (show ObjOk X.prog X.w H s.heap a (.frz ob (.lst xs)) from I.hok a _ ea)
    exact PySem.W.kia_one PySem.W.kitx_list I.kIn ⟨_, h1, rfl⟩ e (fun z => nomatch z) h
  | @tup a xs ea =>
    cases (show u = Value.ref a from rx)
    obtain ⟨_, _, _, p⟩ := (show ObjOk X.prog X.w H s.heap a (.tup xs) from I.hok a _ ea)
    obtain ⟨o, h1, h2, _⟩ := p
    exact PySem.W.kia_one PySem.W.kitx_tuple I.kIn ⟨o, h1, h2⟩ e (fun z => nomatch z) h
  | @dK a kvs ea =>
    cases (show u = Value.ref a from rx)
    obtain ⟨_, _, vs, _, p⟩ := (show ObjOk X.prog X.w H s.heap a (.dK kvs) from I.hok a _ ea)
    obtain ⟨o, es, ep, h1, h2, _⟩ := p
    exact PySem.W.kia_one PySem.W.kitx_dict I.kIn ⟨o, h1, h2.1⟩ e (fun z => nomatch z) h
  | @dT a kvs ea =>
    cases (show u = Value.ref a from rx)
    obtain ⟨_, _, xs, _, o, es, ep, h1, h2, _⟩ := (show ObjOk X.prog X.w H s.heap a (.dT kvs) from I.hok a _ ea)
    exact PySem.W.kia_one PySem.W.kitx_dict I.kIn ⟨o, h1, h2.1⟩ e (fun z => nomatch z) h
  | @ins a C dx fs ea cl ha hn htk hm =>
    cases (show u = Value.ref a from rx)
    obtain ⟨mA, O, _⟩ := ins_get I.hok ea
    obtain ⟨od, J, _⟩ := O.look
    exact PySem.W.kia_one (PySem.W.kitx_own (cl.get _) cl.hd ha hn htk hm) I.kIn J e (fun z => nomatch z) h
end
end L2
namespace L2
open PySem PySem.Spec PyProof.Rows
structure Room (k : Nat) (A : Around) : Prop where
  hd : A.handled = none
  dp : A.depth + 3 * k + 5 < recursionLimit
  un : A.units + 16 * k + 200 < cLine
theorem Room.mono {j k : Nat} {A : Around} (r : Room k A) (h : j ≤ k) : Room j A := ⟨r.hd, by have := r.dp; omega, by have := r.un; omega⟩
theorem Room.deeper {k : Nat} {A : Around} (r : Room (k + 1) A) (env : Env) : Room k (A.deeper env) :=
  ⟨r.hd, by have := r.dp; show A.depth + 1 + 3 * k + 5 < _; omega, by have := r.un; show A.units + 3 + 16 * k + 200 < _; omega⟩
theorem Room.in1 {k : Nat} {A : Around} (r : Room (k + 1) A) : Room k A.in1 :=
  ⟨r.hd, by have := r.dp; show A.depth + 3 * k + 5 < _; omega, by have := r.un; show A.units + 1 + 16 * k + 200 < _; omega⟩
theorem Room.depth {k : Nat} {A : Around} (r : Room k A) : A.depth < recursionLimit := by have := r.dp; omega
theorem Room.units {k : Nat} {A : Around} (r : Room k A) : A.units + 64 < cLine := by have := r.un; omega
def tNil : TA := fun _ H Q => Q [] H
def tCons (ta : TE) (tr : TA) : TA := fun σ H Q => ta σ H fun x H1 => tr σ H1 fun xs H2 => Q (x :: xs) H2
section
variable {X : Cx} {e : Expr} {es : List Expr} {te : TE} {t : TA} {pos : Pos}
theorem pa_nil : PA X [] tNil := fun _ _ _ _ H Q I h => Calls.spliced_nil ⟨[], H, I, .nil, h⟩
theorem pa_cons (ha : PE X e te) (hr : PA X es t) (hs : starEach (e :: es) X.env = (false, eval e X.env) :: starEach es X.env := by rfl) : PA X (e :: es) (tCons te t) := by
  intro pos pins s σ H Q I h
  rw [hs]
  show wpAny _ _ (spliced ((false, eval e X.env) :: backTo pos (starEach es X.env))) _ _ s
  refine Calls.spliced_cons (thn (ha pins s σ H _ I h) fun u s1 ⟨x, H1, I1, r1, q1⟩ => ?_)
  exact thn (hr pos pins s1 σ H1 _ I1 q1) fun us s2 ⟨xs, H2, I2, r2, q2⟩ => ⟨x :: xs, H2, I2, .cons r1 r2, q2⟩
def tTup (t : TA) : TE := fun σ H Q => t σ H fun xs H1 => xs.length ≤ sizeLine ∧ ∀ p, H1 p = none → Q (.ref p) (upd H1 p (.tup xs))
def tLst (t : TA) : TE := fun σ H Q => t σ H fun xs H1 => xs.length ≤ sizeLine ∧ ∀ p, H1 p = none → Q (.ref p) (upd H1 p (.lst xs))
theorem pe_tup {x1} (h : PA X es t) : PE X (.Tuple es x1 pos) (tTup t) := by
  intro pins s σ H Q I hq
  refine wpAny_Tuple_spliced (thn (h pos pins s σ H _ I hq) fun us s1 ⟨xs, H1, I1, r, z, q⟩ => ⟨by rw [← r.length]; exact z, ?_⟩)
  have hf : H1 s1.heap.objs.size = none := I1.hok.fresh (Nat.le_refl _)
  refine ⟨.ref s1.heap.objs.size, upd H1 s1.heap.objs.size (.tup xs), I1.laid (t' := s1.toks) (fun b u e => Heap.get?_push_of_some _ e) (Nat.le_refl _) ?_, rfl, q _ hf⟩
  exact ⟨z, us, r, ⟨_, Heap.get?_push_size _ rfl, rfl, _, rfl⟩⟩
theorem pe_lst (h : PA X es t) : PE X (.List es pos) (tLst t) := by
  intro pins s σ H Q I hq
  refine wpAny_List_spliced (thn (h pos pins s σ H _ I hq) fun us s1 ⟨xs, H1, I1, r, z, q⟩ => ⟨by rw [← r.length]; exact z, ?_⟩)
  have hf : H1 s1.heap.objs.size = none := I1.hok.fresh (Nat.le_refl _)
  refine ⟨.ref s1.heap.objs.size, upd H1 s1.heap.objs.size (.lst xs), I1.laid (t' := s1.toks) (fun b u e => Heap.get?_push_of_some _ e) (Nat.le_refl _) ?_, rfl, q _ hf⟩
  exact ⟨z, us, 0, r, Heap.get?_push_size _ rfl⟩
end
abbrev Sp := List V → Hp → VK → XK → Prop
abbrev CXT := List Env → Hp → Shared → XK → Value → Shared → Prop
structure Env0 (P : Program) (w : World) (K : PySem.W.Frag) (mg : Str → Option Value) (base : Heap) (A : Around) (outer : List Env) (s : Shared) (H : Hp) : Prop where
  frames : A.frames = some outer
  mod : Mod K mg base
  bs : ∀ b o, base.get? b = some o → s.heap.get? b = some o ∧ H b = none
  bsz : base.objs.size ≤ s.heap.objs.size
  funs : s.heap.FunFrames base outer
  frf : ∀ b ∈ frs outer, H b = none
  hok : HOk P w H s.heap
  bare : AllBare s.gens
def CE (outer : List Env) (P : Program) (w : World) (H : Hp) (s : Shared) (Q : VK) (u : Value) (s' : Shared) : Prop :=
  ∃ v H', s'.os = s.os ∧ AllBare s'.gens ∧ Un (frs outer) [] H H' s.heap s'.heap ∧ HOk P w H' s'.heap ∧ RelV v u ∧ Q v H'
def CR (CX : CXT) (outer : List Env) (P : Program) (w : World) (H : Hp) (s : Shared) (Q : VK) (E : XK) (r : Result) (s' : Shared) : Prop :=
  match r with
  | .ok (.ret u) => CE outer P w H s Q u s'
  | .ok _ => False
  | .error e => CX outer H s E e s'
structure FnOk (P : Program) (w : World) (K : PySem.W.Frag) (mg : Str → Option Value) (base : Heap) (CX : CXT) (k : Nat) (f : Addr) (fd : FuncData) (ps : List Str) (sp : Sp) : Prop where
  len : ∀ vs H Q E, sp vs H Q E → vs.length = ps.length
  run : ∀ (A : Around) (outer : List Env) (s : Shared) (H : Hp) (args : Args) (us : List Value) (vs : List V) (Q : VK) (E : XK), Room k A → Env0 P w K mg base A outer s H → BindsTo s fd args (ps.zip us) → Vals vs us → sp vs H Q E →
    codeAny (model P w) A (.call (.ref f) args) (CR CX outer P w H s Q E) s
theorem FnOk.mono {P : Program} {w : World} {K : PySem.W.Frag} {mg : Str → Option Value} {base : Heap} {CX : CXT} {j k : Nat} {f : Addr} {fd : FuncData} {ps : List Str} {sp : Sp} (F : FnOk P w K mg base CX j f fd ps sp) (h : j ≤ k) :
    FnOk P w K mg base CX k f fd ps sp := ⟨F.len, fun A outer s H args us vs Q E hr => F.run A outer s H args us vs Q E (hr.mono h)⟩
theorem FnOk.imp {P : Program} {w : World} {K : PySem.W.Frag} {mg : Str → Option Value} {base : Heap} {CX : CXT} {k : Nat} {f : Addr} {fd : FuncData} {ps : List Str} {sp sp' : Sp} (F : FnOk P w K mg base CX k f fd ps sp)
    (h : ∀ vs H Q E, sp' vs H Q E → sp vs H Q E) : FnOk P w K mg base CX k f fd ps sp' :=
  ⟨fun vs H Q E q => F.len vs H Q E (h _ _ _ _ q), fun A outer s H args us vs Q E hr he hb hv hs => F.run A outer s H args us vs Q E hr he hb hv (h _ _ _ _ hs)⟩
theorem Env0.in1 {P : Program} {w : World} {K : PySem.W.Frag} {mg : Str → Option Value} {base : Heap} {A : Around} {outer : List Env} {s : Shared} {H : Hp} (e : Env0 P w K mg base A outer s H) :
    Env0 P w K mg base A.in1 outer s H := ⟨e.frames, e.mod, e.bs, e.bsz, e.funs, e.frf, e.hok, e.bare⟩
section
variable {X : Cx} {pins : List (Addr × Obj)} {σ : St} {H : Hp} {s s' : Shared}
theorem Inv.env0 (I : Inv X pins σ H s) : Env0 X.prog X.w X.K X.mg X.base X.A X.stack s H :=
  ⟨I.ok.frames, I.ok.mod, I.bs, Nat.le_trans I.ok.bsz I.sz, I.stack, I.stkFree, I.hok, I.bare⟩
theorem Inv.after {Q : VK} {u : Value} (I : Inv X pins σ H s) (h : CE X.stack X.prog X.w H s Q u s') : EP X pins σ Q u s' := by
  obtain ⟨v, H', os, bare, un, hok, r, q⟩ := h
  obtain ⟨hh, g, d, t, os'⟩ := s'
  obtain rfl : os' = s.os := os
  exact ⟨v, H', I.call (h' := hh) (g' := g) (d' := d) (t' := t) (ch := []) un hok bare (fun b z => absurd z (by simp)), r, q⟩
end
def tCall (sp : Sp) (dvs : List V) (E : XK) (t : TA) : TE := fun σ H Q => t σ H fun vs H1 => sp (vs ++ dvs) H1 Q E
def Binds (K : PySem.W.Frag) (fd : FuncData) (ps : List Str) (ds : List Value) : Prop :=
  ∀ (s : Shared) (us : List Value), K.In s.heap → (us ++ ds).length = ps.length → BindsTo s fd ⟨us, []⟩ (ps.zip (us ++ ds))
theorem Binds.all {K : PySem.W.Frag} {fd : FuncData} {ps : List Str} (h : ∀ us : List Value, us.length = ps.length → bindArgs fd ⟨us, []⟩ = pure (ps.zip us)) : Binds K fd ps [] := fun s us _ hl => by
  rw [List.append_nil] at hl ⊢
  exact .of_eq (h us hl)
def Passes (CX : CXT) (X : Cx) (E : XK) : Prop := ∀ (pins : List (Addr × Obj)) (σ : St) (H : Hp) (s : Shared) (e : Value) (s' : Shared), Inv X pins σ H s → CX X.stack H s E e s' → X.xe e s'
section
variable {X : Cx} {CX : CXT} {k : Nat} {f C : Addr} {fd : FuncData} {ps : List Str} {sp : Sp} {dvs : List V} {ds : List Value} {E : XK} {x m : Str} {p pos apos : Pos} {e o : Expr} {es : List Expr} {ta : TE} {t : TA}
theorem run_fn {pins : List (Addr × Obj)} {σ : St} {H : Hp} {s : Shared} {Q : VK} {us : List Value} {vs : List V} (F : FnOk X.prog X.w X.K X.mg X.base CX k f fd ps sp) (hr : Room k X.A) (hb : Binds X.K fd ps ds) (hd : Vals dvs ds) (hx : Passes CX X E)
    (I : Inv X pins σ H s) (r : Vals vs us) (h : sp (vs ++ dvs) H Q E) : wpAny (model X.prog X.w) X.A (call (.ref f) us) (EP X pins σ Q) X.xe s := by
  have r2 : Vals (vs ++ dvs) (us ++ ds) := r.append hd
  have hl : (us ++ ds).length = ps.length := by rw [← r2.length]; exact F.len _ _ _ _ h
  refine wpAny_call (codeAny_mono (F.run X.A X.stack s H ⟨us, []⟩ (us ++ ds) (vs ++ dvs) Q E hr I.env0 (hb s us I.kIn hl) r2 h) fun r s' hq => ?_)
  cases r with
  | error e => exact hx pins σ H s e s' I hq
  | ok fl =>
    cases fl with
    | ret u => exact I.after hq
    | next => exact False.elim hq
    | brk => exact False.elim hq
    | cont => exact False.elim hq
theorem pe_call (F : FnOk X.prog X.w X.K X.mg X.base CX k f fd ps sp) (hr : Room k X.A) (hg : Gl X x) (hm : X.mg x = some (.ref f)) (hk : PySem.W.keepIn X.K (.ref f) = true) (hb : Binds X.K fd ps ds) (hd : Vals dvs ds) (hx : Passes CX X E)
    (ha : PA X (e :: es) t) (hdb : (x == ("__debug__" : Str)) = false := by decide) (he : starEach (e :: es) X.env = (false, eval e X.env) :: starEach es X.env := by rfl) (hpl : (backTo pos (starEach es X.env)).any (·.1) = false := by rfl) :
    PE X (.Call (.Name x p) (e :: es) [] pos) (tCall sp dvs E t) := by
  intro pins s σ H Q I h
  refine wpAny_Call_Name_kw (ld_glob I hg hm ?_ hdb)
  refine PySem.W.callWith_K (h₀ := X.base) I.ok.mod.kin hk (thn (ha pos pins s σ H _ I h) fun us s1 ⟨vs, H1, I1, r, q⟩ => ⟨I1.kIn, ?_⟩) he hpl
  exact run_fn F hr hb hd hx I1 r q
structure Mk (K : PySem.W.Frag) (C f : Addr) : Prop where
  makes : PySem.W.makesIn K C = true
  init : PySem.W.findIn K (.ref C) "__init__" = some (some (.ref f))
  fn : PySem.W.isFn K (.ref f) = true
  kp : PySem.W.keepIn K (.ref C) = true
end
section
variable {X : Cx} {CX : CXT} {k : Nat} {f C : Addr} {fd : FuncData} {ps ks : List Str} {sp : Sp} {E : XK} {x m : Str} {p pos apos kpos : Pos} {e o : Expr} {es : List Expr} {kws : List Keyword} {te ta : TE} {t tk : TA} {nm : Option Str}
structure KBinds (K : PySem.W.Frag) (fd : FuncData) (ps ks : List Str) (g : List Value → List Value → List Value) (gV : List V → List V → List V) : Prop where
  to : ∀ (s : Shared) (us ws : List Value), K.In s.heap → (g us ws).length = ps.length → BindsTo s fd ⟨us, ks.zip ws⟩ (ps.zip (g us ws))
  rel : ∀ {vs : List V} {us : List Value} {zs : List V} {ws : List Value}, Vals vs us → Vals zs ws → Vals (gV vs zs) (g us ws)
variable {g : List Value → List Value → List Value} {gV : List V → List V → List V}
end
structure FnScope (N P : List Str) (sc : Scope) : Prop where
  kind : sc.kind = .function
  co : sc.isCoroutine = false
  gen : sc.isGenerator = false
  nd : N.Nodup
  pre : N.take P.length = P
  par : ∀ x ∈ P, sc.names.lookup x = some .local ∨ sc.names.lookup x = some .cell
  nofree : ∀ y ∈ sc.names, y.2 ≠ .free
theorem bindL_out {kindOf : Str → Option NameKind} {x : Str} : ∀ {binds : List (Str × Value)} {m : Str → Option Value}, (∀ v, (x, v) ∉ binds) → bindL kindOf binds m x = m x
  | [], _, _ => rfl
  | (n, v) :: r, m, h => by
    unfold bindL
    rw [bindL_out fun w hw => h w (List.mem_cons_of_mem _ hw)]
    split
    · have : x ≠ n := by rintro rfl; exact h v List.mem_cons_self
      simp [this]
    · rfl
theorem bindC_out {kindOf : Str → Option NameKind} {x : Str} : ∀ {binds : List (Str × Value)} {m : Str → Option Value}, (∀ v, (x, v) ∉ binds) → bindC kindOf binds m x = m x
  | [], _, _ => rfl
  | (n, v) :: r, m, h => by
    unfold bindC
    rw [bindC_out fun w hw => h w (List.mem_cons_of_mem _ hw)]
    split
    · rfl
    · have : x ≠ n := by rintro rfl; exact h v List.mem_cons_self
      simp [this]
theorem bindL_get {kindOf : Str → Option NameKind} {x : Str} {v : Value} : ∀ {P : List Str} {vs : List Value} {i : Nat} {m : Str → Option Value}, P.Nodup → P[i]? = some x → vs[i]? = some v → kindOf x = some .local →
    bindL kindOf (P.zip vs) m x = some v
  | [], _, _, _, _, h, _, _ => by simp at h
  | _ :: _, [], _, _, _, _, h, _ => by simp at h
  | p :: P, w :: vs, 0, m, nd, h1, h2, hk => by
    simp at h1 h2; subst h1; subst h2
    show bindL kindOf ((p, w) :: P.zip vs) m p = _
    unfold bindL
    rw [bindL_out fun v hv => (List.nodup_cons.mp nd).1 (List.of_mem_zip hv).1, if_pos hk]
    simp
  | p :: P, w :: vs, i + 1, m, nd, h1, h2, hk => by
    show bindL kindOf ((p, w) :: P.zip vs) m x = _
    unfold bindL
    exact bindL_get (i := i) (List.nodup_cons.mp nd).2 (by simpa using h1) (by simpa using h2) hk
theorem bindC_get {kindOf : Str → Option NameKind} {x : Str} {v : Value} : ∀ {P : List Str} {vs : List Value} {i : Nat} {m : Str → Option Value}, P.Nodup → P[i]? = some x → vs[i]? = some v → kindOf x ≠ some .local →
    bindC kindOf (P.zip vs) m x = some v
  | [], _, _, _, _, h, _, _ => by simp at h
  | _ :: _, [], _, _, _, _, h, _ => by simp at h
  | p :: P, w :: vs, 0, m, nd, h1, h2, hk => by
    simp at h1 h2; subst h1; subst h2
    show bindC kindOf ((p, w) :: P.zip vs) m p = _
    unfold bindC
    rw [bindC_out fun v hv => (List.nodup_cons.mp nd).1 (List.of_mem_zip hv).1, if_neg hk]
    simp
  | p :: P, w :: vs, i + 1, m, nd, h1, h2, hk => by
    show bindC kindOf ((p, w) :: P.zip vs) m x = _
    unfold bindC
    exact bindC_get (i := i) (List.nodup_cons.mp nd).2 (by simpa using h1) (by simpa using h2) hk
def start (N : List Str) (vs : List V) : St := vs.map some ++ List.replicate (N.length - vs.length) none
def cxOf (CX : CXT) (P : Program) (w : World) (K : PySem.W.Frag) (mg : Str → Option Value) (base : Heap) (N : List Str) (qual : Str) (scope : Scope) (f : Addr) (cd : Value) (A : Around) (outer : List Env) (s : Shared) (H : Hp) (E : XK) : Cx where
  prog := P
  w := w
  K := K
  mg := mg
  base := base
  A := A.deeper (envOfC qual scope s.heap.objs.size f cd)
  N := N
  s₀ := s
  H₀ := H
  env := envOfC qual scope s.heap.objs.size f cd
  outer := outer
  stack := envOfC qual scope s.heap.objs.size f cd :: outer
  ex := []
  calm := true
  fn := fun _ => true
  pn := []
  xe := fun e s' => wpAny (model P w) (A.deeper (envOfC qual scope s.heap.objs.size f cd)) (leaving (envOfC qual scope s.heap.objs.size f cd) e) (fun _ s'' => CX outer H s E e s'') (fun e' s'' => CX outer H s E e' s'') s'
theorem cell_has {sc : Scope} {n : Nat} {x : Str} (h : sc.names.lookup x = some .cell) : ∃ c, (cellsFrom n sc.names []).lookup x = some c := by
  have q := PySem.W.cellsFrom_some sc.names n [] (.inl h)
  exact Option.isSome_iff_exists.mp q
theorem inv_start {CX : CXT} {P : Program} {w : World} {K : PySem.W.Frag} {mg : Str → Option Value} {base : Heap} {N ps : List Str} {qual : Str} {scope : Scope} {f : Addr} {cd : Value} {A : Around} {outer : List Env} {s s1 : Shared} {H : Hp} {E : XK} {us : List Value} {vs : List V}
    (S : FnScope N ps scope) (hd : A.handled = none) (e0 : Env0 P w K mg base A outer s H) (hl : vs.length = ps.length) (r : Vals vs us)
    (x : InCallC s s.heap.objs.size (bindL (envOfC qual scope s.heap.objs.size f cd).kindOf (ps.zip us) fun _ => none) (cellsFrom (s.heap.objs.size + 1) scope.names []) (bindC (envOfC qual scope s.heap.objs.size f cd).kindOf (ps.zip us) fun _ => none) s1) :
    Inv (cxOf CX P w K mg base N qual scope f cd A outer s H E) [] (start N vs) H s1 := by
  have hpl : ps.length ≤ N.length := by have := congrArg List.length S.pre; rw [List.length_take] at this; omega
  obtain ⟨h1, tk, rfl, hk⟩ := x.done
  have noA : ∀ b : Addr, b ∉ (cxOf CX P w K mg base N qual scope f cd A outer s H E).ex := fun b z => absurd (show b ∈ ([] : List Addr) from z) (by simp)
  refine ⟨⟨e0.mod, S.kind, rfl, rfl, Nat.le_refl _, fun y z c h1 h2 => ?_, fun y hy => ?_, fun y c _ h => ?_, fun _ => hd, Around.frames_deeper e0.frames, .inr ⟨rfl, rfl⟩, fun b z => absurd z (noA b), e0.bs, e0.bsz, fun b _ _ => noA b, fun b z => absurd z (noA b), e0.funs, e0.frf⟩,
    rfl, e0.bare, Un.kept hk, ⟨_, x.toInCall.ns, fun i y v h1 h2 h3 => ?_⟩, fun y c h => ⟨_, x.cell y c h⟩, e0.hok.fresh (Nat.le_refl _), fun y c h => ?_, fun p hp => absurd (show p ∈ ([] : List (Addr × Obj)) from hp) (by simp), e0.hok.kept hk, ?_⟩
  · exact name_of_addr x.apart (PySem.mem_of_lookup h1) (PySem.mem_of_lookup h2)
  · have hy : scope.names.lookup y = some .cell ∨ scope.names.lookup y = some .free := hy
    rcases hy with hy | hy
    · exact cell_has hy
    · exact absurd rfl (S.nofree _ (PySem.mem_of_lookup hy))
  · exact Nat.le_of_lt (x.above y c (PySem.mem_of_lookup h))
  · have hi : i < vs.length := by
      unfold start at h2
      by_cases hi : i < vs.length
      · exact hi
      · rw [List.getElem?_append_right (by simpa using hi)] at h2
        rw [List.getElem?_replicate] at h2
        split at h2 <;> cases h2
    have ha : vs[i]? = some v := by
      unfold start at h2
      rw [List.getElem?_append_left (by simpa using hi), List.getElem?_map] at h2
      cases e : vs[i]? with
      | none => rw [e] at h2; cases h2
      | some a => rw [e] at h2; cases h2; rfl
    obtain ⟨u, hu, rv⟩ := r.get ha
    have hp : ps[i]? = some y := by
      rw [← S.pre, List.getElem?_take_of_lt (by omega)]; exact h1
    have ndP : ps.Nodup := by rw [← S.pre]; exact S.nd.sublist (List.take_sublist _ _)
    refine ⟨u, rv, ?_⟩
    rcases S.par y (List.mem_of_getElem? hp) with k | k
    · exact .inl ⟨k, bindL_get ndP hp hu k⟩
    · obtain ⟨c, e⟩ := cell_has (n := s.heap.objs.size + 1) k
      refine .inr ⟨.inl k, c, e, ?_⟩
      have q := x.cell y c e
      rw [bindC_get ndP hp hu (by show scope.names.lookup y ≠ _; rw [k]; decide)] at q
      exact q
  · exact e0.hok.fresh (Nat.le_of_lt (x.above y c (PySem.mem_of_lookup h)))
  · unfold start
    show _ = N.length
    rw [List.length_append, List.length_map, List.length_replicate]
    omega
theorem fn_of {CX : CXT} {P : Program} {w : World} {K : PySem.W.Frag} {mg : Str → Option Value} {base : Heap} {k : Nat} {f : Addr} {name qual : Str} {params : Arguments} {body : List Stmt} {scope : Scope} {dV kV doc pm cdv ct oc : Value} {an od : Option Addr}
    {osl : Array (Option Value)} {N ps : List Str} {sp : Sp} (lk : K.lookup f = some ⟨oc, od, .func (PySem.W.fnOf name qual params body scope dV kV doc pm an cdv ct), osl⟩) (hcd : PySem.W.codeIn K cdv qual = true) (S : FnScope N ps scope)
    (len : ∀ vs H Q E, sp vs H Q E → vs.length = ps.length)
    (hbody : ∀ (A : Around) (outer : List Env) (s : Shared) (H : Hp) (vs : List V) (Q : VK) (E : XK), Room k (A.deeper (envOfC qual scope s.heap.objs.size f cdv)) → sp vs H Q E →
      ∃ t, PSs (cxOf CX P w K mg base N qual scope f cdv A outer s H E) body t ∧ t { nx := fun _ H' => Q .non H', rt := Q } (start N vs) H) :
    FnOk P w K mg base CX (k + 1) f (PySem.W.fnOf name qual params body scope dV kV doc pm an cdv ct) ps sp := by
  refine ⟨len, fun A outer s H args us vs Q E hr e0 hb r hsp => ?_⟩
  have hl := len _ _ _ _ hsp
  have KX : K.In s.heap := e0.mod.kin.keeps fun b o e => (e0.bs b o e).1
  have lim : s.heap.NoLimit := e0.mod.nolimit.keeps fun b o e => (e0.bs b o e).1
  have hkind : ∀ y ∈ ps.zip us, scope.names.lookup y.1 = some .local ∨ (scope.names.lookup y.1 = some .cell ∧ ((cellsFrom (s.heap.objs.size + 1) scope.names []).lookup y.1).isSome = true) := fun ⟨n, v⟩ hy => by
    rcases S.par n (List.of_mem_zip hy).1 with q | q
    · exact .inl q
    · exact .inr ⟨q, PySem.W.cellsFrom_some _ _ _ (.inl q)⟩
  refine codeAny_call_function hr.depth (KX _ _ lk) rfl S.co S.gen rfl (PySem.W.codeRec_of KX hcd) (hb _ _ _ _ ?_)
  refine wpAny_newFunctionEnv_cells S.kind hkind fun env he s1 x => ?_
  subst he
  refine ⟨lim.keeps x.toInCall.keep, codeAny_func ?_⟩
  obtain ⟨t, ht, hq⟩ := hbody A outer s H vs Q E (hr.deeper _) hsp
  have I : Inv (cxOf CX P w K mg base N qual scope f cdv A outer s H E) [] (start N vs) H s1 := inv_start S hr.hd e0 hl r x
  refine wpAny_mono (ht [] s1 (start N vs) H _ I hq) (fun fl s' hs => ?_) fun e s' hs => hs
  have fin : ∀ {σ' : St} {H' : Hp} {v : V} {u : Value}, Inv (cxOf CX P w K mg base N qual scope f cdv A outer s H E) [] σ' H' s' → RelV v u → Q v H' → CE outer P w H s Q u s' :=
    fun {σ' H' v u} J rv q => ⟨v, H', J.os, J.bare, J.base, J.hok, rv, q⟩
  cases fl with
  | ret u =>
    obtain ⟨v, σ', H', J, rv, q⟩ := hs
    exact fin J rv q
  | next =>
    obtain ⟨σ', H', J, q⟩ := hs
    exact fin (v := V.non) (u := Value.none) J rfl q
  | brk =>
    obtain ⟨_, _, _, q⟩ := hs
    exact False.elim q
  | cont =>
    obtain ⟨_, _, _, q⟩ := hs
    exact False.elim q
end L2
namespace L2
open PySem PySem.Spec PyProof.Rows
section
variable {X : Cx} {x : Str} {p pos : Pos} {e : Expr} {es : List Expr} {t : TA} {id T : String} {r : List V → Hp → VK → Prop}
def tCB (r : List V → Hp → VK → Prop) (t : TA) : TE := fun σ H Q => t σ H fun vs H1 => r vs H1 Q
theorem pe_callB (hc : CallR X (.builtin id) r) (hg : Gl X x) (hm : X.mg x = none) (hv : bootBuiltins x = some (.builtin id)) (ha : PA X (e :: es) t) (hn : x ≠ "__name__" := by decide) (hdb : (x == ("__debug__" : Str)) = false := by decide)
    (he : starEach (e :: es) X.env = (false, eval e X.env) :: starEach es X.env := by rfl) (hpl : (backTo pos (starEach es X.env)).any (·.1) = false := by rfl) : PE X (.Call (.Name x p) (e :: es) [] pos) (tCB r t) := by
  intro pins s σ H Q I h
  refine wpAny_Call_Name_kw (ld_blt I hg hm hv ?_ hn hdb)
  exact PyProof.Rows.callWith_builtin1 (thn (ha pos pins s σ H _ I h) fun us s1 ⟨vs, H1, I1, r1, q1⟩ => hc pins s1 σ H1 vs us Q I1 r1 q1) he hpl
theorem pe_callTy (hc : CallR X (.type T) r) (hg : Gl X x) (hm : X.mg x = none) (hv : bootBuiltins x = some (.type T)) (ha : PA X (e :: es) t) (hn : x ≠ "__name__" := by decide) (hdb : (x == ("__debug__" : Str)) = false := by decide)
    (he : starEach (e :: es) X.env = (false, eval e X.env) :: starEach es X.env := by rfl) (hpl : (backTo pos (starEach es X.env)).any (·.1) = false := by rfl) : PE X (.Call (.Name x p) (e :: es) [] pos) (tCB r t) := by
  intro pins s σ H Q I h
  refine wpAny_Call_Name_kw (ld_blt I hg hm hv ?_ hn hdb)
  exact PyProof.Rows.callWith_type1 (thn (ha pos pins s σ H _ I h) fun us s1 ⟨vs, H1, I1, r1, q1⟩ => hc pins s1 σ H1 vs us Q I1 r1 q1) he hpl
end
end L2
namespace HT
open PySem PyProof.Rows
section
open PySem.SeqAt
open PySem.AutoSeq1 (wpAny_loadPart')
open PySem.MeetsSeq PySem.MeetsSeq2 PySem.MeetsSeq3
end
section
variable {prog : Program} {w : World} {A : Around} {E : Value → Shared → Prop} {s : Shared}
theorem cat_tup {t b : Addr} {vs ws : List Value} {Q : Value → Shared → Prop} (ht : IsTup s.heap t vs.toArray) (hb : IsTup s.heap b ws.toArray) (hv : vs ≠ [])
    (h1 : ws = [] → Q (.ref t) s) (h2 : ws ≠ [] → Q (.ref s.heap.objs.size) { s with heap := s.heap.push { cls := .type "tuple", data := .seq (vs ++ ws).toArray } })
    (hsz : vs.length + ws.length ≤ sizeLine) : wpAny (model prog w) A (binaryOp .Add (.ref t) (.ref b)) Q E s := by
  obtain ⟨⟨cls, dd, data, sl⟩, ho, hc, n, hd⟩ := id ht
  obtain ⟨⟨cls2, dd2, data2, sl2⟩, ho2, hc2, n2, hd2⟩ := id hb
  simp only at hc hd hc2 hd2
  subst hc hd hc2 hd2
  have e : vs.toArray ++ ws.toArray = (vs ++ ws).toArray := by simp
  by_cases hw : ws = []
  · exact concat_meets ⟨_, ho, rfl⟩ ⟨_, ho2, rfl⟩ noFill_tuple_add seq_tuple_add PySem.F.slot_tuple_add PySem.F.entry_tuple_add (PySem.F.args_tuple_add_2 _ _)
      (tuple_addW1 t b vs.toArray ws.toArray n n2 dd dd2 sl sl2 (by simpa using hv) (by simp [hw])) ⟨ho, ho2, h1 hw⟩
  · refine concat_meets ⟨_, ho, rfl⟩ ⟨_, ho2, rfl⟩ noFill_tuple_add seq_tuple_add PySem.F.slot_tuple_add PySem.F.entry_tuple_add (PySem.F.args_tuple_add_2 _ _)
      (tuple_addW2 t b vs.toArray ws.toArray n n2 dd dd2 sl sl2 (by simpa using hv) (by simpa using hw) (by rw [List.size_toArray, List.size_toArray]; exact hsz)) ⟨ho, ho2, ?_⟩
    rw [e]
    exact h2 hw
def sIx (n d : Nat) : Option Int → Nat
  | none => d
  | some v => if v < 0 then (v + (n : Int)).toNat else min v.toNat n
theorem sIx_none (n d : Nat) : sIx n d none = d := rfl
theorem sIx_nat (n d k : Nat) : sIx n d (some (k : Int)) = min k n := by
  show (if (k : Int) < 0 then ((k : Int) + (n : Int)).toNat else min (k : Int).toNat n) = min k n
  rw [if_neg (by omega), Int.toNat_natCast]
theorem sIx_le (n d : Nat) (hd : d ≤ n) (o : Option Int) : sIx n d o ≤ n := by
  cases o with
  | none => exact hd
  | some v =>
    show (if v < 0 then (v + (n : Int)).toNat else min v.toNat n) ≤ n
    by_cases hv : v < 0
    · rw [if_pos hv]; omega
    · rw [if_neg hv]; exact Nat.min_le_right _ _
theorem clip_eq (v : Int) (n d : Nat) : (if v < 0 then max (v + (n : Int)) 0 else min v (n : Int)) = ((sIx n d (some v) : Nat) : Int) := by
  show (if v < 0 then max (v + (n : Int)) 0 else min v (n : Int)) = (((if v < 0 then (v + (n : Int)).toNat else min v.toNat n) : Nat) : Int)
  by_cases hv : v < 0
  · simp only [if_pos hv]; omega
  · simp only [if_neg hv]; omega
end
end HT
namespace L2
open PySem PySem.Spec PyProof.Rows
abbrev TO := St → Hp → (Option Int → Hp → Prop) → Prop
def PO (X : Cx) (e : Option Expr) (t : TO) : Prop :=
  ∀ (pins : List (Addr × Obj)) (s : Shared) (σ : St) (H : Hp) (Q : Option Int → Hp → Prop), Inv X pins σ H s → t σ H Q →
    wpAny (model X.prog X.w) X.A (evalPart e X.env) (fun u s' => ∃ o H', Inv X pins σ H' s' ∧ IsPart u o ∧ Q o H') X.xe s
def tNoPart : TO := fun _ H Q => Q none H
def tPart (t : TE) : TO := fun σ H Q => t σ H fun x H1 => ∃ i, x = .int i ∧ Q (some i) H1
theorem intsAre_of {ns : List Int} : ∀ {us : List Value}, Vals (ns.map V.int) us → IntsAre us ns := by
  induction ns with
  | nil => intro us r; rw [List.map_nil] at r; cases r; exact .nil
  | cons n ns ih =>
    intro us r
    rw [List.map_cons] at r
    cases r with
    | cons r1 r2 =>
      obtain ⟨t, e⟩ := r1
      subst e
      exact .cons n t (ih r2)
section
variable {X : Cx} {e : Expr} {te : TE} {lo hi : Option Expr} {tl th : TO} {pos p2 : Pos}
theorem po_none : PO X none tNoPart := by
  intro pins s σ H Q I h
  rw [evalPart_none]
  exact wpAny_pure ⟨none, H, I, .none, h⟩
theorem po_some (h : PE X e te) : PO X (some e) (tPart te) := by
  intro pins s σ H Q I hw
  rw [evalPart_some]
  refine thn (h pins s σ H _ I hw) fun u s1 ⟨x, H1, I1, r1, q1⟩ => ?_
  obtain ⟨i, rfl, q⟩ := q1
  obtain ⟨t, rfl⟩ := r1
  exact ⟨some i, H1, I1, .int i t, q⟩
def SlR (X : Cx) (r : V → Option Int → Option Int → Hp → VK → Prop) : Prop :=
  ∀ (pins : List (Addr × Obj)) (s : Shared) (σ : St) (H : Hp) (x : V) (v vl vu : Value) (lo hi : Option Int) (sl : Addr) (Q : VK), Inv X pins σ H s → RelV x v → s.heap.IsSliceOf sl vl vu .none → IsPart vl lo → IsPart vu hi → r x lo hi H Q →
    ∃ T id, typeLookup (.type T) "__getitem__" = pure (some (.builtin id)) ∧ s.TypeIs v T ∧ wpAny (model X.prog X.w) X.A (getItem v (.ref sl)) (EP X pins σ Q) X.xe s
def tSl (r : V → Option Int → Option Int → Hp → VK → Prop) (te : TE) (tl th : TO) : TE := fun σ H Q => te σ H fun x H1 => tl σ H1 fun l H2 => th σ H2 fun u H3 => r x l u H3 Q
theorem pe_slice {r : V → Option Int → Option Int → Hp → VK → Prop} (hr : SlR X r) (he : PE X e te) (hl : PO X lo tl) (hu : PO X hi th) : PE X (.Subscript e (.Slice lo hi none p2) pos) (tSl r te tl th) := by
  intro pins s σ H Q I h
  refine Subscript_ (thn (he pins s σ H _ I h) fun v s1 ⟨x, H1, I1, r1, q1⟩ => ?_)
  refine wpAny_Slice (thn (hl pins s1 σ H1 _ I1 q1) fun vl s2 ⟨l, H2, I2, pl, q2⟩ => thn (hu pins s2 σ H2 _ I2 q2) fun vu s3 ⟨u, H3, I3, pu, q3⟩ => ?_)
  rw [evalPart_none]
  refine wpAny_pure ?_
  have I4 : Inv X pins σ H3 { s3 with heap := s3.heap.push { cls := .type "slice", data := .fields #[vl, vu, .none] } } := I3.kept (t' := s3.toks) fun b ob q => Heap.get?_push_of_some _ q
  obtain ⟨T, id, hT, ht, hg⟩ := hr pins { s3 with heap := s3.heap.push { cls := .type "slice", data := .fields #[vl, vu, .none] } } σ H3 x v vl vu l u s3.heap.objs.size Q I4 r1 (Heap.IsSliceOf.new ..) pl pu q3
  show wpAny (model X.prog X.w) X.A (subscriptTail e (.Slice lo hi none p2) v (.ref s3.heap.objs.size)) (EP X pins σ Q) X.xe { s3 with heap := s3.heap.push { cls := .type "slice", data := .fields #[vl, vu, .none] } }
  exact tail_any (ops := [.ref s3.heap.objs.size, v]) ht hT hg (by with_unfolding_all rfl)
def cutV (xs : List V) (lo hi : Option Int) : List V := (xs.drop (HT.sIx xs.length 0 lo)).take (HT.sIx xs.length xs.length hi - HT.sIx xs.length 0 lo)
theorem cutV_length (xs : List V) (lo hi : Option Int) : (cutV xs lo hi).length ≤ xs.length := by
  unfold cutV
  rw [List.length_take, List.length_drop]
  omega
def rCatT (K : PySem.W.Frag) : R2 := fun x y H Q => ∃ a b xs ys, x = .ref a ∧ y = .ref b ∧ SqT K H a xs ∧ SqT K H b ys ∧ xs ≠ [] ∧ xs.length + ys.length ≤ sizeLine ∧
  (ys = [] → Q (.ref a) H) ∧ (ys ≠ [] → ∀ p, H p = none → Q (.ref p) (upd H p (.tup (xs ++ ys))))
theorem Vals.nil_iff {xs : List V} {us : List Value} (r : Vals xs us) : us = [] ↔ xs = [] := by
  cases r with
  | nil => simp
  | cons _ _ => simp
theorem op_catT : OpR X (binaryOp .Add) (rCatT X.K) := by
  intro pins s σ H x y v u Q I rx ry h
  obtain ⟨a, b, xs, ys, rfl, rfl, ha, hb, hx, hz, q1, q2⟩ := h
  cases rx
  cases ry
  obtain ⟨its, r1, p1, _⟩ := I.tuple ha
  obtain ⟨its2, r2, p2, _⟩ := I.tuple hb
  refine HT.cat_tup p1 p2 (fun z => hx (r1.nil_iff.mp z)) (fun z => ⟨.ref a, H, I, rfl, q1 (r2.nil_iff.mp z)⟩) (fun z => ?_) (by rw [← r1.length, ← r2.length]; exact hz)
  refine ⟨.ref s.heap.objs.size, _, I.laid (t' := s.toks) (o := .tup (xs ++ ys)) (fun b ob q => Heap.get?_push_of_some _ q) (Nat.le_refl _) ?_, rfl, q2 (fun w => z (r2.nil_iff.mpr w)) _ (I.hok.fresh (Nat.le_refl _))⟩
  exact ⟨by rw [List.length_append]; exact hz, _, r1.append r2, IsTup.new _ _⟩
end
end L2
namespace L2
open PySem PySem.Spec PyProof.Rows
def ixN (n : Nat) (i : Int) : Option Nat := if 0 ≤ i then (if i < n then some i.toNat else none) else if -(n : Int) ≤ i then some (i + n).toNat else none
def atI {α : Type} (xs : List α) (i : Int) : Option α := (ixN xs.length i).bind fun j => xs[j]?
theorem ixN_seq {n : Nat} {i : Int} {j : Nat} (h : ixN n i = some j) : seqIndex? i n = some j ∧ j < n ∧ -(n : Int) ≤ i ∧ i < n := by
  unfold ixN at h
  by_cases h0 : 0 ≤ i
  · rw [if_pos h0] at h
    by_cases h1 : i < n
    · rw [if_pos h1] at h
      have e : i.toNat = j := Option.some.inj h
      exact ⟨by rw [seqIndex_of h0 h1, e], by omega, by omega, h1⟩
    · rw [if_neg h1] at h; cases h
  · rw [if_neg h0] at h
    by_cases h1 : -(n : Int) ≤ i
    · rw [if_pos h1] at h
      have e : (i + n).toNat = j := Option.some.inj h
      exact ⟨by rw [seqIndex_neg (by omega) h1, e], by omega, h1, by omega⟩
    · rw [if_neg h1] at h; cases h
theorem atI_get {α : Type} {xs : List α} {i : Int} {v : α} (h : atI xs i = some v) : ∃ j, seqIndex? i xs.length = some j ∧ xs[j]? = some v ∧ j < xs.length ∧ -(xs.length : Int) ≤ i ∧ i < xs.length := by
  unfold atI at h
  cases e : ixN xs.length i with
  | none => rw [e] at h; cases h
  | some j =>
    rw [e] at h
    obtain ⟨h1, h2, h3, h4⟩ := ixN_seq e
    exact ⟨j, h1, h, h2, h3, h4⟩
theorem atI_nat {α : Type} {xs : List α} {j : Nat} {v : α} (h : xs[j]? = some v) : atI xs (j : Int) = some v := by
  have hj : j < xs.length := (List.getElem?_eq_some_iff.mp h).1
  have e : ixN xs.length (j : Int) = some j := by
    unfold ixN
    rw [if_pos (by omega), if_pos (by omega)]; simp
  unfold atI; rw [e]; exact h
def PlainIx (b : Expr) : Prop := ∀ o i, subscripted b false o i = operate [o, i] (getItem o i)
def IxR (X : Cx) (r : R2) : Prop :=
  ∀ (value slice : Expr) (pins : List (Addr × Obj)) (s : Shared) (σ : St) (H : Hp) (x y : V) (v u : Value) (Q : VK), Inv X pins σ H s → RelV x v → RelV y u → r x y H Q →
    subscripted slice false v u = operate [v, u] (getItem v u) → wpAny (model X.prog X.w) X.A (subscriptTail value slice v u) (EP X pins σ Q) X.xe s
def MtR (X : Cx) (id : String) (r : V → List V → Hp → VK → Prop) : Prop :=
  ∀ (pins : List (Addr × Obj)) (s : Shared) (σ : St) (H : Hp) (x : V) (xs : List V) (v : Value) (us : List Value) (Q : VK), Inv X pins σ H s → RelV x v → Vals xs us → r x xs H Q →
    wpAny (model X.prog X.w) X.A (call (.builtin id) (v :: us)) (EP X pins σ Q) X.xe s
section
variable {X : Cx} {a b : Expr} {ta tb : TE} {pos : Pos}
theorem pe_ix {r : R2} (hr : IxR X r) (ha : PE X a ta) (hb : PE X b tb) (hs : PlainIx b) : PE X (.Subscript a b pos) (tOp r ta tb) := by
  intro pins s σ H Q I h
  exact Subscript_ (binT ha hb I h fun v u s2 x y H2 I2 rx ry q => hr a b pins s2 σ H2 x y v u Q I2 rx ry q (hs _ _))
def rIxL (K : PySem.W.Frag) : R2 := fun x y H Q => ∃ p xs i v, x = .ref p ∧ y = .int i ∧ SqL K H p xs ∧ atI xs i = some v ∧ Q v H
def rIxT (K : PySem.W.Frag) : R2 := fun x y H Q => ∃ p xs i v, x = .ref p ∧ y = .int i ∧ SqT K H p xs ∧ atI xs i = some v ∧ Q v H
def rIxS : R2 := fun x y H Q => ∃ z i c, x = .str z ∧ y = .int i ∧ z.length ≤ sizeLine ∧ atI z.cps.toList i = some c ∧ Q (.str ⟨#[c]⟩) H
theorem ix_list : IxR X (rIxL X.K) := by
  intro value slice pins s σ H x y v u Q I rx ry h hs
  obtain ⟨p, xs, i, z, rfl, rfl, hq, he, q⟩ := h
  cases rx
  obtain ⟨t, rfl⟩ := ry
  obtain ⟨its, r, pl, hz⟩ := I.list hq
  obtain ⟨j, h1, h2, h3, h4, h5⟩ := atI_get he
  obtain ⟨w, ew, rw'⟩ := r.get h2
  have hl := r.length
  have hn := line63
  have fin : EP X pins σ Q w s := ⟨z, H, I, rw', q⟩
  by_cases h0 : 0 ≤ i
  · have hj : i.toNat = j := by
      rw [seqIndex_of h0 h5] at h1
      exact Option.some.inj h1
    exact item_listR pl.isList h0 (by omega) (by rw [hj]; simpa using ew) fin hs
  · have hj : (i + (its.toArray.size : Int)).toNat = j := by
      rw [seqIndex_neg (by omega) h4] at h1
      rw [List.size_toArray, ← hl]
      exact Option.some.inj h1
    exact subscriptTail_builtinR (x := w) pl.isList.typeIs slot_list_getitem.lookup
      (wpAny_getItem_list_neg (Q := fun r s' => r = w ∧ EP X pins σ Q r s') pl.isList (by omega) (by rw [List.size_toArray] <;> omega) (by omega) (by rw [hj]; simpa using ew) ⟨rfl, fin⟩) hs
theorem ix_tup : IxR X (rIxT X.K) := by
  intro value slice pins s σ H x y v u Q I rx ry h hs
  obtain ⟨p, xs, i, z, rfl, rfl, hq, he, q⟩ := h
  cases rx
  obtain ⟨t, rfl⟩ := ry
  obtain ⟨its, r, pl, hz⟩ := I.tuple hq
  obtain ⟨j, h1, h2, h3, h4, h5⟩ := atI_get he
  obtain ⟨w, ew, rw'⟩ := r.get h2
  have hl := r.length
  have hn := line63
  have fin : EP X pins σ Q w s := ⟨z, H, I, rw', q⟩
  exact subscriptTail_builtinR (x := w) pl.typeIs slot_tuple_getitem.lookup
    (getItem_tuple (j := j) (Q := fun r s' => r = w ∧ EP X pins σ Q r s') pl (by omega) (by omega) (by rw [List.size_toArray, ← hl]; exact h1) (by simpa using ew) ⟨rfl, fin⟩) hs
theorem ix_str : IxR X rIxS := by
  intro value slice pins s σ H x y v u Q I rx ry h hs
  obtain ⟨z, i, c, rfl, rfl, hz, he, q⟩ := h
  obtain ⟨t, rfl⟩ := rx
  obtain ⟨t', rfl⟩ := ry
  obtain ⟨j, h1, h2, h3, h4, h5⟩ := atI_get he
  have hl : z.cps.toList.length = z.length := by simp [Str.length]
  rw [hl] at h1 h4 h5
  have hn := line63
  exact tail_any (typeIs_str s z t) slot_str_getitem.lookup (getItem_str (c := c) (by
    have e1 : decide (i < -(2 ^ 63 : Int)) = false := decide_eq_false (by omega)
    have e2 : decide (i ≥ 2 ^ 63) = false := decide_eq_false (by omega)
    rw [e1, e2, Bool.or_false]) (by rw [h1]; simpa using h2) ⟨.str ⟨#[c]⟩, H, I.tok _, ⟨_, rfl⟩, q⟩) hs
theorem Inv.lst {pins : List (Addr × Obj)} {σ : St} {H : Hp} {s : Shared} {p : Addr} {xs : List V} (I : Inv X pins σ H s) (h : H p = some (.lst xs)) :
    ∃ (its : List Value) (n : Nat), Vals xs its ∧ s.heap.get? p = some { cls := .type "list", data := .seq its.toArray n } ∧ xs.length ≤ sizeLine := by
  obtain ⟨z, its, n, r, e⟩ := I.hok p _ h
  exact ⟨its, n, r, e, z⟩
theorem slice_bounds (lo hi : Option Int) (n : Nat) : (sliceBounds lo hi none n).1 = ((HT.sIx n 0 lo : Nat) : Int) ∧ (sliceBounds lo hi none n).2.1 = ((HT.sIx n n hi : Nat) : Int) ∧ (sliceBounds lo hi none n).2.2 = 1 := by
  refine ⟨?_, ?_, rfl⟩
  · cases lo with
    | none => simp [sliceBounds, HT.sIx]
    | some i =>
      simp only [sliceBounds, HT.sIx, Option.getD_none, show (1 : Int) > 0 by decide, if_true]
      by_cases h : i < 0
      · simp only [h, if_true] <;> omega
      · simp only [h, if_false] <;> omega
  · cases hi with
    | none => simp [sliceBounds, HT.sIx]
    | some i =>
      simp only [sliceBounds, HT.sIx, Option.getD_none, show (1 : Int) > 0 by decide, if_true]
      by_cases h : i < 0
      · simp only [h, if_true] <;> omega
      · simp only [h, if_false] <;> omega
theorem slicePick_cut (its : List Value) (lo hi : Option Int) : slicePick its.toArray lo hi none = ((its.drop (HT.sIx its.length 0 lo)).take (HT.sIx its.length its.length hi - HT.sIx its.length 0 lo)).toArray := by
  obtain ⟨h1, h2, h3⟩ := slice_bounds lo hi its.toArray.size
  unfold slicePick
  rw [h1, h2, h3]
  simp only [sliceRange_one, pick_run, List.size_toArray] <;> rfl
def rSlL (K : PySem.W.Frag) : V → Option Int → Option Int → Hp → VK → Prop := fun x lo hi H Q => ∃ a xs, x = .ref a ∧ SqL K H a xs ∧ ∀ p, H p = none → Q (.ref p) (upd H p (.lst (cutV xs lo hi)))
theorem sl_list : SlR X (rSlL X.K) := by
  intro pins s σ H x v vl vu lo hi sl Q I rx hs pl pu h
  obtain ⟨a, xs, rfl, hx, q⟩ := h
  cases rx
  obtain ⟨its, r, ht, hz⟩ := I.list hx
  have hlen := r.length
  refine ⟨"list", _, slot_list_getitem.lookup, ht.isList.typeIs, ?_⟩
  refine wpAny_getItem_list_slice ht.isList hs pl pu .none (by simp) ?_ (by rw [List.size_toArray] <;> omega)
  rw [slicePick_cut, ← hlen]
  refine ⟨.ref s.heap.objs.size, _, I.laid (t' := s.toks) (o := .lst (cutV xs lo hi)) (fun b ob q => Heap.get?_push_of_some _ q) (Nat.le_refl _) ?_, rfl, q _ (I.hok.fresh (Nat.le_refl _))⟩
  exact ⟨Nat.le_trans (cutV_length xs lo hi) hz, _, 0, (r.drop (HT.sIx xs.length 0 lo)).take (HT.sIx xs.length xs.length hi - HT.sIx xs.length 0 lo), Heap.get?_push_size _ rfl⟩
theorem call_list_of : CallR X (.type "list") (fun xs H Q => ∃ p ys, xs = [.ref p] ∧ (SqL X.K H p ys ∨ SqT X.K H p ys) ∧ ∀ l, H l = none → Q (.ref l) (upd H l (.lst ys))) := by
  intro pins s σ H xs us Q I r h
  obtain ⟨p, ys, rfl, hq, q⟩ := h
  obtain ⟨u, rfl, rx⟩ := vals1 r
  cases rx
  have fin : ∀ (its : List Value), Vals ys its → ys.length ≤ sizeLine → ∀ (h' : Heap) (c' : Nat), (∀ b o', s.heap.get? b = some o' → h'.get? b = some o') →
      h'.get? s.heap.objs.size = some { cls := .type "list", dict := none, data := .seq its.toArray c', slots := #[] } → EP X pins σ Q (.ref s.heap.objs.size) { s with heap := h' } := fun its r' hz h' c' kp e =>
    ⟨.ref s.heap.objs.size, _, I.laid (t' := s.toks) kp (Nat.le_refl _) (show ObjOk X.prog X.w _ h' _ (.lst ys) from ⟨hz, its, c', r', e⟩), rfl, q _ (I.hok.fresh (Nat.le_refl _))⟩
  rcases hq with hq | hq
  · obtain ⟨its, r', pl, hz⟩ := I.list hq
    have hlen := r'.length
    obtain ⟨o, ho, hc, n, hd⟩ := pl.isList
    exact call_list_seq p (.inl rfl) ho hc hd (fun h' c' kp e => fin its r' hz h' c' kp e) (by simp only [List.size_toArray] <;> omega)
  · obtain ⟨its, r', pl, hz⟩ := I.tuple hq
    have hlen := r'.length
    obtain ⟨o, ho, hc, n, hd⟩ := pl
    exact call_list_seq p (.inr rfl) ho hc hd (fun h' c' kp e => fin its r' hz h' c' kp e) (by simp only [List.size_toArray] <;> omega)
theorem call_tuple_of : CallR X (.type "tuple") (fun xs H Q => ∃ p ys, xs = [.ref p] ∧ ((SqL X.K H p ys ∧ ∀ l, H l = none → Q (.ref l) (upd H l (.tup ys))) ∨ (SqT X.K H p ys ∧ Q (.ref p) H))) := by
  intro pins s σ H xs us Q I r h
  obtain ⟨p, ys, rfl, h⟩ := h
  obtain ⟨u, rfl, rx⟩ := vals1 r
  cases rx
  rcases h with ⟨hq, q⟩ | ⟨hq, q⟩
  · obtain ⟨its, r', pl, hz⟩ := I.list hq
    have hlen := r'.length
    refine call_tuple_list pl.isList (fun h' kp => ?_) (by simp only [List.size_toArray] <;> omega)
    have I1 : Inv X pins σ H { s with heap := h' } := I.kept (t' := s.toks) kp
    have I2 : Inv X pins σ (upd H h'.objs.size (.tup ys)) { s with heap := h'.push { cls := .type "tuple", data := .seq its.toArray } } :=
      I1.laid (t' := s.toks) (fun b o e => Heap.get?_push_of_some _ e) (Nat.le_refl _) (show ObjOk X.prog X.w _ _ _ (.tup ys) from ⟨hz, its, r', IsTup.new _ _⟩)
    exact ⟨.ref h'.objs.size, _, I2, rfl, q _ (I1.hok.fresh (Nat.le_refl _))⟩
  · obtain ⟨its, r', pl, hz⟩ := I.tuple hq
    exact call_tuple_same pl ⟨.ref p, H, I, rfl, q⟩
def tyV (K : PySem.W.Frag) (T : String) (x : V) (H : Hp) : Prop := match x with
  | .str _ => T = "str"
  | .int _ => T = "int"
  | .ref p => (T = "list" ∧ ∃ xs, SqL K H p xs) ∨ (T = "tuple" ∧ ∃ o, K.lookup p = some o ∧ o.cls = .type "tuple" ∧ o.dict = none) ∨
      (T = "dict" ∧ ((∃ kvs, H p = some (.dK kvs)) ∨ ∃ kvs, H p = some (.dT kvs))) ∨ (T = "set" ∧ ∃ S n, H p = some (.set S n))
  | _ => False
theorem tyV_is {pins : List (Addr × Obj)} {σ : St} {H : Hp} {s : Shared} {T : String} {x : V} {v : Value} (I : Inv X pins σ H s) (r : RelV x v) (ty : tyV X.K T x H) :
    s.TypeIs v T ∧ ∀ a, v = .ref a → ∃ ob, s.heap.get? a = some ob ∧ ob.dict = none := by
  cases x with
  | str z =>
    obtain ⟨t, rfl⟩ := r
    cases (show T = "str" from ty)
    exact ⟨typeIs_str s z t, fun _ e => nomatch e⟩
  | int i =>
    obtain ⟨t, rfl⟩ := r
    cases (show T = "int" from ty)
    exact ⟨typeIs_int s i t, fun _ e => nomatch e⟩
  | ref p =>
    cases r
    rcases ty with ⟨rfl, xs, hq⟩ | ⟨rfl, o, hk, hc, hd⟩ | ⟨rfl, hk⟩ | ⟨rfl, S, n, hk⟩
    · obtain ⟨its, _, pl, _⟩ := I.list hq
      refine ⟨pl.isList.typeIs, fun a e => ?_⟩
      cases e
      obtain ⟨o, n, e, c, hd, _⟩ := pl
      exact ⟨o, e, hd⟩
    · refine ⟨⟨o, I.kIn p o hk, hc⟩, fun a e => ?_⟩
      cases e
      exact ⟨o, I.kIn _ o hk, hd⟩
    · have z : ∃ o, s.heap.get? p = some o ∧ o.ExactDict := by
        rcases hk with ⟨kvs, hk⟩ | ⟨kvs, hk⟩
        · obtain ⟨_, _, _, _, o, _, _, e, ex, _⟩ := I.hok p _ hk
          exact ⟨o, e, ex⟩
        · obtain ⟨_, _, _, _, o, _, _, e, ex, _⟩ := I.hok p _ hk
          exact ⟨o, e, ex⟩
      obtain ⟨o, e, ex⟩ := z
      refine ⟨⟨o, e, ex.1⟩, fun a e2 => ?_⟩
      cases e2
      exact ⟨o, e, ex.2.1⟩
    · obtain ⟨o, _, _, _, e, ex, _⟩ := I.hok p _ hk
      refine ⟨⟨o, e, ex.1⟩, fun a e2 => ?_⟩
      cases e2
      exact ⟨o, e, ex.2.1⟩
  | _ => exact False.elim ty
def tBM (K : PySem.W.Frag) (T : String) (r : V → List V → Hp → VK → Prop) (to : TE) (t : TA) : TE := fun σ H Q => to σ H fun x H1 => tyV K T x H1 ∧ t σ H1 fun xs H2 => r x xs H2 Q
variable {o e : Expr} {es : List Expr} {to : TE} {t : TA} {name : Str} {apos cpos : Pos} {T id : String} {r : V → List V → Hp → VK → Prop}
theorem pe_bm (pa : PlainAttrs T) (slot : Slot T name id) (hty : typeOf (.builtin id) = pure (.type "method_descriptor")) (hm : MtR X id r) (ho : PE X o to) (ha : PA X (e :: es) t)
    (hbase : attributeBase o name X.env (eval o X.env) = eval o X.env := by rfl)
    (hfew : ((backTo cpos (starEach (e :: es) X.env)).all (fun x => !x.1) && (backToKw cpos (keywordEach [] X.env)).all (fun x => x.1.isSome)
      && decide ((e :: es).length + ([] : List Keyword).length + (if ([] : List Keyword).isEmpty then 0 else 1) < 30)) = true := by rfl)
    (hline : (apos.endLine == cpos.line) = true := by rfl) (hs : starEach (e :: es) X.env = (false, eval e X.env) :: starEach es X.env := by rfl) (hplain : (backTo cpos (starEach es X.env)).any (·.1) = false := by rfl) :
    PE X (.Call (.Attribute o name apos) (e :: es) [] cpos) (tBM X.K T r to t) := by
  intro pins s σ H Q I h
  refine wpAny_Call_method_late hbase hfew hline rfl (thn (ho pins s σ H _ I h) fun v s1 ⟨x, H1, I1, r1, ty, q1⟩ => ?_)
  obtain ⟨h1, h2⟩ := tyV_is I1 r1 ty
  refine ⟨T, id, pa, slot, hty, h1, h2, ?_⟩
  have hA := ha cpos pins s1 σ H1 _ I1 q1
  rw [hs] at hA ⊢
  refine Calls.callWith_builtin (by show (false || (backTo cpos (starEach es X.env)).any (·.1)) = false; rw [hplain] <;> rfl) (Calls.evalArgs_plain ?_)
  exact thn hA fun us s2 ⟨vs, H2, I2, r2, q2⟩ => hm pins s2 σ H2 x vs v us Q I2 r1 r2 q2
/- xs.append(e), list.index on a module's tuple .. are MtR facts of 06m -/
end
end L2
namespace L2
open PySem PySem.Spec PyProof.Rows
def MtM (X : Cx) (id : String) (r : V → List V → Hp → VK → Prop) : Prop :=
  ∀ (pins : List (Addr × Obj)) (s : Shared) (σ : St) (H : Hp) (x : V) (xs : List V) (v : Value) (us : List Value) (Q : VK), Inv X pins σ H s → RelV x v → Vals xs us → r x xs H Q →
    wpAny (model X.prog X.w) X.A (call (.builtin id) (v :: us)) (EP X pins σ Q) X.xe s
theorem Vals.one : ∀ {x : V} {us : List Value}, Vals [x] us → ∃ u, us = [u] ∧ RelV x u
  | _, _, .cons r .nil => ⟨_, rfl, r⟩
theorem Vals.zero : ∀ {us : List Value}, Vals [] us → us = []
  | _, .nil => rfl
theorem Vals.dropLast {xs : List V} {us : List Value} (h : Vals xs us) : Vals xs.dropLast us.dropLast := by
  induction h with
  | nil => exact .nil
  | cons r t ih =>
    cases t with
    | nil => exact .nil
    | cons q t' => exact .cons r ih
theorem Vals.reverse {xs : List V} {us : List Value} (h : Vals xs us) : Vals xs.reverse us.reverse := by
  induction h with
  | nil => exact .nil
  | cons r t ih => rw [List.reverse_cons, List.reverse_cons]; exact Vals.append ih (.cons r .nil)
section
variable {X : Cx} {pins : List (Addr × Obj)} {σ : St} {H : Hp} {s : Shared} {l b : Addr} {xs ys zs : List V}
theorem Inv.lset {its its' : List Value} {n : Nat} {f : Array Value → Array Value} {t' : Nat} (I : Inv X pins σ H s) (hH : H l = some (.lst xs))
    (e : s.heap.get? l = some { cls := .type "list", data := .seq its.toArray n }) (hf : f its.toArray = its'.toArray) (hv : Vals ys its') (hz : ys.length ≤ sizeLine) :
    Inv X pins σ (upd H l (.lst ys)) { s with heap := s.heap.update l (Obj.mapSeq f), toks := t' } := by
  have q := PySem.IsL.update e f
  rw [hf] at q
  refine I.write (x := l) (e := l) (by rw [hH]; exact trivial) (.inl rfl) (fun b' u hb hu => (Heap.get?_update_other s.heap (Obj.mapSeq f) (Ne.symm hb)).trans hu) ⟨_, q⟩ ?_
  exact ⟨hz, its', _, hv, q⟩
theorem Inv.lnew {its : List Value} {t' : Nat} (I : Inv X pins σ H s) (hv : Vals ys its) (hz : ys.length ≤ sizeLine) :
    Inv X pins σ (upd H s.heap.objs.size (.lst ys)) { s with heap := s.heap.push { cls := .type "list", data := .seq its.toArray }, toks := t' } :=
  I.laid (fun _ _ q => Heap.get?_push_of_some _ q) (Nat.le_refl _) ⟨hz, its, 0, hv, Heap.get?_push_size _ rfl⟩
theorem Inv.fresh (I : Inv X pins σ H s) : H s.heap.objs.size = none := I.hok.fresh (Nat.le_refl _)
theorem Inv.lstM (I : Inv X pins σ H s) (hH : H l = some (.lst xs)) : xs.length ≤ sizeLine ∧ ∃ (its : List Value) (n : Nat), Vals xs its ∧ xs.length = its.length ∧ s.heap.get? l = some { cls := .type "list", data := .seq its.toArray n } := by
  obtain ⟨z, its, n, r, e⟩ := I.hok l _ hH
  exact ⟨z, its, n, r, r.length, e⟩
theorem notLongL {n : Nat} (h : n ≤ sizeLine) : Builtin.List.listTooLong n = false := by
  unfold Builtin.List.listTooLong
  exact decide_eq_false (by omega)
end
section
variable {X : Cx}
def rAppend : V → List V → Hp → VK → Prop := fun x vs H Q => ∃ l xs y, x = .ref l ∧ vs = [y] ∧ H l = some (.lst xs) ∧ xs.length < sizeLine ∧ Q .non (upd H l (.lst (xs ++ [y])))
theorem mt_append : MtM X "list.append" rAppend := by
  intro pins s σ H x vs v us Q I rx rv h
  obtain ⟨l, xs, y, rfl, rfl, hH, hz, q⟩ := h
  cases rx
  obtain ⟨u, rfl, ru⟩ := rv.one
  obtain ⟨z, its, n, r, hl, e⟩ := I.lstM hH
  refine call_meets F.slot_list_append ⟨_, e, rfl⟩ F.entry_list_append (F.args_list_append_2 _ _) (PySem.list_append l its.toArray n u (by rw [List.size_toArray]; omega)) ⟨e, ?_⟩
  refine ⟨.non, _, I.lset (its' := its ++ [u]) hH e (by simp) (r.append (.cons ru .nil)) ?_, rfl, q⟩
  rw [List.length_append, List.length_singleton]
  omega
def rExtend : V → List V → Hp → VK → Prop := fun x vs H Q => ∃ l b xs zs, x = .ref l ∧ vs = [.ref b] ∧ H l = some (.lst xs) ∧ H b = some (.lst zs) ∧ xs.length + zs.length ≤ sizeLine ∧ Q .non (upd H l (.lst (xs ++ zs)))
theorem mt_extend : MtM X "list.extend" rExtend := by
  intro pins s σ H x vs v us Q I rx rv h
  obtain ⟨l, b, xs, zs, rfl, rfl, hH, hB, hz, q⟩ := h
  cases rx
  obtain ⟨u, rfl, ru⟩ := rv.one
  cases ru
  obtain ⟨z, its, n, r, hl, e⟩ := I.lstM hH
  obtain ⟨z2, its2, n2, r2, hl2, e2⟩ := I.lstM hB
  have hsz : its.toArray.size + its2.toArray.size ≤ sizeLine := by rw [List.size_toArray, List.size_toArray]; omega
  have hlong : ¬ (!its.toArray.isEmpty && Builtin.List.listTooLong (its.toArray.size + its2.toArray.size)) = true := by
    rw [notLongL hsz, Bool.and_false]
    exact Bool.false_ne_true
  refine call_meets F.slot_list_extend ⟨_, e, rfl⟩ F.entry_list_extend (F.args_list_extend_2 _ _)
    (AutoSeq1.list_extend_list_list_0 l its.toArray n b its2.toArray n2 hlong (by rw [List.size_toArray]; omega) (by omega)) ⟨e, e2, ?_⟩
  refine ⟨.non, _, I.lset (its' := its ++ its2) hH e (by simp) (r.append r2) ?_, rfl, q⟩
  rw [List.length_append]
  omega
def rCat : R2 := fun x y H Q => ∃ l b xs zs, x = .ref l ∧ y = .ref b ∧ H l = some (.lst xs) ∧ H b = some (.lst zs) ∧ xs.length + zs.length ≤ sizeLine ∧ ∀ p, H p = none → Q (.ref p) (upd H p (.lst (xs ++ zs)))
theorem op_cat : OpR X (binaryOp .Add) rCat := by
  intro pins s σ H x y v u Q I rx ry h
  obtain ⟨l, b, xs, zs, rfl, rfl, hH, hB, hz, q⟩ := h
  cases rx
  cases ry
  obtain ⟨z, its, n, r, hl, e⟩ := I.lstM hH
  obtain ⟨z2, its2, n2, r2, hl2, e2⟩ := I.lstM hB
  refine PySem.P.add_list e e2 ?_ (by rw [List.size_toArray, List.size_toArray]; omega)
  have ea : its.toArray ++ its2.toArray = (its ++ its2).toArray := by simp
  rw [ea]
  exact ⟨.ref _, _, I.lnew (t' := s.toks) (r.append r2) (by rw [List.length_append]; omega), rfl, q _ I.fresh⟩
end
section
variable {prog : Program} {w : World} {A : Around} {E : Value → Shared → Prop} {s : Shared}
end
section
variable {X : Cx}
end
end L2
namespace L2
open PySem PySem.Spec PyProof.Rows
section
variable {κ : Type} [DecidableEq κ]
def valV (kvs : List (κ × V)) (k : κ) : Option V := (kvs.find? fun kv => decide (kv.1 = k)).map (·.2)
def putK (kvs : List (κ × V)) (k : κ) (v : V) : List (κ × V) :=
  if (kvs.any fun kv => decide (kv.1 = k)) = true then kvs.map (fun kv => if kv.1 = k then (kv.1, v) else kv) else kvs ++ [(k, v)]
def dropK (kvs : List (κ × V)) (k : κ) : List (κ × V) := kvs.filter fun kv => decide (kv.1 ≠ k)
theorem valV_pos {p : κ × V} {r : List (κ × V)} {k : κ} (e : p.1 = k) : valV (p :: r) k = some p.2 := by simp [valV, List.find?_cons, e]
theorem valV_neg {p : κ × V} {r : List (κ × V)} {k : κ} (e : ¬ p.1 = k) : valV (p :: r) k = valV r k := by simp [valV, List.find?_cons, e]
theorem valV_any (k : κ) : ∀ kvs : List (κ × V), (kvs.any fun kv => decide (kv.1 = k)) = (valV kvs k).isSome
  | [] => rfl
  | p :: r => by
    rw [List.any_cons]
    by_cases e : p.1 = k
    · simp only [valV_pos e, decide_eq_true e, Bool.true_or, Option.isSome_some]
    · rw [valV_neg e, decide_eq_false e, Bool.false_or]; exact valV_any k r
theorem valV_map (k j : κ) (y : V) : ∀ kvs : List (κ × V), valV (kvs.map fun kv => if kv.1 = k then (kv.1, y) else kv) j = (valV kvs j).map fun x => if j = k then y else x
  | [] => rfl
  | p :: r => by
    have ih := valV_map k j y r
    rw [List.map_cons]
    by_cases h : p.1 = k
    · rw [if_pos h]
      by_cases e : p.1 = j
      · rw [valV_pos (p := (p.1, y)) e, valV_pos e, Option.map_some, if_pos (e.symm.trans h)]
      · rw [valV_neg (p := (p.1, y)) e, valV_neg e, ih]
    · rw [if_neg h]
      by_cases e : p.1 = j
      · rw [valV_pos (p := p) e, valV_pos e, Option.map_some, if_neg (fun z => h (e.trans z))]
      · rw [valV_neg (p := p) e, valV_neg e, ih]
theorem valV_snoc (k j : κ) (y : V) : ∀ kvs : List (κ × V), valV kvs k = none → valV (kvs ++ [(k, y)]) j = if j = k then some y else valV kvs j
  | [], _ => by
    by_cases e : k = j
    · rw [if_pos e.symm]; exact valV_pos (p := (k, y)) e
    · rw [if_neg (fun z => e z.symm)]; exact valV_neg (p := (k, y)) e
  | p :: r, hn => by
    rw [List.cons_append]
    have hk : ¬ p.1 = k := fun z => by rw [valV_pos z] at hn; cases hn
    rw [valV_neg hk] at hn
    have ih := valV_snoc k j y r hn
    by_cases e : p.1 = j
    · rw [valV_pos e, valV_pos e, if_neg (fun z => hk (e.trans z))]
    · rw [valV_neg e, valV_neg e, ih]
theorem valV_put (kvs : List (κ × V)) (k j : κ) (y : V) : valV (putK kvs k y) j = if j = k then some y else valV kvs j := by
  unfold putK
  by_cases a : (kvs.any fun kv => decide (kv.1 = k)) = true
  · rw [if_pos a, valV_map]
    rw [valV_any] at a
    by_cases e : j = k
    · obtain ⟨x, hx⟩ := Option.isSome_iff_exists.mp a
      rw [if_pos e, e, hx, Option.map_some, if_pos rfl]
    · rw [if_neg e]
      cases valV kvs j with
      | none => rfl
      | some x => rw [Option.map_some, if_neg e]
  · rw [if_neg a]
    refine valV_snoc k j y kvs ?_
    rw [valV_any] at a
    cases q : valV kvs k with
    | none => rfl
    | some x => rw [q] at a; exact (a rfl).elim
theorem length_putK (kvs : List (κ × V)) (k : κ) (v : V) : (putK kvs k v).length ≤ kvs.length + 1 := by
  unfold putK
  split
  · rw [List.length_map]; omega
  · rw [List.length_append, List.length_cons, List.length_nil]; omega
theorem RelO.isSome_eq {o : Option V} {u : Option Value} (r : RelO o u) : o.isSome = u.isSome := by
  cases o with
  | none => cases u with
    | none => rfl
    | some _ => exact (show False from r).elim
  | some _ => cases u with
    | none => exact (show False from r).elim
    | some _ => rfl
theorem RelO.getD {o : Option V} {u : Option Value} {d : V} {d' : Value} (r : RelO o u) (rd : RelV d d') : RelV (o.getD d) (u.getD d') := by
  cases o with
  | none => cases u with
    | none => exact rd
    | some _ => exact (show False from r).elim
  | some _ => cases u with
    | none => exact (show False from r).elim
    | some _ => exact r
theorem KV.val {kvs : List (κ × V)} {vs : List (κ × Value)} (r : KV kvs vs) (k : κ) : RelO (valV kvs k) (valueAt vs k) := by
  unfold KV at r
  induction r with
  | nil => exact True.intro
  | @cons p q ps qs h t ih =>
    obtain ⟨h1, h2⟩ := h
    by_cases e : p.1 = k
    · have e' : q.1 = k := h1.symm.trans e
      have b : valueAt (q :: qs) k = some q.2 := by simp [valueAt, List.find?_cons, e']
      rw [valV_pos e, b]; exact h2
    · have e' : ¬ q.1 = k := fun z => e (h1.trans z)
      have b : valueAt (q :: qs) k = valueAt qs k := by simp [valueAt, List.find?_cons, e']
      rw [valV_neg e, b]; exact ih
theorem KV.any {kvs : List (κ × V)} {vs : List (κ × Value)} (r : KV kvs vs) (k : κ) : (kvs.any fun kv => decide (kv.1 = k)) = vs.any fun kv => decide (kv.1 = k) := by
  unfold KV at r
  induction r with
  | nil => rfl
  | cons h t ih => rw [List.any_cons, List.any_cons, ih, h.1]
theorem KV.repl {kvs : List (κ × V)} {vs : List (κ × Value)} (r : KV kvs vs) (k : κ) {y : V} {u : Value} (ry : RelV y u) :
    KV (kvs.map fun kv => if kv.1 = k then (kv.1, y) else kv) (vs.map fun kv => if kv.1 = k then (kv.1, u) else kv) := by
  unfold KV at r ⊢
  induction r with
  | nil => exact .nil
  | @cons p q ps qs h t ih =>
    rw [List.map_cons, List.map_cons]
    refine .cons ?_ ih
    obtain ⟨h1, h2⟩ := h
    by_cases e : p.1 = k
    · rw [if_pos e, if_pos (h1.symm.trans e)]; exact ⟨h1, ry⟩
    · rw [if_neg e, if_neg (fun z => e (h1.trans z))]; exact ⟨h1, h2⟩
theorem KV.put {kvs : List (κ × V)} {vs : List (κ × Value)} (r : KV kvs vs) (k : κ) {y : V} {u : Value} (ry : RelV y u) : KV (putK kvs k y) (stored vs k u) := by
  unfold putK stored
  rw [r.any k]
  by_cases e : (vs.any fun kv => decide (kv.1 = k)) = true
  · rw [if_pos e, if_pos e]; exact r.repl k ry
  · rw [if_neg e, if_neg e]; exact Paired.snoc r ⟨rfl, ry⟩
theorem KV.drop {kvs : List (κ × V)} {vs : List (κ × Value)} (r : KV kvs vs) (k : κ) : KV (dropK kvs k) (without vs k) := by
  unfold KV at r ⊢
  unfold dropK without
  induction r with
  | nil => exact .nil
  | @cons p q ps qs h t ih =>
    obtain ⟨h1, h2⟩ := h
    rw [List.filter_cons, List.filter_cons]
    by_cases e : p.1 = k
    · have a : ¬ decide (p.1 ≠ k) = true := by simp [e]
      have b : ¬ decide (q.1 ≠ k) = true := by simp [h1.symm.trans e]
      rw [if_neg a, if_neg b]; exact ih
    · have e' : ¬ q.1 = k := fun z => e (h1.trans z)
      have a : decide (p.1 ≠ k) = true := by simp [e]
      have b : decide (q.1 ≠ k) = true := by simp [e']
      rw [if_pos a, if_pos b]; exact .cons ⟨h1, h2⟩ ih
theorem KV.keys {kvs : List (κ × V)} {vs : List (κ × Value)} (r : KV kvs vs) : kvs.map (·.1) = vs.map (·.1) := by
  unfold KV at r
  induction r with
  | nil => rfl
  | cons h t ih => rw [List.map_cons, List.map_cons, ih, h.1]
theorem KV.length {kvs : List (κ × V)} {vs : List (κ × Value)} (r : KV kvs vs) : kvs.length = vs.length := Paired.length r
end
theorem kV_is {P : Program} {w : World} {k : Key} {u : Value} (r : RelV (kV k) u) : (mixKind P w).is k u = true := by
  cases k with
  | inl i => obtain ⟨t, e⟩ := (show ∃ t, u = Value.int i t from r); subst e; exact mixKind_int P w i t
  | inr x => obtain ⟨t, e⟩ := (show ∃ t, u = Value.str x t from r); subst e; exact mixKind_str P w x t
theorem items_are {P : Program} {w : World} : ∀ {ks : List Key} {us : List Value}, Vals (ks.map kV) us → ItemsAre (mixKind P w) ks us
  | [], _, r => by rw [List.map_nil] at r; cases r; exact .nil
  | k :: ks, _, r => by
    rw [List.map_cons] at r
    cases r with
    | cons h t => exact .cons (kV_is h) (items_are t)
abbrev KT (H : Hp) : List (List Key × V) → List (List Key × Addr × Value) → Prop := Paired fun p q => p.1 = q.1 ∧ H q.2.1 = some (.tup (p.1.map kV)) ∧ RelV p.2 q.2.2
theorem KT.val {H : Hp} {kvs : List (List Key × V)} {xs : List (List Key × Addr × Value)} (r : KT H kvs xs) (k : List Key) : RelO (valV kvs k) ((atKey xs k).map (·.2)) := by
  induction r with
  | nil => exact True.intro
  | @cons p q ps qs h t ih =>
    obtain ⟨h1, _, h2⟩ := h
    by_cases e : p.1 = k
    · have e' : q.1 = k := h1.symm.trans e
      have b : atKey (q :: qs) k = some q.2 := by simp [atKey, List.find?_cons, e']
      rw [valV_pos e, b]; exact h2
    · have e' : ¬ q.1 = k := fun z => e (h1.trans z)
      have b : atKey (q :: qs) k = atKey qs k := by simp [atKey, List.find?_cons, e']
      rw [valV_neg e, b]; exact ih
theorem KT.repl {H : Hp} {kvs : List (List Key × V)} {xs : List (List Key × Addr × Value)} (r : KT H kvs xs) (k : List Key) {y : V} {u : Value} (ry : RelV y u) :
    KT H (kvs.map fun kv => if kv.1 = k then (kv.1, y) else kv) (xs.map (putAt k u)) := by
  induction r with
  | nil => exact .nil
  | @cons p q ps qs h t ih =>
    rw [List.map_cons, List.map_cons]
    refine .cons ?_ ih
    obtain ⟨h1, h2, h3⟩ := h
    unfold putAt
    by_cases e : p.1 = k
    · rw [if_pos e, if_pos (h1.symm.trans e)]; exact ⟨h1, h2, ry⟩
    · rw [if_neg e, if_neg (fun z => e (h1.trans z))]; exact ⟨h1, h2, h3⟩
theorem KT.put {H : Hp} {kvs : List (List Key × V)} {xs : List (List Key × Addr × Value)} (r : KT H kvs xs) (k : List Key) {b : Addr} {y : V} {u : Value} (hb : H b = some (.tup (k.map kV))) (ry : RelV y u) :
    KT H (putK kvs k y) (storedH xs k b u) := by
  have e : (kvs.any fun kv => decide (kv.1 = k)) = (atKey xs k).isSome := by
    rw [valV_any, (r.val k).isSome_eq, Option.isSome_map]
  unfold putK storedH
  rw [e]
  by_cases q : (atKey xs k).isSome = true
  · rw [if_pos q, if_pos q]; exact r.repl k ry
  · rw [if_neg q, if_neg q]; exact Paired.snoc r ⟨rfl, hb, ry⟩
theorem KT.keeps {H H' : Hp} {kvs : List (List Key × V)} {xs : List (List Key × Addr × Value)} (r : KT H kvs xs) (ht : ∀ b ys, H b = some (.tup ys) → H' b = some (.tup ys)) : KT H' kvs xs :=
  Paired.mapP r fun _ _ z => ⟨z.1, ht _ _ z.2.1, z.2.2⟩
section
variable {P : Program} {w : World} {H : Hp} {h : Heap} {a : Addr}
theorem rd_of {u : HO} (ok : HOk P w H h) (e : Rd H a u) : ObjOk P w H h a u := e.ok ok
theorem dk_rd {kvs : List (Key × V)} (ok : HOk P w H h) (e : Rd H a (.dK kvs)) : kvs.length ≤ sizeLine ∧ (a == sysModules) = false ∧ ∃ vs, KV kvs vs ∧ h.DictOf (mixKind P w) a vs :=
  show ObjOk P w H h a (.dK kvs) from rd_of ok e
theorem dk_of {kvs : List (Key × V)} (ok : HOk P w H h) (e : H a = some (.dK kvs)) : kvs.length ≤ sizeLine ∧ (a == sysModules) = false ∧ ∃ vs, KV kvs vs ∧ h.DictOf (mixKind P w) a vs := dk_rd ok (.inl e)
theorem key_of {ks : List Key} (ok : HOk P w H h) (e : H a = some (.tup (ks.map kV))) : (tupleKind (mixKind P w)).is h ks a := by
  obtain ⟨_, its, r, o, h1, h2, n, h3⟩ := (show ObjOk P w H h a (.tup (ks.map kV)) from ok a _ e)
  exact ⟨o, its.toArray, n, h1, h2, h3, by simpa using items_are r⟩
theorem dt_rd {kvs : List (List Key × V)} (ok : HOk P w H h) (e : Rd H a (.dT kvs)) : kvs.length ≤ sizeLine ∧ (a == sysModules) = false ∧
    ∃ xs, KT H kvs xs ∧ h.DictOfH (tupleKind (mixKind P w)) a xs := by
  obtain ⟨z, y, xs, r, o, es, ep, h1, h2, h3, h4, h5⟩ := (show ObjOk P w H h a (.dT kvs) from rd_of ok e)
  refine ⟨z, y, xs, r, o, es, ep, h1, h2, h3, h4, fun x hx => ?_, h5⟩
  have all : ∀ {l : List (List Key × V)} {m : List (List Key × Addr × Value)}, KT H l m → ∀ x ∈ m, (tupleKind (mixKind P w)).is h x.1 x.2.1 := by
    intro l m q
    induction q with
    | nil => intro x hx; exact nomatch hx
    | @cons p q ps qs hq t ih =>
      intro x hx
      rcases List.mem_cons.mp hx with e | hx
      · subst e
        exact key_of ok (by rw [← hq.1]; exact hq.2.1)
      · exact ih x hx
  exact all r x hx
theorem dt_of {kvs : List (List Key × V)} (ok : HOk P w H h) (e : H a = some (.dT kvs)) : kvs.length ≤ sizeLine ∧ (a == sysModules) = false ∧
    ∃ xs, KT H kvs xs ∧ h.DictOfH (tupleKind (mixKind P w)) a xs := dt_rd ok (.inl e)
end
def DGet (H : Hp) (a : Addr) (y : V) (r : Option V) : Prop :=
  (∃ kvs k, Rd H a (.dK kvs) ∧ y = kV k ∧ r = valV kvs k) ∨ ∃ kvs k b, Rd H a (.dT kvs) ∧ y = .ref b ∧ H b = some (.tup (k.map kV)) ∧ r = valV kvs k
def DPut (H : Hp) (a : Addr) (y v : V) (H' : Hp) : Prop :=
  (∃ kvs k, H a = some (.dK kvs) ∧ y = kV k ∧ kvs.length < sizeLine ∧ H' = upd H a (.dK (putK kvs k v))) ∨
  ∃ kvs k b, H a = some (.dT kvs) ∧ y = .ref b ∧ H b = some (.tup (k.map kV)) ∧ kvs.length < sizeLine ∧ H' = upd H a (.dT (putK kvs k v))
theorem DGet.k {H : Hp} {a : Addr} {kvs : List (Key × V)} {k : Key} (e : H a = some (.dK kvs)) : DGet H a (kV k) (valV kvs k) := .inl ⟨kvs, k, .inl e, rfl, rfl⟩
theorem DGet.t {H : Hp} {a b : Addr} {kvs : List (List Key × V)} {k : List Key} (e : H a = some (.dT kvs)) (eb : H b = some (.tup (k.map kV))) : DGet H a (.ref b) (valV kvs k) := .inr ⟨kvs, k, b, .inl e, rfl, eb, rfl⟩
theorem DPut.k {H : Hp} {a : Addr} {kvs : List (Key × V)} {k : Key} {v : V} (e : H a = some (.dK kvs)) (hl : kvs.length < sizeLine) : DPut H a (kV k) v (upd H a (.dK (putK kvs k v))) := .inl ⟨kvs, k, e, rfl, hl, rfl⟩
theorem DPut.t {H : Hp} {a b : Addr} {kvs : List (List Key × V)} {k : List Key} {v : V} (e : H a = some (.dT kvs)) (eb : H b = some (.tup (k.map kV))) (hl : kvs.length < sizeLine) :
    DPut H a (.ref b) v (upd H a (.dT (putK kvs k v))) := .inr ⟨kvs, k, b, e, rfl, eb, hl, rfl⟩
section
variable {X : Cx} {pins : List (Addr × Obj)} {σ : St} {H : Hp} {s : Shared} {a : Addr} {y v : V} {u r : Value} {o : Option V} {A : Around} {E : Value → Shared → Prop}
theorem Inv.big (I : Inv X pins σ H s) : sysModules < s.heap.objs.size := by
  have h : mainGlobals < s.heap.objs.size := (I.mod.glob.keeps I.bk).lt
  exact Nat.lt_trans (by decide) h
theorem d_getItem {Q : Value → Shared → Prop} (hu : A.units + 1 < cLine) (I : Inv X pins σ H s) (g : DGet H a y (some v)) (ry : RelV y u) (h : ∀ w' s', Inv X pins σ H s' → RelV v w' → Q w' s') :
    wpAny (model X.prog X.w) A (getItem (.ref a) u) Q E s := by
  rcases g with ⟨kvs, k, e, ey, l⟩ | ⟨kvs, k, b, e, ey, eb, l⟩
  · subst ey
    obtain ⟨z, hd, vs, rel, dd⟩ := dk_rd I.hok e
    obtain ⟨w', hw, rw'⟩ := RelO.some_of (v := v) (o := valueAt vs k) (by rw [l]; exact rel.val k)
    exact wpAny_getItem_of (kV_is ry) dd.mapOf hw (h w' _ (I.tok _) rw')
  · subst ey
    cases (show u = Value.ref b from ry)
    obtain ⟨z, hd, xs, rel, dd⟩ := dt_rd I.hok e
    obtain ⟨w', hw, rw'⟩ := RelO.some_of (v := v) (o := (atKey xs k).map (·.2)) (by rw [l]; exact rel.val k)
    obtain ⟨p, hp, hp2⟩ := Option.map_eq_some_iff.mp hw
    refine wpAny_getItem_heap (tupleKind_room_in1 hu) (key_of I.hok eb) dd hp ?_
    rw [hp2]
    exact h w' _ (I.tok _) rw'
theorem d_write {h' : Heap} {t' : Nat} {ob : HO} (I : Inv X pins σ H s) (mu : Mut (H a)) (hs : Heap.SameBut a s.heap h') (he : ∃ q, h'.get? a = some q) (new : ObjOk X.prog X.w (upd H a ob) h' a ob) :
    Inv X pins σ (upd H a ob) { s with heap := h', toks := t' } :=
  I.write (x := a) (e := a) mu (.inl rfl) (fun b q hb z => (hs.2 b hb).trans z) he new
theorem dk_new {P : Program} {w : World} {H' : Hp} {h' : Heap} {kvs : List (Key × V)} {vs : List (Key × Value)} (z : kvs.length ≤ sizeLine) (hd : (a == sysModules) = false) (rel : KV kvs vs) (dd : h'.DictOf (mixKind P w) a vs) :
    ObjOk P w H' h' a (.dK kvs) := ⟨z, hd, vs, rel, dd⟩
theorem d_setItem {H' : Hp} {Q : Unit → Shared → Prop} (hu : A.units + 1 < cLine) (I : Inv X pins σ H s) (g : DPut H a y v H') (ry : RelV y u) (rv : RelV v r) (h : ∀ s', Inv X pins σ H' s' → Q () s') :
    wpAny (model X.prog X.w) A (setItem (.ref a) u r) Q E s := by
  rcases g with ⟨kvs, k, e, ey, l, eH⟩ | ⟨kvs, k, b, e, ey, eb, l, eH⟩
  · subst ey eH
    obtain ⟨z, hd, vs, rel, dd⟩ := dk_of I.hok e
    have hz : vs.length ≤ sizeLine := by rw [← rel.length]; exact z
    have hl : (putK kvs k v).length ≤ sizeLine := by have := length_putK kvs k v; omega
    refine wpAny_setItem_pairs (hsz := hz) (kV_is ry) dd fun h' dd' hs => h _ ?_
    have he : ∃ q, h'.get? a = some q := let ⟨q, _, _, hq, _⟩ := dd'; ⟨q, hq⟩
    exact d_write I (by rw [e]; exact True.intro) hs he (dk_new hl hd (rel.put k rv) dd')
  · subst ey eH
    cases (show u = Value.ref b from ry)
    obtain ⟨z, hd, xs, rel, dd⟩ := dt_of I.hok e
    have hz : xs.length ≤ sizeLine := by rw [← Paired.length rel]; exact z
    have hl : (putK kvs k v).length ≤ sizeLine := by have := length_putK kvs k v; omega
    refine wpAny_setItem_heap (hsz := hz) (tupleKind_room_in1 hu) (key_of I.hok eb) dd fun h' dd' hs => h _ ?_
    obtain ⟨q, es, ep, hq, h2, h3, h4, _, h5⟩ := dd'
    refine d_write I (by rw [e]; exact True.intro) hs ⟨q, hq⟩ ⟨hl, hd, _, (rel.put k eb rv).keeps fun c ys ec => ?_, q, es, ep, hq, h2, h3, h4, h5⟩
    rw [upd_ne (ne_of ec e (fun z => nomatch z))]
    exact ec
end
section
variable {X : Cx} {pins : List (Addr × Obj)} {σ : St} {H : Hp} {s : Shared} {a : Addr} {kvs : List (Key × V)} {k : Key} {u : Value} {A : Around} {E : Value → Shared → Prop}
end
def NoSl (i : Expr) : Prop := ∀ ov iv, subscripted i false ov iv = operate [ov, iv] (getItem ov iv)
theorem subD_of {prog : Program} {w : World} {A : Around} {E : Value → Shared → Prop} {s : Shared} {env : Env} {value slice : Expr} {pos : Pos} {T id : String} {Q : Value → Shared → Prop}
    (hl : typeLookup (.type T) "__getitem__" = pure (some (.builtin id))) (hs : NoSl slice)
    (h : wpAny (model prog w) A (eval value env) (fun o s₁ => wpAny (model prog w) A (eval slice env) (fun i s₂ => s₂.TypeIs o T ∧ wpAny (model prog w) A (getItem o i) Q E s₂) E s₁) E s) :
    wpAny (model prog w) A (eval (.Subscript value slice pos) env) Q E s := by
  refine Subscript_ (wpAny_mono h (fun o s₁ h₁ => wpAny_mono h₁ (fun i s₂ h₂ => ?_) fun _ _ x => x) fun _ _ x => x)
  obtain ⟨hT, h₂⟩ := h₂
  unfold subscriptTail
  refine wpAny_bind ?_
  rw [getitemInPython_of_ne hT.not_modules]
  refine wpAny_bind (wpAny_specialOf hT hl ?_)
  have fin : wpAny (model prog w) A (subscripted slice false o i) (fun r s₃ => wpAny (model prog w) A (letTemporaryGo value o r >>= fun _ => pure r) Q E s₃) E s₂ := by
    rw [hs o i]
    exact wpAny_operating (wpAny_mono h₂ (fun r s₃ h₃ => wpAny_bind (wpAny_letTemporaryGo (wpAny_pure h₃))) fun _ _ x => x)
  first
    | exact wpAny_pure (wpAny_bind fin)
    | exact wpAny_bind (wpAny_pure (wpAny_bind fin))
    | exact wpAny_bind fin
theorem dict_typeIs {X : Cx} {pins : List (Addr × Obj)} {σ : St} {H : Hp} {s : Shared} {a : Addr} {y : V} {o : Option V} (I : Inv X pins σ H s) (g : DGet H a y o) : s.TypeIs (.ref a) "dict" := by
  rcases g with ⟨kvs, k, e, _, _⟩ | ⟨kvs, k, b, e, _, _, _⟩
  · obtain ⟨_, _, vs, _, dd⟩ := dk_rd I.hok e
    exact dd.typeIs
  · obtain ⟨_, _, xs, _, dd⟩ := dt_rd I.hok e
    exact dd.typeIs
def tDGet (td ty : TE) : TE := fun σ H Q => td σ H fun x H1 => ty σ H1 fun y H2 => ∃ a v, x = .ref a ∧ DGet H2 a y (some v) ∧ Q v H2
def sDPut (td ty tv : TE) : TS := fun D σ H => tv σ H fun v H1 => td σ H1 fun x H2 => ty σ H2 fun y H3 => ∃ a H4, x = .ref a ∧ DPut H3 a y v H4 ∧ D.nx σ H4
section
variable {X : Cx} {o i e value : Expr} {pos pos' tpos : Pos} {td ty tv : TE}
theorem pe_dget (hu : X.A.units + 1 < cLine) (ho : PE X o td) (hi : PE X i ty) (hs : NoSl i) : PE X (.Subscript o i pos) (tDGet td ty) := by
  intro pins s σ H Q I h
  refine subD_of PySem.F.slot_dict_getitem.lookup hs (thn (ho pins s σ H _ I h) fun u s1 ⟨x, H1, I1, rx, q1⟩ => thn (hi pins s1 σ H1 _ I1 q1) fun iv s2 ⟨y, H2, I2, ry, a, v, ex, g, q2⟩ => ?_)
  subst ex
  obtain rfl : u = Value.ref a := rx
  exact ⟨dict_typeIs I2 g, d_getItem hu I2 g ry fun w' s3 I3 rw' => ⟨v, H2, I3, rw', q2⟩⟩
theorem ps_dput (hu : X.A.units + 1 < cLine) (ho : PE X o td) (hi : PE X i ty) (hv : PE X value tv) (hs : swapsWith value (some (.Subscript o i pos')) pos.line X.env = pure false) :
    PS X (.Assign [.Subscript o i pos'] value pos) (sDPut td ty tv) := by
  intro pins s σ H D I h
  refine wpAny_Assign_Subscript (thn (hv pins s σ H _ I h) fun r s1 ⟨v, H1, I1, rv, q1⟩ => thn (ho pins s1 σ H1 _ I1 q1) fun u s2 ⟨x, H2, I2, rx, q2⟩ => thn (hi pins s2 σ H2 _ I2 q2) fun iv s3 ⟨y, H3, I3, ry, a, H4, ex, g, q3⟩ => ?_) hs
  subst ex
  obtain rfl : u = Value.ref a := rx
  exact d_setItem hu I3 g ry rv fun s4 I4 => ⟨σ, H4, I4, q3⟩
end
theorem dk_empty {P : Program} {w : World} {H : Hp} (h : Heap) (hb : sysModules < h.objs.size) : ObjOk P w H (h.push { cls := .type "dict", data := .dict #[] }) h.objs.size (.dK []) :=
  ⟨Nat.zero_le _, beq_eq_false_iff_ne.mpr (Ne.symm (Nat.ne_of_lt hb)), [], .nil, Heap.DictOf.new h⟩
theorem dt_empty {P : Program} {w : World} {H : Hp} (h : Heap) (hb : sysModules < h.objs.size) : ObjOk P w H (h.push { cls := .type "dict", data := .dict #[] }) h.objs.size (.dT []) :=
  ⟨Nat.zero_le _, beq_eq_false_iff_ne.mpr (Ne.symm (Nat.ne_of_lt hb)), [], .nil, _, #[], 0, Heap.get?_push_size _ rfl, ⟨rfl, rfl, rfl⟩, rfl, rfl, List.nodup_nil⟩
def tDNewK : TE := fun _ H Q => ∀ p, H p = none → Q (.ref p) (upd H p (.dK []))
def tDNewT : TE := fun _ H Q => ∀ p, H p = none → Q (.ref p) (upd H p (.dT []))
section
variable {X : Cx} {pos : Pos}
theorem pe_dnewK : PE X (.Dict [] [] pos) tDNewK := fun pins s σ H Q I h =>
  wpAny_Dict_empty ⟨.ref s.heap.objs.size, _, I.laid (a := s.heap.objs.size) (o := .dK []) (t' := s.toks) (fun _ _ q => Heap.get?_push_of_some _ q) (Nat.le_refl _) (dk_empty s.heap I.big), rfl, h _ (I.hok.fresh (Nat.le_refl _))⟩
theorem pe_dnewT : PE X (.Dict [] [] pos) tDNewT := fun pins s σ H Q I h =>
  wpAny_Dict_empty ⟨.ref s.heap.objs.size, _, I.laid (a := s.heap.objs.size) (o := .dT []) (t' := s.toks) (fun _ _ q => Heap.get?_push_of_some _ q) (Nat.le_refl _) (dt_empty s.heap I.big), rfl, h _ (I.hok.fresh (Nat.le_refl _))⟩
end
def mergeK (kvs more : List (Key × V)) : List (Key × V) := more.foldl (fun acc kv => putK acc kv.1 kv.2) kvs
theorem KV.merge : ∀ {more : List (Key × V)} {rs : List (Key × Value)} {kvs : List (Key × V)} {vs : List (Key × Value)}, KV more rs → KV kvs vs → KV (mergeK kvs more) (merged vs rs) := by
  intro more rs kvs vs r
  unfold KV at r
  induction r generalizing kvs vs with
  | nil => intro q; exact q
  | @cons p q ps qs h t ih =>
    intro r0
    have e : KV (putK kvs p.1 p.2) (stored vs q.1 q.2) := by
      have := r0.put p.1 h.2
      rw [← h.1]; exact this
    exact ih e
structure M1 (X : Cx) (o : Expr) (m : Str) (apos : Pos) (e : Expr) (cpos : Pos) : Prop where
  base : attributeBase o m X.env (eval o X.env) = eval o X.env
  few : ((backTo cpos (starEach [e] X.env)).all (fun x => !x.1) && (backToKw cpos (keywordEach [] X.env)).all (fun x => x.1.isSome)
    && decide (([e] : List Expr).length + ([] : List Keyword).length + (if ([] : List Keyword).isEmpty then 0 else 1) < 30)) = true
  line : (apos.endLine == cpos.line) = true
  trees : backTo cpos (starEach [e] X.env) = [(false, eval e X.env)]
structure M2 (X : Cx) (o : Expr) (m : Str) (apos : Pos) (e f : Expr) (cpos : Pos) : Prop where
  base : attributeBase o m X.env (eval o X.env) = eval o X.env
  few : ((backTo cpos (starEach [e, f] X.env)).all (fun x => !x.1) && (backToKw cpos (keywordEach [] X.env)).all (fun x => x.1.isSome)
    && decide (([e, f] : List Expr).length + ([] : List Keyword).length + (if ([] : List Keyword).isEmpty then 0 else 1) < 30)) = true
  line : (apos.endLine == cpos.line) = true
  trees : backTo cpos (starEach [e, f] X.env) = [(false, eval e X.env), (false, eval f X.env)]
def IsD (H : Hp) (a : Addr) : Prop := (∃ kvs, Rd H a (.dK kvs)) ∨ ∃ kvs, Rd H a (.dT kvs)
theorem isD_at {X : Cx} {pins : List (Addr × Obj)} {σ : St} {H : Hp} {s : Shared} {a : Addr} (I : Inv X pins σ H s) (d : IsD H a) :
    s.TypeIs (.ref a) "dict" ∧ (∀ b, Value.ref a = .ref b → ∃ ob, s.heap.get? b = some ob ∧ ob.dict = none) ∧ (a == sysModules) = false := by
  rcases d with ⟨kvs, e⟩ | ⟨kvs, e⟩
  · obtain ⟨_, hd, vs, _, dd⟩ := dk_rd I.hok e
    refine ⟨dd.typeIs, fun b q => ?_, hd⟩
    cases q
    obtain ⟨ob, _, _, h1, h2, _⟩ := dd
    exact ⟨ob, h1, h2.2.1⟩
  · obtain ⟨_, hd, xs, _, dd⟩ := dt_rd I.hok e
    refine ⟨dd.typeIs, fun b q => ?_, hd⟩
    cases q
    obtain ⟨ob, _, _, h1, h2, _⟩ := dd
    exact ⟨ob, h1, h2.2.1⟩
section
variable {X : Cx} {pins : List (Addr × Obj)} {σ : St} {H : Hp} {s : Shared} {a : Addr} {y d : V} {u r : Value} {o : Option V} {A : Around} {E : Value → Shared → Prop}
theorem d_get2 {Q : Value → Shared → Prop} (hu : A.units + 1 < cLine) (I : Inv X pins σ H s) (g : DGet H a y o) (ry : RelV y u) (rd : RelV d r) (h : ∀ w' s', Inv X pins σ H s' → RelV (o.getD d) w' → Q w' s') :
    wpAny (model X.prog X.w) A (call (.builtin "dict.get") [.ref a, u, r]) Q E s := by
  rcases g with ⟨kvs, k, e, ey, l⟩ | ⟨kvs, k, b, e, ey, eb, l⟩
  · subst ey
    obtain ⟨z, hd, vs, rel, dd⟩ := dk_rd I.hok e
    refine call_meetsIn PySem.F.slot_dict_get dd.typeIs PySem.F.entry_dict_get (PySem.F.args_dict_get_3 _ _ _) (meets_dict_get_default (mixKind X.prog X.w) a (kV_is ry) hd r) ⟨_, dd.mapOf, h _ _ (I.tok _) ?_⟩
    rw [l]
    exact (rel.val k).getD rd
  · subst ey
    cases (show u = Value.ref b from ry)
    obtain ⟨z, hd, xs, rel, dd⟩ := dt_rd I.hok e
    refine call_meetsIn PySem.F.slot_dict_get dd.typeIs PySem.F.entry_dict_get (PySem.F.args_dict_get_3 _ _ _) (meetsH_dict_get_default (tupleKind (mixKind X.prog X.w)) a b hd r) ⟨tupleKind_room_in1 hu, k, xs, key_of I.hok eb, dd, h _ _ (I.tok _) ?_⟩
    rw [l]
    exact (rel.val k).getD rd
end
def tDGet2 (td ty tx : TE) : TE := fun σ H Q => td σ H fun x H1 => ∃ a, x = .ref a ∧ IsD H1 a ∧ ty σ H1 fun y H2 => tx σ H2 fun z H3 => ∃ o, DGet H3 a y o ∧ Q (o.getD z) H3
section
variable {X : Cx} {o e f : Expr} {apos cpos : Pos} {td ty tx : TE}
theorem pe_dget2 (hu : X.A.units + 1 < cLine) (ho : PE X o td) (he : PE X e ty) (hf : PE X f tx) (m : M2 X o "get" apos e f cpos) : PE X (.Call (.Attribute o "get" apos) [e, f] [] cpos) (tDGet2 td ty tx) := by
  intro pins s σ H Q I h
  refine wpAny_Call_method m.base m.few m.line PySem.F.plainAttrs_dict PySem.F.slot_dict_get PySem.F.type_dict_get (thn (ho pins s σ H _ I h) fun u s1 ⟨x, H1, I1, rx, a, ex, d, q1⟩ => ?_)
  subst ex
  obtain rfl : u = Value.ref a := rx
  obtain ⟨t1, t2, _⟩ := isD_at I1 d
  refine ⟨t1, t2, ?_⟩
  rw [m.trees]
  refine Calls.callWith_builtin rfl (Calls.evalArgs_plain (Calls.spliced_cons (thn (he pins s1 σ H1 _ I1 q1) fun iv s2 ⟨y, H2, I2, ry, q2⟩ =>
    Calls.spliced_cons (thn (hf pins s2 σ H2 _ I2 q2) fun fv s3 ⟨z, H3, I3, rz, ov, g, q3⟩ => Calls.spliced_nil ?_))))
  exact d_get2 hu I3 g ry rz fun w' s4 I4 rw' => ⟨_, H3, I4, rw', q3⟩
end
section
variable {X : Cx} {pins : List (Addr × Obj)} {σ : St} {H : Hp} {s : Shared} {a : Addr} {kvs : List (Key × V)} {A : Around} {E : Value → Shared → Prop}
end
section
variable {X : Cx} {pins : List (Addr × Obj)} {σ : St} {H : Hp} {s : Shared} {a : Addr} {y : V} {u : Value} {A : Around} {E : Value → Shared → Prop}
end
end L2
namespace Att
open PySem PySem.W PySem.Calls PyProof.Rows
theorem ints_of_wellAll {P : Params} {h : Heap} : ∀ (ns : List Int) (vs : List Value), WellAll P h vs (ns.map WData.int) → IntsAre vs ns := by
  intro ns
  induction ns with
  | nil =>
    intro vs w
    rw [List.map_nil] at w
    cases w
    exact .nil
  | cons n ns ih =>
    intro vs w
    rw [List.map_cons] at w
    cases w with
    | cons a b =>
      cases a
      exact .cons _ _ (ih _ b)
theorem script_of {l : OpenLaw} {n : Nat} (hn : l.most = some n) {P : Params} {h : Heap} {args : List WData} {vals : List Value}
    (hpre : l.row.toRowW.claim.pre args = true) (hwl : WellAll P h vals args) :
    ∃ a vs ns, vals = [Value.ref a] ∧ args = [WData.list (ns.map WData.int)] ∧ h.get? a = some { cls := .type "list", data := .seq vs.toArray } ∧ IntsAre vs ns ∧ ns.length ≤ n := by
  have hsh : WShape.hasAll [] args [.list .int] = true := (pre_splitW hpre).1
  have hc : l.pre.holds [] { args := args } = true := (pre_splitW hpre).2
  obtain ⟨d, r, rfl, h1, h2⟩ := hasAllW_cons hsh
  obtain rfl := hasAllW_nil h2
  obtain ⟨xs, rfl, h3⟩ := hasW_list h1
  obtain ⟨ns, rfl⟩ := items_int h3
  have hlen : ns.length ≤ n := by
    unfold OpenLaw.pre at hc
    have h4 : (WTm.not (.lt (.lit (.int (n : Int))) (.len (.arg 0)))).holds [] { args := [.list (ns.map .int)] } = true := by
      have h4 := (holds_andW hc).1
      rw [hn] at h4
      exact h4
    have h5 := condW_of h4 (w_not (w_lt w_lit (w_len_list (w_arg rfl))))
    rw [List.length_map] at h5
    refine Nat.le_of_not_lt fun q => ?_
    have q' : (n : Int) < ((ns.length : Nat) : Int) := by omega
    first
      | (rw [decide_eq_true q'] at h5; exact absurd h5 (by decide))
      | (simp at h5; omega)
  cases hwl with
  | cons w1 w2 =>
    cases w2
    cases w1 with
    | list ho hall => exact ⟨_, _, ns, rfl, rfl, ho, ints_of_wellAll ns _ hall, hlen⟩
theorem post_true (l : OpenLaw) (args : List WData) : l.row.toRowW.claim.post args (.bool true) args = true :=
  postW_of (r := l.row.toRowW) (X := (true == true))
    (show WShape.has [] (.bool true) .bool = true by first | rfl | decide | simp [WShape.has, WShape.arms, WShape.armsAll])
    (show (WTm.eq .res (.lit (.bool true))).value [] { args := args, res := some (.bool true), after := args } = some (.bool (true == true)) from w_eq_bool (w_res rfl) w_lit) rfl
theorem attach_call {l : OpenLaw} {n : Nat} {q : Program} {loose : List Str} {XP : (Str → Option Value) → Heap → Prop} {YP : World → Heap → Prop} {d : DefRec}
    (hn : l.most = some n) (hdf : d.params.defaults = [])
    (call : ∀ (w : World) (s₀ s₁ : Shared) (mg mb : Str → Option Value) (fa : Addr) (o : Obj) (pm cd doc : Value) (a : Addr) (vs : List Value) (ns : List Int),
      Ground q loose [] XP w s₀ mg mb s₁.heap → YP w s₁.heap →
      s₁.heap.get? fa = some o → o.data = .func (docDef d.name d.params d.body d.scope pm cd doc) → s₁.heap.CodeRec cd d.name → mg d.name = some (.ref fa) →
      s₁.heap.get? a = some { cls := .type "list", data := .seq vs.toArray } → IntsAre vs ns → ns.length ≤ n → s₁.gens = #[] →
      codeAny (model l.prog w) callerA (.call (.ref fa) ⟨[.ref a], []⟩) (fun r s' => r = .ok (.ret (.bool true)) ∧ OldK s₁.heap s'.heap ∧ s'.os = s₁.os ∧ AllBare s'.gens) s₁) :
    WalkO q loose XP YP l.row.toRowW d [] (fun f vs => PySem.call f vs) := by
  intro w s₀ s₁ mg mb G Y fa o pm cd doc dV kV ho hd hcd hD hmg hg args vals as hpre hlay hrd hwl hlo
  obtain rfl : dV = .none := Dflts.none hD hdf
  obtain rfl : kV = .none := Dflts.noKw hD
  obtain ⟨a, vs, ns, rfl, rfl, hobj, hints, hlen⟩ := script_of hn hpre hwl
  refine enter_call (codeAny_mono (call w s₀ s₁ mg mb fa o pm cd doc a vs ns G Y ho (fd_plain hd) hcd hmg hobj hints hlen hg) fun r s' hq => ?_)
  obtain ⟨rfl, h2, h3, h4⟩ := hq
  exact ⟨.inl ⟨.bool true, .bool true, [], rfl, fun _ => rfl, .bool true, post_true l _, fun _ => ⟨List.Pairwise.nil, fun _ hm => (nomatch hm)⟩⟩, h2, h3, h4⟩
section
variable {prog : Program} {w : World} {A : Around} {E : Value → Shared → Prop} {s : Shared} {K : Frag}
end
end Att
namespace L2
open PySem PySem.Spec PyProof.Rows
theorem vals_ints : ∀ {vs : List Value} {ns : List Int}, IntsAre vs ns → Vals (ns.map V.int) vs
  | _, _, .nil => .nil
  | _, _, .cons n t h => .cons ⟨t, rfl⟩ (vals_ints h)
def Only (H : Hp) : Prop := ∀ b, H b = none ∨ ∃ o xs, H b = some (.frz o (.lst xs))
theorem law_call {P : Program} {w : World} {K : PySem.W.Frag} {mg mb : Str → Option Value} {CX : CXT} {k : Nat} {fa a : Addr} {fd : FuncData} {x : Str} {sp : Sp} {s₁ : Shared} {vs : List Value} {ns : List Int}
    (KX : K.In s₁.heap) (hns : s₁.heap.Ns mainGlobals mg) (hb : s₁.heap.Ns builtinsNs mb) (hbb : ∀ x : Str, x ≠ "__name__" → mb x = bootBuiltins x) (hlim : s₁.heap.NoLimit) (hg : s₁.gens = #[])
    (ha : s₁.heap.get? a = some { cls := .type "list", data := .seq vs.toArray }) (hi : IntsAre vs ns) (hl : ns.length ≤ sizeLine) (hr : Room k callerA)
    (F : ∀ base : Heap, K.In base → base.Ns mainGlobals mg → FnOk P w K mg base CX k fa fd [x] sp) (hbind : ∀ (s : Shared) (u : Value), BindsTo s fd ⟨[u], []⟩ [(x, u)])
    (hsp : ∀ H : Hp, Only H → SqL K H a (ns.map V.int) → sp [.ref a] H (fun v _ => v = .bl true) fun _ _ _ => False)
    (hCX : ∀ H e s', CX [] H s₁ (fun _ _ _ => False) e s' → False) :
    codeAny (model P w) callerA (.call (.ref fa) ⟨[.ref a], []⟩) (fun r s' => r = .ok (.ret (.bool true)) ∧ OldK s₁.heap s'.heap ∧ s'.os = s₁.os ∧ AllBare s'.gens) s₁ := by
  have rv := vals_ints hi
  have lenV := hi.length
  have core : ∀ H : Hp, Only H → SqL K H a (ns.map V.int) → HOk P w H s₁.heap → (∀ b, H b ≠ none → b = a) → (H a ≠ none → K.lookup a = none) →
      codeAny (model P w) callerA (.call (.ref fa) ⟨[.ref a], []⟩) (fun r s' => r = .ok (.ret (.bool true)) ∧ OldK s₁.heap s'.heap ∧ s'.os = s₁.os ∧ AllBare s'.gens) s₁ := by
    intro H hO hS hok hA hK
    have base_of : ∀ {b : Addr} {o : Obj}, s₁.heap.get? b = some o → H b = none → (hidT s₁.heap H).get? b = some o := fun e n => hidT_get e n
    have noA : ∀ {b : Addr} {o : Obj} {es : Array DictEntry} {ep : Nat}, s₁.heap.get? b = some o → o.data = .dict es ep → H b = none := fun {b o es ep} e d => by
      cases q : H b with
      | none => rfl
      | some u =>
        have e' : b = a := hA b (by rw [q]; simp)
        subst e'
        rw [ha] at e; cases e
        have d' : Data.seq vs.toArray _ = Data.dict es ep := d
        cases d'
    have nsK : ∀ {b : Addr} {m : Str → Option Value}, s₁.heap.Ns b m → (hidT s₁.heap H).Ns b m := fun {b m} ⟨o, es, ep, e, d, r⟩ => ⟨o, es, ep, base_of e (noA e d), d, r⟩
    have hKb : K.In (hidT s₁.heap H) := fun b o e => base_of (KX b o e) (by
      cases q : H b with
      | none => rfl
      | some u =>
        have e' : b = a := hA b (by rw [q]; simp)
        subst e'
        rw [hK (by rw [q]; simp)] at e; cases e)
    have hM : Mod K mg (hidT s₁.heap H) := ⟨hKb, nsK hns, ⟨mb, nsK hb, hbb⟩, let ⟨mc, h1, h2⟩ := hlim; ⟨mc, nsK h1, h2⟩⟩
    have e0 : Env0 P w K mg (hidT s₁.heap H) callerA [] s₁ H := ⟨rfl, hM, fun b o e => of_hidT e, Nat.le_of_eq (hidT_size _ _), trivial, fun b hb => absurd (show b ∈ ([] : List Addr) from hb) (by simp), hok, .of_eq hg⟩
    refine codeAny_mono ((F _ hKb (nsK hns)).run callerA [] s₁ H ⟨[.ref a], []⟩ [.ref a] [.ref a] _ _ hr e0 (hbind s₁ (.ref a)) (.cons rfl .nil) (hsp H hO hS)) fun r s' h => ?_
    cases r with
    | error e => exact (hCX H e s' h).elim
    | ok fl =>
      cases fl with
      | next => exact False.elim h
      | brk => exact False.elim h
      | cont => exact False.elim h
      | ret u =>
        obtain ⟨v, H', os, bare, un, hok', r', q⟩ := h
        have q' : v = .bl true := q
        subst q'
        obtain rfl : u = Value.bool true := r'
        refine ⟨rfl, OldK.of_keep fun b o e => ?_, os, bare⟩
        cases q : H b with
        | none => exact un.keep b o e q (by intro z; exact absurd (show b ∈ ([] : List Addr) from z) (by simp)) (by simp)
        | some u =>
          rcases hO b with z | ⟨ob, xs, z⟩
          · rw [q] at z; cases z
          · have z2 := un.frzs b ob _ z
            obtain ⟨e1, _⟩ := hok b _ z
            obtain ⟨e2, _⟩ := hok' b _ z2
            rw [e] at e1; cases e1
            exact e2
  cases hk : K.lookup a with
  | some o =>
    have e := KX a o hk
    rw [ha] at e
    cases e
    refine core (fun _ => none) (fun _ => .inl rfl) (.inr ⟨_, vs.toArray, _, hk, rfl, rfl, rfl, by rw [List.size_toArray, lenV]; exact hl, by simpa using rv⟩) (fun b u z => by have z' : (none : Option HO) = some u := z; cases z') (fun b z => absurd rfl z) fun z => absurd rfl z
  | none =>
    refine core (fun b => if b = a then some (.frz { cls := .type "list", data := .seq vs.toArray } (.lst (ns.map V.int))) else none) (fun b => ?_) (.inl (.inr ⟨{ cls := .type "list", data := .seq vs.toArray }, if_pos rfl⟩)) (fun b u z => ?_) (fun b z => ?_) fun _ => hk
    · by_cases hb : b = a
      · exact .inr ⟨_, _, if_pos hb⟩
      · exact .inl (if_neg hb)
    · by_cases hb : b = a
      · have z' := (if_pos hb).symm.trans z
        cases z'
        subst hb
        exact ⟨ha, by rw [List.length_map]; exact hl, vs, _, rv, ha⟩
      · have z' := (if_neg hb).symm.trans z
        cases z'
    · by_cases hb : b = a
      · exact hb
      · exact absurd (if_neg hb) z
end L2
namespace L2
open PySem PySem.Spec PyProof.Rows
abbrev KOf {K : PySem.W.Frag} {h : Heap} (_ : K.In h) : PySem.W.Frag := K
theorem walk_of {l : PySem.W.OpenLaw} {n k : Nat} {q : Program} {loose : List Str} {XP : (Str → Option Value) → Heap → Prop} {YP : World → Heap → Prop} {d : DefRec} {K : Params → PySem.W.Frag} {CX : World → CXT} {sp : World → Sp} {x : Str}
    (hn : l.most = some n) (hn2 : n ≤ sizeLine) (hdf : d.params.defaults = []) (hr : Room k callerA)
    (hY : ∀ (w : World) (h : Heap), YP w h → (K w.params).In h)
    (F : ∀ (w : World) (mg : Str → Option Value) (fa : Addr) (h : Heap), (K w.params).In h → h.Ns mainGlobals mg → mg d.name = some (.ref fa) →
      ∃ fd : FuncData, (∀ (s : Shared) (u : Value), BindsTo s fd ⟨[u], []⟩ [(x, u)]) ∧
        ∀ base : Heap, (K w.params).In base → base.Ns mainGlobals mg → FnOk l.prog w (K w.params) mg base (CX w) k fa fd [x] (sp w))
    (hsp : ∀ (w : World) (H : Hp) (a : Addr) (ns : List Int), ns.length ≤ n → Only H → SqL (K w.params) H a (ns.map V.int) → sp w [.ref a] H (fun v _ => v = .bl true) fun _ _ _ => False)
    (hCX : ∀ (w : World) (H : Hp) (s : Shared) (e : Value) (s' : Shared), CX w [] H s (fun _ _ _ => False) e s' → False) :
    PySem.W.WalkO q loose XP YP l.row.toRowW d [] (fun f vs => PySem.call f vs) := by
  refine Att.attach_call hn hdf fun w s₀ s₁ mg mb fa o pm cd doc a vs ns G Y ho hd hcd hmg hobj hints hlen hg => ?_
  have KX := hY w _ Y
  obtain ⟨fd, hb, hF⟩ := F w mg fa _ KX G.T.g hmg
  exact law_call KX G.T.g G.T.b G.T.builtins G.T.nolimit hg hobj hints (Nat.le_trans hlen hn2) hr hF hb (fun H hO hS => hsp w H a ns hlen hO hS) fun H e s' => hCX w H s₁ e s'
theorem walk_ofK {l : PySem.W.OpenLaw} {n k : Nat} {q : Program} {loose : List Str} {XP : (Str → Option Value) → Heap → Prop} {YP : World → Heap → Prop} {d : DefRec} {K : Params → PySem.W.Frag} {CX : CXT} {sp : PySem.W.Frag → Sp} {x : Str}
    (hn : l.most = some n) (hn2 : n ≤ sizeLine) (hdf : d.params.defaults = []) (hr : Room k callerA)
    (hY : ∀ (w : World) (h : Heap), YP w h → (K w.params).In h)
    (F : ∀ (w : World) (mg : Str → Option Value) (fa : Addr) (h : Heap), (K w.params).In h → h.Ns mainGlobals mg → mg d.name = some (.ref fa) →
      ∃ fd : FuncData, (∀ (s : Shared) (u : Value), BindsTo s fd ⟨[u], []⟩ [(x, u)]) ∧
        ∀ base : Heap, (K w.params).In base → base.Ns mainGlobals mg → FnOk l.prog w (K w.params) mg base CX k fa fd [x] (sp (K w.params)))
    (hsp : ∀ (K : PySem.W.Frag) (H : Hp) (a : Addr) (ns : List Int), ns.length ≤ n → Only H → SqL K H a (ns.map V.int) → sp K [.ref a] H (fun v _ => v = .bl true) fun _ _ _ => False)
    (hCX : ∀ (H : Hp) (s : Shared) (e : Value) (s' : Shared), CX [] H s (fun _ _ _ => False) e s' → False) :
    PySem.W.WalkO q loose XP YP l.row.toRowW d [] (fun f vs => PySem.call f vs) :=
  walk_of (K := K) (CX := fun _ => CX) (sp := fun w => sp (K w.params)) hn hn2 hdf hr hY F (fun w H a ns h1 h2 h3 => hsp (K w.params) H a ns h1 h2 h3) fun _ H s e s' => hCX H s e s'
end L2
/- THE LAST THEOREM (shape; LID, My.* are yours):
   My.Adr: a structure of the addresses that your layer names (classes, functions); My.Txt K t: a structure (Prop) of the equations over K;
   My.txt_mk : {K} {implicit addresses ..} (e1 : nsIn K mainGlobals "law" = some (some (.ref f))) (e2 : K.lookup f = some ⟨oc, od, .func (fnOf "law" "law" params body scope dV kV doc pm an cdv ct), sl⟩) (e3 : codeIn K cdv "law" = true) .. : ∃ t, My.Txt K t
set_option maxRecDepth 100000 in
set_option maxHeartbeats 0 in
theorem PySem.Challenge.cw_LID_holds : PySem.Challenge.rw_LID.Holds := by
  w_on; o_law; k_head; (case hw => w_witness2)
  k_fill
  refine L2.walk_of (l := PySem.Challenge.rw_LID) (n := 63) (k := 40) (x := "script") (CX := fun w => ..) (sp := fun _ => My.sp_law) rfl (by decide) rfl ⟨rfl, by decide, by decide⟩ (fun w h Y => PySem.W.kIn_of Y) ?F ?S ?C
  case F =>
    intro w mg fa h KX G hmg
    have T : ∃ t, My.Txt (L2.KOf KX) t := by
      dsimp only [L2.KOf]                          -- K must stand as «<heap const> w.params» for k_is
      refine' My.txt_mk ?e1 ?e2 ?e3 ..
      (case e1 => PySem.W.k_is)                    -- in the order: a name -> its address -> its object -> its parts
      (case e2 => PySem.W.k_is)
      ..
    obtain ⟨t, T⟩ := T
    have e0 := hmg.symm.trans (PySem.W.mg_of KX G T.law)
    cases e0                                       -- fa is the law's own address
    exact ⟨_, fun s u => .of_eq rfl, fun base kb nb => My.law_fn T kb nb⟩     -- if «.of_eq rfl» comes too early: refine' ⟨_, ?b, fun base kb nb => My.law_fn T kb nb⟩; exact fun s u => .of_eq rfl
  case S => exact fun w H a ns hl hO hS => ..
  case C => exact ..
(the tactic k_is has no namespace: write k_is) -/
namespace L2
open PySem PySem.Spec PyProof.Rows
def defArgs (s : Stmt) : Arguments := match s with
  | .FunctionDef _ a _ _ _ _ _ _ _ _ => a
  | _ => { posonlyargs := [], args := [], vararg := none, kwonlyargs := [], kw_defaults := [], kwarg := none, defaults := [] }
def defBody (s : Stmt) : List Stmt := match s with
  | .FunctionDef _ _ b _ _ _ _ _ _ _ => b
  | _ => []
def defScope (s : Stmt) : Scope := match s with
  | .FunctionDef _ _ _ _ _ _ sc _ _ _ => sc
  | _ => { kind := .function, names := [], isGenerator := false, isCoroutine := false }
abbrev CX0 : CXT := fun _ _ _ _ _ _ => False
abbrev E0 : XK := fun _ _ _ => False
theorem pass0 {X : Cx} : Passes CX0 X E0 := fun _ _ _ _ _ _ _ h => h.elim
structure Fun (K : PySem.W.Frag) (x qual : Str) (st : Stmt) (f : Addr) (fd : FuncData) : Prop where
  ex : ∃ (oc : Value) (od : Option Addr) (kV doc pm : Value) (an : Option Addr) (cdv ct : Value) (osl : Array (Option Value)),
    fd = PySem.W.fnOf x qual (defArgs st) (defBody st) (defScope st) .none kV doc pm an cdv ct ∧ K.lookup f = some ⟨oc, od, .func fd, osl⟩ ∧ PySem.W.codeIn K cdv qual = true
  kp : PySem.W.keepIn K (.ref f) = true
section
variable {P : Program} {w : World} {K : PySem.W.Frag} {mg : Str → Option Value} {base : Heap}
theorem Fun.ok {x qual : Str} {st : Stmt} {f : Addr} {fd : FuncData} {N ps : List Str} {k : Nat} {sp : Sp} (F : Fun K x qual st f fd) (S : FnScope N ps (defScope st)) (len : ∀ vs H Q E, sp vs H Q E → vs.length = ps.length)
    (hbody : ∀ (cdv : Value) (A : Around) (outer : List Env) (s : Shared) (H : Hp) (vs : List V) (Q : VK) (E : XK), Room k (A.deeper (envOfC qual (defScope st) s.heap.objs.size f cdv)) → sp vs H Q E →
      ∃ t, PSs (cxOf CX0 P w K mg base N qual (defScope st) f cdv A outer s H E).nox (defBody st) t ∧ t { nx := fun _ H' => Q .non H', rt := Q } (start N vs) H) : FnOk P w K mg base CX0 (k + 1) f fd ps sp := by
  obtain ⟨oc, od, kV, doc, pm, an, cdv, ct, osl, rfl, lk, hcd⟩ := F.ex
  refine fn_of lk hcd S len fun A outer s H vs Q E hr hsp => ?_
  obtain ⟨t, h, q⟩ := hbody cdv A outer s H vs Q E hr hsp
  exact ⟨t, h.nox, q⟩
theorem Fun.binds {x qual : Str} {st : Stmt} {f : Addr} {fd : FuncData} {ps : List Str} (F : Fun K x qual st f fd)
    (h : ∀ (kV doc pm : Value) (an : Option Addr) (cdv ct : Value) (us : List Value), us.length = ps.length → bindArgs (PySem.W.fnOf x qual (defArgs st) (defBody st) (defScope st) .none kV doc pm an cdv ct) ⟨us, []⟩ = pure (ps.zip us)) : Binds K fd ps [] := by
  obtain ⟨oc, od, kV, doc, pm, an, cdv, ct, osl, rfl, lk, hcd⟩ := F.ex
  exact .all (h kV doc pm an cdv ct)
theorem fun_mk {x qual : Str} {st : Stmt} {f : Addr} {oc : Value} {od an : Option Addr} {osl : Array (Option Value)} {kV doc pm cdv ct : Value} (l : K.lookup f = some ⟨oc, od, .func (PySem.W.fnOf x qual (defArgs st) (defBody st) (defScope st) .none kV doc pm an cdv ct), osl⟩)
    (c : PySem.W.codeIn K cdv qual = true) (k : PySem.W.keepIn K (.ref f) = true) : Fun K x qual st f (PySem.W.fnOf x qual (defArgs st) (defBody st) (defScope st) .none kV doc pm an cdv ct) := ⟨⟨oc, od, kV, doc, pm, an, cdv, ct, osl, rfl, l, c⟩, k⟩
end
theorem hu_of {A : Around} {k : Nat} (hr : Room k A) : A.units + 1 < cLine := Nat.lt_of_le_of_lt (Nat.add_le_add_left (by decide : 1 ≤ 64) _) hr.units
theorem small1000 {n : Nat} (h : n ≤ 1000) : n < sizeLine := Nat.lt_of_le_of_lt h (by decide)
section
variable {X : Cx}
theorem pv (i : Nat) {x : Str} {pos : Pos} (hN : X.N[i]? = some x := by rfl) (hv : Vis X.env.scope x := by first | exact Or.inl rfl | exact Or.inr (Or.inl rfl) | exact Or.inr (Or.inr rfl)) (hd : (x == ("__debug__" : Str)) = false := by decide)
    (hcd : (x == ("__classdict__" : Str)) = false := by decide) : PE X (.Name x pos) (tVar i) := pe_var hN hv hd hcd
end
theorem iteF {A B : Prop} (h : B) : if false = true then A else B := by
  rw [if_neg Bool.false_ne_true]
  exact h
theorem ite2 {c A B : Prop} [Decidable c] (h1 : c → A) (h2 : ¬ c → B) : if c then A else B := by
  by_cases h : c
  · rw [if_pos h]
    exact h1 h
  · rw [if_neg h]
    exact h2 h
def Same (H H' : Hp) : Prop := ∀ b o, H b = some o → H' b = some o
theorem Same.refl (H : Hp) : Same H H := fun _ _ h => h
theorem Same.trans {H H1 H2 : Hp} (a : Same H H1) (b : Same H1 H2) : Same H H2 := fun c o h => b c o (a c o h)
theorem Same.free {H H' : Hp} (e : Same H H') {l : Addr} (h : H' l = Option.none) : H l = Option.none := by
  cases q : H l with
  | none => rfl
  | some o =>
    rw [e l o q] at h
    cases h
theorem Same.seq {K : PySem.W.Frag} {H H' : Hp} {a : Addr} {xs : List V} (e : Same H H') (h : SqL K H a xs) : SqL K H' a xs := by
  rcases h with (h | ⟨o, h⟩) | h
  · exact .inl (.inl (e _ _ h))
  · exact .inl (.inr ⟨o, e _ _ h⟩)
  · exact .inr h
section
variable {X : Cx}
end
section
variable {κ : Type} [DecidableEq κ]
theorem nd_snoc : ∀ {l : List κ} {k : κ}, l.Nodup → ¬ k ∈ l → (l ++ [k]).Nodup
  | [], k, _, _ => by simp
  | a :: r, k, h, hk => by
    obtain ⟨h1, h2⟩ := List.nodup_cons.mp h
    show (a :: (r ++ [k])).Nodup
    refine List.nodup_cons.mpr ⟨fun m => ?_, nd_snoc h2 fun m => hk (List.mem_cons.mpr (Or.inr m))⟩
    rcases List.mem_append.mp m with q | q
    · exact h1 q
    · exact hk (List.mem_cons.mpr (Or.inl (List.mem_singleton.mp q).symm))
end
end L2
namespace L2
open PySem PySem.Spec PyProof.Rows
theorem lookup_cons_or {β : Type} {x n : Str} {b c : β} {l : List (Str × β)} (h : ((n, b) :: l).lookup x = some c) : (x = n ∧ b = c) ∨ l.lookup x = some c := by
  rw [List.lookup_cons] at h
  cases e : x == n with
  | true =>
    rw [e] at h
    exact .inl ⟨eq_of_beq e, Option.some.inj h⟩
  | false =>
    rw [e] at h
    exact .inr h
theorem lookup_cons_some {β : Type} {x n : Str} {b : β} {l : List (Str × β)} (h : x = n ∨ ∃ c, l.lookup x = some c) : ∃ c, ((n, b) :: l).lookup x = some c := by
  rw [List.lookup_cons]
  cases e : x == n with
  | true => exact ⟨b, rfl⟩
  | false =>
    rcases h with h | h
    · subst h
      simp at e
    · exact h
theorem closFor_go {env : Env} : ∀ (names : List (Str × NameKind)) (acc : List (Str × Addr)), (∀ y ∈ names, y.2 = .free → ∃ c, env.cells.lookup y.1 = some c) →
    (∀ x c, acc.lookup x = some c → env.cells.lookup x = some c) →
    ∃ cl, (forIn names acc (fun x r => if (x.2 == NameKind.free) = true then (cellOf env x.1 >>= fun c => pure (ForInStep.yield ((x.1, c) :: r))) else pure (ForInStep.yield r)) : Sem (List (Str × Addr))) = pure cl ∧
      (∀ x c, cl.lookup x = some c → env.cells.lookup x = some c) ∧ (∀ y ∈ names, y.2 = .free → ∃ c, cl.lookup y.1 = some c) ∧ (∀ x c, acc.lookup x = some c → ∃ c', cl.lookup x = some c')
  | [], acc, _, h => ⟨acc, rfl, h, (fun _ z => nomatch z), fun x c e => ⟨c, e⟩⟩
  | (n, k) :: r, acc, hn, h => by
    rw [List.forIn_cons]
    by_cases hk : k = .free
    · subst hk
      obtain ⟨c, hc⟩ := hn (n, .free) List.mem_cons_self rfl
      have e1 : (cellOf env n : Sem Addr) = pure c := by
        have hc' : env.cells.lookup n = some c := hc
        unfold cellOf
        rw [hc']
      obtain ⟨cl, e, h1, h2, h3⟩ := closFor_go r ((n, c) :: acc) (fun y hy => hn y (List.mem_cons_of_mem _ hy)) (fun x c' e => by
        rcases lookup_cons_or e with ⟨e1, e2⟩ | e
        · subst e1; subst e2; exact hc
        · exact h x c' e)
      refine ⟨cl, ?_, h1, ?_, fun x c' e => ?_⟩
      · show ((if ((n, NameKind.free).2 == NameKind.free) = true then (cellOf env n >>= fun c => pure (ForInStep.yield ((n, c) :: acc))) else pure (ForInStep.yield acc)) >>= _) = _
        rw [if_pos (show ((n, NameKind.free).2 == NameKind.free) = true from rfl), e1]
        exact e
      · intro y hy hf
        rcases List.mem_cons.mp hy with rfl | hy
        · exact h3 n c (by simp)
        · exact h2 y hy hf
      · obtain ⟨c2, e2⟩ := lookup_cons_some (n := n) (b := c) (.inr ⟨c', e⟩)
        exact h3 x c2 e2
    · obtain ⟨cl, e, h1, h2, h3⟩ := closFor_go r acc (fun y hy => hn y (List.mem_cons_of_mem _ hy)) h
      refine ⟨cl, ?_, h1, ?_, h3⟩
      · show ((if ((n, k).2 == NameKind.free) = true then (cellOf env n >>= fun c => pure (ForInStep.yield ((n, c) :: acc))) else pure (ForInStep.yield acc)) >>= _) = _
        rw [if_neg (by simpa using hk)]
        exact e
      · intro y hy hf
        rcases List.mem_cons.mp hy with rfl | hy
        · exact absurd hf hk
        · exact h2 y hy hf
theorem closFor {scope : Scope} {env : Env} (h : ∀ y ∈ scope.names, y.2 = .free → ∃ c, env.cells.lookup y.1 = some c) :
    ∃ cl, closureFor scope env = pure cl ∧ (∀ x c, cl.lookup x = some c → env.cells.lookup x = some c) ∧ (∀ y ∈ scope.names, y.2 = .free → ∃ c, cl.lookup y.1 = some c) := by
  obtain ⟨cl, e, h1, h2, _⟩ := closFor_go scope.names [] h (fun x c e => by simp at e)
  refine ⟨cl, ?_, h1, h2⟩
  unfold closureFor
  show ((forIn scope.names [] (fun x r => if (x.2 == NameKind.free) = true then (cellOf env x.1 >>= fun c => pure (ForInStep.yield ((x.1, c) :: r))) else pure (ForInStep.yield r)) : Sem (List (Str × Addr))) >>= fun r => pure r) = _
  rw [e]
  rfl
def relK (env : Env) (x : Str) (k : NameKind) : NameKind := if (k == .free && env.scope.kind == .function && env.kindOf x == some .cell) = true then .cell else k
theorem lookup_relabel {env : Env} {x : Str} : ∀ (names : List (Str × NameKind)),
    (names.map fun (n, k) => if (k == NameKind.free && env.scope.kind == .function && env.kindOf n == some .cell) = true then (n, NameKind.cell) else (n, k)).lookup x = (names.lookup x).map (relK env x)
  | [] => rfl
  | (n, k) :: r => by
    have ih := lookup_relabel (env := env) (x := x) r
    have e : (if (k == NameKind.free && env.scope.kind == .function && env.kindOf n == some .cell) = true then (n, NameKind.cell) else (n, k)) = (n, relK env n k) := by
      unfold relK
      split <;> rfl
    show List.lookup x ((if (k == NameKind.free && env.scope.kind == .function && env.kindOf n == some .cell) = true then (n, NameKind.cell) else (n, k)) :: _) = _
    rw [e, List.lookup_cons, List.lookup_cons]
    cases hx : x == n with
    | true =>
      have := eq_of_beq hx
      subst this
      rfl
    | false => exact ih
theorem kindOf_comp {scope : Scope} {cl : List (Str × Addr)} {C : Addr} {env : Env} {x : Str} : (compEnvC scope cl C env).kindOf x = (scope.names.lookup x).map (relK env x) := lookup_relabel (env := env) (x := x) scope.names
theorem relK_free {env : Env} {x : Str} : relK env x .free = .cell ∨ relK env x .free = .free := by
  unfold relK
  split
  · exact .inl rfl
  · exact .inr rfl
theorem relK_of {env : Env} {x : Str} {k : NameKind} (h : relK env x k = .cell ∨ relK env x k = .free) : k = .cell ∨ k = .free := by
  unfold relK at h
  split at h
  · rename_i z
    simp only [Bool.and_eq_true, beq_iff_eq] at z
    exact .inr z.1.1
  · exact h
def capt (caps : List (Option Nat)) (σ : St) : St := caps.map fun o => match o with
  | none => none
  | some j => (σ[j]?).join
def compOk (oN : List Str) (osc : Scope) (N : List Str) (caps : List (Option Nat)) (sc : Scope) : Bool :=
  (sc.kind == .function) && decide N.Nodup && (N.length == caps.length) && sc.names.all (fun y => !(y.2 == .cell)) &&
  sc.names.all (fun y => !(y.2 == .local) || sc.names.lookup y.1 == some .local) &&
  sc.names.all (fun y => !(y.2 == .free) || (osc.names.lookup y.1 == some .cell || osc.names.lookup y.1 == some .free)) &&
  (N.zip caps).all (fun p => match p.2 with
    | none => true
    | some j => oN[j]? == some p.1 && sc.names.lookup p.1 == some .free)
structure CompOk (oN : List Str) (osc : Scope) (N : List Str) (caps : List (Option Nat)) (sc : Scope) : Prop where
  kind : sc.kind = .function
  nd : N.Nodup
  len : N.length = caps.length
  nocell : ∀ y ∈ sc.names, y.2 ≠ .cell
  loc : ∀ y ∈ sc.names, y.2 = .local → sc.names.lookup y.1 = some .local
  fr : ∀ y ∈ sc.names, y.2 = .free → osc.names.lookup y.1 = some .cell ∨ osc.names.lookup y.1 = some .free
  cap : ∀ (i j : Nat) (x : Str), N[i]? = some x → caps[i]? = some (some j) → oN[j]? = some x ∧ sc.names.lookup x = some .free
theorem compOk_of {oN : List Str} {osc : Scope} {N : List Str} {caps : List (Option Nat)} {sc : Scope} (h : compOk oN osc N caps sc = true) : CompOk oN osc N caps sc := by
  unfold compOk at h
  simp only [Bool.and_eq_true, List.all_eq_true, decide_eq_true_eq, beq_iff_eq, Bool.or_eq_true, Bool.not_eq_true', beq_eq_false_iff_ne, ne_eq] at h
  obtain ⟨⟨⟨⟨⟨⟨h1, h2⟩, h3⟩, h4⟩, h5⟩, h6⟩, h7⟩ := h
  refine ⟨h1, h2, h3, h4, fun y hy e => ?_, fun y hy e => ?_, fun i j x hi hj => ?_⟩
  · rcases h5 y hy with z | z
    · exact absurd e z
    · exact z
  · rcases h6 y hy with z | z
    · exact absurd e z
    · exact z
  · have hm : (x, some j) ∈ N.zip caps := by
      refine List.mem_of_getElem? (i := i) ?_
      rw [List.getElem?_zip_eq_some]
      exact ⟨hi, hj⟩
    have := h7 _ hm
    simpa using this
def cxComp (X : Cx) (N : List Str) (scope : Scope) (cl : List (Str × Addr)) (C : Addr) (fp : List Addr) (s : Shared) (H : Hp) : Cx :=
  { X with N := N, s₀ := s, H₀ := H, env := compEnvC scope cl C X.env, outer := X.stack, ex := fp, fn := fun _ => false, pn := [], xe := fun _ _ => False }
section
variable {X : Cx} {pins : List (Addr × Obj)} {σ : St} {H : Hp} {s : Shared} {N : List Str} {caps : List (Option Nat)} {scope : Scope} {cl : List (Str × Addr)} {fp : List Addr}
theorem inv_comp (I : Inv X pins σ H s) (hf : ∀ b ∈ fp, FpOk X pins H b) (ho : ∀ b ∈ fp, ∃ o, s.heap.get? b = some o) (S : CompOk X.N X.env.scope N caps scope)
    (c1 : ∀ x c, cl.lookup x = some c → X.env.cells.lookup x = some c) (c2 : ∀ y ∈ scope.names, y.2 = .free → ∃ c, cl.lookup y.1 = some c)
    {h' : Heap} {m : Str → Option Value} {tk : Nat} (hn : h'.Ns s.heap.objs.size m) (hk : ∀ b u, s.heap.get? b = some u → h'.get? b = some u) :
    Inv (cxComp X N scope cl s.heap.objs.size fp s H) [] (capt caps σ) H { s with heap := h', toks := tk } := by
  have noS : ∀ b ∈ fp, b ∉ frs X.stack := fun b hb z => by
    obtain ⟨_, f1, f2, _⟩ := hf b hb
    rcases List.mem_cons.mp (I.stkSub b z) with e | e
    · exact f1 e
    · exact f2 e
  have frOf : ∀ x, scope.names.lookup x = some .free → ∃ c, cl.lookup x = some c := fun x e => c2 (x, .free) (PySem.mem_of_lookup e) rfl
  refine ⟨⟨I.ok.mod, S.kind, I.ok.glob, I.ok.blt, Nat.le_refl _, fun x y c e1 e2 => I.ok.inj x y c (c1 x c e1) (c1 y c e2), fun x hx => ?_, fun x c z _ => absurd (show false = true from z) (by decide), I.ok.hd, I.ok.frames, .inl rfl,
    fun b hb => ⟨?_, fun x c e => (hf b hb).2.2.2.2.1 x c (c1 x c e)⟩, I.bs, Nat.le_trans I.ok.bsz I.sz, fun b o e hb => ?_, noS, I.stack, I.stkFree⟩,
    rfl, I.bare, Un.kept hk, ⟨m, hn, fun i x v e1 e2 e3 => ?_⟩, fun x c e => ?_, I.hok.fresh (Nat.le_refl _), fun x c e => I.freeC x c (c1 x c e), fun p hp => absurd (show p ∈ ([] : List (Addr × Obj)) from hp) (by simp), I.hok.kept hk, ?_⟩
  · have hx' : (scope.names.lookup x).map (relK X.env x) = some .cell ∨ (scope.names.lookup x).map (relK X.env x) = some .free := by
      rw [← kindOf_comp (cl := cl) (C := s.heap.objs.size)]
      exact hx
    cases e : scope.names.lookup x with
    | none =>
      rw [e] at hx'
      rcases hx' with z | z <;> cases z
    | some k =>
      rw [e] at hx'
      have z : relK X.env x k = .cell ∨ relK X.env x k = .free := by
        rcases hx' with z | z
        · exact .inl (Option.some.inj z)
        · exact .inr (Option.some.inj z)
      rcases relK_of z with z | z
      · subst z
        exact absurd rfl (S.nocell _ (PySem.mem_of_lookup e))
      · subst z
        exact frOf x e
  · obtain ⟨o, e⟩ := ho b hb
    exact Nat.ne_of_lt (Heap.lt_size e)
  · obtain ⟨_, _, _, f3, _⟩ := hf b hb
    rcases f3 with z | z
    · exact I.ok.noex b o e z
    · exact absurd (Nat.lt_of_lt_of_le (Heap.lt_size e) (Nat.le_trans I.ok.bsz z)) (Nat.lt_irrefl _)
  · have hi : i < caps.length := by
      unfold capt at e2
      obtain ⟨h1, _⟩ := List.getElem?_eq_some_iff.mp e2
      simpa using h1
    have ec : (capt caps σ)[i]? = (caps[i]?).map fun o => match o with
        | none => none
        | some j => (σ[j]?).join := by
      unfold capt
      rw [List.getElem?_map]
    rw [e2] at ec
    cases q : caps[i]? with
    | none =>
      rw [q] at ec
      cases ec
    | some o =>
      rw [q] at ec
      cases o with
      | none =>
        cases (Option.some.inj ec)
      | some j =>
        have ej : σ[j]? = some (some v) := by
          have z : some v = (σ[j]?).join := Option.some.inj ec
          cases q2 : σ[j]? with
          | none => rw [q2] at z; cases z
          | some w => rw [q2] at z; exact congrArg some z.symm
        obtain ⟨n1, n2⟩ := S.cap i j x e1 q
        have vis : X.env.kindOf x = some .cell ∨ X.env.kindOf x = some .free := S.fr (x, .free) (PySem.mem_of_lookup n2) rfl
        obtain ⟨m0, _, hl⟩ := I.loc
        obtain ⟨u, r, l⟩ := hl j x v n1 ej (.inr vis)
        refine ⟨u, r, ?_⟩
        rcases l with ⟨k, _⟩ | ⟨_, c, ec, z⟩
        · rw [k] at vis
          rcases vis with z | z <;> cases z
        · obtain ⟨c', e'⟩ := frOf x n2
          have : c' = c := Option.some.inj ((c1 x c' e').symm.trans ec)
          subst this
          refine .inr ⟨?_, c', e', ?_⟩
          · have kk : (compEnvC scope cl s.heap.objs.size X.env).kindOf x = some (relK X.env x .free) := by rw [kindOf_comp, n2]; rfl
            rcases relK_free (env := X.env) (x := x) with z | z
            · rw [z] at kk; exact .inl kk
            · rw [z] at kk; exact .inr kk
          · obtain ⟨o, ho1, ho2⟩ := z
            exact ⟨o, hk _ _ ho1, ho2⟩
  · obtain ⟨v, o, ho1, ho2⟩ := I.cell x c (c1 x c e)
    exact ⟨v, o, hk _ _ ho1, ho2⟩
  · show (capt caps σ).length = N.length
    unfold capt
    rw [List.length_map]
    exact S.len.symm
end
end L2
namespace L2
open PySem PySem.Spec PyProof.Rows
def PF (X : Cx) (ifs : List Expr) (t : TT) : Prop :=
  ∀ (pins : List (Addr × Obj)) (s : Shared) (σ : St) (H : Hp) (Q : Bool → Hp → Prop), Inv X pins σ H s → t σ H Q →
    wpAny (model X.prog X.w) X.A (forIn ifs true fun c r => if r = true then do let ok ← isTrue c X.env (eval c X.env); pure (ForInStep.yield ok) else pure (ForInStep.yield r)) (TP X pins σ Q) X.xe s
def tYes : TT := fun _ H Q => Q true H
section
variable {X : Cx}
theorem pf_nil : PF X [] tYes := fun _ _ _ H _ I h => wpAny_pure ⟨H, I, h⟩
theorem pf_one {c : Expr} {t : TT} (hc : PT X c t) : PF X [c] t := by
  intro pins s σ H Q I h
  rw [List.forIn_cons]
  refine wpAny_bind ?_
  rw [if_pos rfl]
  refine wpAny_bind (thn (hc pins s σ H Q I h) fun ok s1 q => wpAny_pure ?_)
  exact wpAny_pure q
end
theorem compLoop_any {prog : Program} {w : World} {A : Around} {R : Result → Shared → Prop} {s : Shared} {elt target iter : Expr} {ifs : List Expr} {scope : Scope} {pos : Pos} {it acc : Value} {env : Env} (I : Nat → Shared → Prop)
    (turn : ∀ n s, I n s → wpAny (model prog w) A (pyNext it) (fun r s₁ => match r with
      | none => R (.ok .next) s₁
      | some v => wpAny (model prog w) A (letOwnedTupleGo target it v) (fun _ s₁' => wpAny (model prog w) A (assign target env v) (fun _ s₂ =>
          wpAny (model prog w) A (forIn ifs true fun c r => if r = true then do let ok ← isTrue c env (eval c env); pure (ForInStep.yield ok) else pure (ForInStep.yield r)) (fun ok s₃ =>
            if ok = true then wpAny (model prog w) A (eval elt env) (fun x s₄ =>
              wpAny (model prog w) A (call (.builtin "list.append") [acc, x]) (fun _ s₅ => ∃ m, m < n ∧ I m s₅) (fun _ _ => False) s₄) (fun _ _ => False) s₃
            else ∃ m, m < n ∧ I m s₃) (fun _ _ => False) s₂) (fun _ _ => False) s₁') (fun _ _ => False) s₁) (fun _ _ => False) s)
    (n : Nat) (h : I n s) :
    codeAny (model prog w) A (.compLoop (.ListComp elt [⟨target, iter, ifs, 0⟩] scope pos) 0 it acc env) R s := by
  refine codeAny_loop rfl I (fun n s hI => ?_) n h
  show wpAny _ A ((compTurn (.ListComp elt [⟨target, iter, ifs, 0⟩] scope pos) 0 it acc env).onRaise (fun x => do noteFrame x env; theTreesLotGoes x)) _ _ s
  refine wpAny_noted ?_
  rw [compTurn_list]
  refine wpAny_bind (wpAny_standAt (wpAny_bind (wpAny_mono (turn n s hI) (fun r s₁ h₁ => ?_) fun _ _ z => False.elim z)))
  cases r with
  | none => exact wpAny_pure h₁
  | some v =>
    refine wpAny_bind (wpAny_mono h₁ (fun _ s₁' h₁' => ?_) fun _ _ z => False.elim z)
    refine wpAny_bind (wpAny_mono h₁' (fun _ s₂ h₂ => wpAny_bind (wpAny_mono h₂ (fun ok s₃ h₃ => ?_) fun _ _ z => False.elim z)) fun _ _ z => False.elim z)
    cases ok with
    | false => exact wpAny_pure ⟨rfl, h₃⟩
    | true =>
      exact wpAny_bind (wpAny_bind (wpAny_mono h₃ (fun x s₄ h₄ => wpAny_bind (wpAny_mono h₄ (fun _ s₅ h₅ => wpAny_pure (wpAny_pure ⟨rfl, h₅⟩)) fun _ _ z => False.elim z)) fun _ _ z => False.elim z))
def CompW (J : It) (g : TG) (tf : TT) (te : TE) (D : Addr) (QE : Hp → Prop) (W : Nat → Nat → St → Hp → Prop) : Prop := ∀ i m σ H, W i m σ H →
  (J.stop i H ∧ QE H) ∨ (J.go i H ∧ ∃ N : St → Hp → Prop, (∀ σ' H', N σ' H' → ∃ m', m' < m ∧ W (i + 1) m' σ' H') ∧ ∀ x H', J.yld i H x H' → g x σ H' fun σ2 H2 => tf σ2 H2 fun b H3 =>
    if b = true then te σ2 H3 fun v H4 => ∃ xs, H4 D = some (.lst xs) ∧ xs.length < sizeLine ∧ N σ2 (upd H4 D (.lst (xs ++ [v]))) else N σ2 H3)
def tComp (caps : List (Option Nat)) (wi : TI) (g : TG) (tf : TT) (te : TE) : TE := fun σ H Q => wi σ H fun J H1 => ∀ D, H1 D = none →
  ∃ W : Nat → Nat → St → Hp → Prop, (∃ m, W 0 m (capt caps σ) (upd H1 D (.lst []))) ∧ CompW J g tf te D (fun H' => Q (.ref D) H') W
section
variable {X : Cx} {pins : List (Addr × Obj)} {σ : St} {H : Hp} {s : Shared} {N : List Str} {caps : List (Option Nat)} {scope : Scope} {elt tg iter : Expr} {ifs : List Expr} {wi : TI} {g : TG} {tf : TT} {te : TE} {pos : Pos}
theorem comp_core {RR : Value → Addr → Result → Shared → Prop} {cl : List (Str × Addr)} {Q : VK} (hc : X.calm = true) (S : CompOk X.N X.env.scope N caps scope) (hi : PI X tg iter wi)
    (hg : ∀ cl C fp s H, PG (cxComp X N scope cl C fp s H) tg g) (hf : ∀ cl C fp s H, PF (cxComp X N scope cl C fp s H) ifs tf) (he : ∀ cl C fp s H, PE (cxComp X N scope cl C fp s H) elt te)
    (c1 : ∀ x c, cl.lookup x = some c → X.env.cells.lookup x = some c) (c2 : ∀ y ∈ scope.names, y.2 = .free → ∃ c, cl.lookup y.1 = some c)
    (I : Inv X pins σ H s) (h : tComp caps wi g tf te σ H Q)
    (fin : ∀ (D C : Addr) (m : Str → Option Value) (H5 : Hp) (s5 : Shared), Inv X pins σ H5 s5 → s5.heap.Ns C m → FpOk X pins H5 C → Q (.ref D) H5 → RR (.ref D) C (.ok .next) s5) :
    wpAny (model X.prog X.w) X.A (eval iter X.env) (fun x s₁ => wpAny (model X.prog X.w) X.A (pyIter x) (fun it s₂ => wpAny (model X.prog X.w) X.A (newList []) (fun acc s₃ =>
      wpAny (model X.prog X.w) X.A (newFunctionEnv scope X.env.globals cl [] X.env.qual none .none (some X.env)) (fun cenv s₄ =>
        codeAny (model X.prog X.w) X.A (.compStart (.ListComp elt [⟨tg, iter, ifs, 0⟩] scope pos) 0 it acc { cenv with scope := relabel scope X.env }) (RR acc cenv.locals) s₄) X.xe s₃) X.xe s₂) X.xe s₁) X.xe s := by
  refine thn (hi pins s σ H _ I h) fun v s1 h1 => thn h1 fun itv s2 h2 => ?_
  obtain ⟨it, fp, tn, J, H2, e, I2, T, st2, f2, q⟩ := h2
  subst e
  have nD : H2 s2.heap.objs.size = none := I2.hok.fresh (Nat.le_refl _)
  obtain ⟨W, ⟨m0, w0⟩, turn⟩ := q s2.heap.objs.size nD
  refine wpAny_newObj_type ?_
  have I3 : Inv X pins σ (upd H2 s2.heap.objs.size (.lst [])) { s2 with heap := s2.heap.push { cls := .type "list", data := .seq ([] : List Value).toArray } } :=
    I2.laid (t' := s2.toks) (o := .lst []) (fun b ob e => Heap.get?_push_of_some _ e) (Nat.le_refl _) ⟨Nat.zero_le _, [], 0, .nil, Heap.get?_push_size _ rfl⟩
  have ob2 : ∀ b ∈ fp, ∃ o, s2.heap.get? b = some o := fun b hb => let ⟨o, e, _⟩ := T.obj 0 s2.heap st2 b hb; ⟨o, e⟩
  have nfD : ∀ b ∈ fp, b ≠ s2.heap.objs.size := fun b hb => let ⟨o, e⟩ := ob2 b hb; Nat.ne_of_lt (Heap.lt_size e)
  generalize hs3 : ({ s2 with heap := s2.heap.push { cls := .type "list", data := .seq ([] : List Value).toArray } } : Shared) = s3 at I3
  have eh : s3.heap = s2.heap.push { cls := .type "list", data := .seq ([] : List Value).toArray } := by rw [← hs3]
  generalize hD : s2.heap.objs.size = D at *
  generalize hH3 : upd H2 D (.lst []) = H3 at I3 w0
  have f3 : ∀ b ∈ fp, FpOk X pins H3 b := fun b hb => ⟨by rw [← hH3, upd_ne (nfD b hb)]; exact (f2 b hb).1, (f2 b hb).2⟩
  have ob3 : ∀ b ∈ fp, ∃ o, s3.heap.get? b = some o := fun b hb => let ⟨o, e⟩ := ob2 b hb; ⟨o, by rw [eh]; exact Heap.get?_push_of_some _ e⟩
  have st3 : tn 0 s3.heap := T.keep 0 _ _ st2 fun b hb o e => by rw [eh]; exact Heap.get?_push_of_some _ e
  show wpAny (model X.prog X.w) X.A (newFunctionEnv scope X.env.globals cl [] X.env.qual none .none (some X.env)) _ X.xe s3
  refine wpAny_newFunctionEnv S.nocell (by intro y hy; simp at hy) (fun h₁ hns₁ hsb₁ => ?_) S.kind
  have k1 : ∀ b u, s3.heap.get? b = some u → h₁.get? b = some u := fun b u e => hsb₁.extBut b u (Nat.ne_of_lt (Heap.lt_size e)) (Heap.get?_push_of_some _ e)
  have J0 := inv_comp (tk := s3.toks + ([] : List (Str × Value)).length) I3 f3 ob3 S c1 c2 hns₁ k1
  generalize hC : s3.heap.objs.size = C at *
  generalize hX' : cxComp X N scope cl C fp s3 H3 = X' at J0
  have st4 : tn 0 h₁ := T.keep 0 _ _ st3 fun b hb o e => k1 b o e
  have stat : ∀ {H' : Hp}, (∀ b ∈ fp, H' b = none) → ∀ b ∈ fp, FpOk X' [] H' b := fun {H'} hn b hb => by
    subst hX'
    exact ⟨hn b hb, (J0.ok.exf b hb).1, J0.ok.exfs b hb, .inl hb, (J0.ok.exf b hb).2, fun p hp => absurd (show p ∈ ([] : List (Addr × Obj)) from hp) (by simp)⟩
  have loop : ∀ s4 : Shared, s4 = { s3 with heap := h₁, toks := s3.toks + ([] : List (Str × Value)).length } →
      codeAny (model X.prog X.w) X.A (.compLoop (.ListComp elt [⟨tg, iter, ifs, 0⟩] scope pos) 0 (.ref it) (.ref D) (compEnvC scope cl C X.env)) (RR (.ref D) C) s4 := by
    rintro s4 rfl
    refine compLoop_any (fun n s' => ∃ i σ' H', Inv X' [] σ' H' s' ∧ tn i s'.heap ∧ (∀ b ∈ fp, H' b = none) ∧ W i n σ' H') ?_ m0 ⟨0, _, H3, J0, st4, fun b hb => (f3 b hb).1, w0⟩
    rintro n s4 ⟨i, σ4, H4, J4, st4, fr4, w4⟩
    rcases turn i n σ4 H4 w4 with ⟨stop, qn⟩ | ⟨go, Nn, hNn, step⟩
    · have d := T.done X' (by subst hX'; rfl) (by subst hX'; rfl) (by subst hX'; rfl) (by subst hX'; exact hc) i [] s4 σ4 H4 (fun _ _ => False) J4 (stat fr4) st4 stop
      have eA : X'.A = X.A := by subst hX'; rfl
      rw [eA] at d
      refine wpAny_mono d (fun r s5 hr => ?_) fun _ _ z => z
      obtain ⟨hr, J5⟩ := hr
      subst hr
      have I5 : Inv X pins σ H4 s5 := by
        subst hX'
        exact I3.call' J5.os J5.base J5.hok J5.bare fun b hb => ⟨(f3 b hb).2.2.2.1, (f3 b hb).2.1, (f3 b hb).2.2.2.2.1, (f3 b hb).2.2.2.2.2⟩
      obtain ⟨m, hn, _⟩ := J5.loc
      have fr := J5.free
      subst hX'
      exact fin D C m H4 s5 I5 hn (I3.fpOk (b := C) (Nat.le_of_eq hC) fr) qn
    · have d := T.item X' (by subst hX'; rfl) (by subst hX'; rfl) (by subst hX'; rfl) (by subst hX'; exact hc) i [] s4 σ4 H4 (fun _ _ => False) J4 (stat fr4) st4 go
      have eA : X'.A = X.A := by subst hX'; rfl
      rw [eA] at d
      refine wpAny_mono d (fun r s5 hr => ?_) fun _ _ z => z
      obtain ⟨u, hr, h5⟩ := hr
      subst hr
      refine wpAny_mono h5 (fun _ s6 q6 => ?_) fun _ _ z => z
      obtain ⟨x, H6, J6, r6, y6, st6, fr6⟩ := q6
      have J6' := J6.pinned (stat fr6) (T.obj _ _ st6)
      have again : ∀ {H9 : Hp} {s9 : Shared} {σ9 : St}, Inv X' ([] ++ pinsAt fp s6.heap) σ9 H9 s9 → Nn σ9 H9 → ∃ m, m < n ∧ ∃ i σ' H', Inv X' [] σ' H' s9 ∧ tn i s9.heap ∧ (∀ b ∈ fp, H' b = none) ∧ W i m σ' H' := fun {H9 s9 σ9} J9 q9 => by
        obtain ⟨m', hm, w9⟩ := hNn σ9 H9 q9
        refine ⟨m', hm, i + 1, σ9, H9, J9.unpinned, T.keep _ _ _ st6 fun b hb o e => (J9.pin (b, o) (List.mem_append_right _ (List.mem_append_right _ (mem_pinsAt hb e)))).1, fun b hb => ?_, w9⟩
        obtain ⟨o, e, d⟩ := T.obj _ _ st6 b hb
        exact (J9.pin (b, o) (List.mem_append_right _ (List.mem_append_right _ (mem_pinsAt hb e)))).2.1
      subst hX'
      refine wpAny_mono (hg cl C fp s3 H3 _ s6 σ4 H6 x u _ J6' r6 (step x H6 y6)) (fun _ s7 q7 => ?_) fun _ _ z => z
      obtain ⟨σ7, H7, J7, q7⟩ := q7
      refine wpAny_mono (hf cl C fp s3 H3 _ s7 σ7 H7 _ J7 q7) (fun ok s8 q8 => ?_) fun _ _ z => z
      obtain ⟨H8, J8, q8⟩ := q8
      cases ok with
      | false =>
        rw [if_neg (by decide)] at q8
        rw [if_neg (by decide)]
        exact again J8 q8
      | true =>
        rw [if_pos rfl] at q8
        rw [if_pos rfl]
        refine wpAny_mono (he cl C fp s3 H3 _ s8 σ7 H8 _ J8 q8) (fun v9 s9 q9 => ?_) fun _ _ z => z
        obtain ⟨y, H9, J9, r9, xs, hD9, hz, q9⟩ := q9
        refine wpAny_mono (mt_append (X := cxComp X N scope cl C fp s3 H3) _ s9 σ7 H9 (.ref D) [y] (.ref D) [v9] (fun _ H' => Nn σ7 H') J9 rfl (.cons r9 .nil) ⟨D, xs, y, rfl, rfl, hD9, hz, q9⟩) (fun _ s10 q10 => ?_) fun _ _ z => z
        obtain ⟨_, H10, J10, _, q10⟩ := q10
        exact again J10 q10
  exact codeAny_compStart_list (loop _ rfl) (T.self _ 0 _ _ _ st4 (loop _ rfl))
theorem pe_comp (hc : X.calm = true) (ho : compOk X.N X.env.scope N caps scope = true) (hi : PI X tg iter wi)
    (hg : ∀ cl C fp s H, PG (cxComp X N scope cl C fp s H) tg g) (hf : ∀ cl C fp s H, PF (cxComp X N scope cl C fp s H) ifs tf) (he : ∀ cl C fp s H, PE (cxComp X N scope cl C fp s H) elt te)
    (hs : ∀ x, foldedSetIterable iter X.env x = pure x := by intro _; rfl) : PE X (.ListComp elt [⟨tg, iter, ifs, 0⟩] scope pos) (tComp caps wi g tf te) := by
  intro pins s σ H Q I h
  have S := compOk_of ho
  obtain ⟨cl, hcl, c1, c2⟩ := closFor (scope := scope) (env := X.env) (fun y hy e => I.ok.has y.1 (S.fr y hy e))
  rw [eval_ListComp]
  refine wpAny_comprehension_free (use := none) rfl hs hcl S.kind S.loc (comp_core (RR := fun acc C => compPost (model X.prog X.w) X.A X.xe none (EP X pins σ Q) acc C) hc S hi hg hf he c1 c2 I h ?_)
  intro D C m H5 s5 I5 hn fC q
  exact ⟨m, hn, fun h' sb => ⟨.ref D, H5, I5.turned (t' := s5.toks) (fun b o hb e => (sb.2 b hb).trans e) fC.1 fC.2.1 fC.2.2.2.1 fC.2.2.2.2.1 fC.2.2.2.2.2, rfl, q⟩⟩
end
end L2
namespace L2
open PySem PySem.Spec PyProof.Rows
theorem comp_by {J : It} {g : TG} {tf : TT} {te : TE} {D : Addr} {QE : Hp → Prop} {σ : St} {H : Hp} (n : Nat) (Pv : Nat → St → Hp → Prop) (h0 : Pv 0 σ H) (hgo : ∀ i σ H, i < n → Pv i σ H → J.go i H) (hst : ∀ σ H, Pv n σ H → J.stop n H ∧ QE H)
    (hs : ∀ i σ H, i < n → Pv i σ H → ∀ x H', J.yld i H x H' → g x σ H' fun σ2 H2 => tf σ2 H2 fun b H3 => if b = true then te σ2 H3 fun v H4 => ∃ xs, H4 D = some (.lst xs) ∧ xs.length < sizeLine ∧ Pv (i + 1) σ2 (upd H4 D (.lst (xs ++ [v]))) else Pv (i + 1) σ2 H3) :
    ∃ W : Nat → Nat → St → Hp → Prop, (∃ m, W 0 m σ H) ∧ CompW J g tf te D QE W := by
  refine ⟨fun i m σ H => m = n - i ∧ i ≤ n ∧ Pv i σ H, ⟨n, by simp, Nat.zero_le _, h0⟩, ?_⟩
  rintro i m σ H ⟨rfl, hi, p⟩
  by_cases hlt : i < n
  · exact .inr ⟨hgo i σ H hlt p, Pv (i + 1), fun σ' H' p' => ⟨n - (i + 1), by omega, rfl, hlt, p'⟩, hs i σ H hlt p⟩
  · have e : i = n := by omega
    subst e
    exact .inl (hst σ H p)
theorem for_by {J : It} {g : TG} {tb : TS} {D : Ends} {σ : St} {H : Hp} (n : Nat) (Pv : Nat → St → Hp → Prop) (h0 : Pv 0 σ H) (hgo : ∀ i σ H, i < n → Pv i σ H → J.go i H) (hst : ∀ σ H, Pv n σ H → J.stop n H ∧ D.nx σ H)
    (hs : ∀ i σ H, i < n → Pv i σ H → ∀ x H', J.yld i H x H' → g x σ H' fun σ2 H2 => tb { D with nx := Pv (i + 1), ct := Pv (i + 1), bk := D.nx } σ2 H2) :
    ∃ W : Nat → Nat → St → Hp → Prop, (∃ m, W 0 m σ H) ∧ ∀ i m σ H, W i m σ H →
      (J.stop i H ∧ D.nx σ H) ∨ (J.go i H ∧ ∃ N : St → Hp → Prop, (∀ σ' H', N σ' H' → ∃ m', m' < m ∧ W (i + 1) m' σ' H') ∧ ∀ x H', J.yld i H x H' → g x σ H' fun σ2 H2 => tb { D with nx := N, ct := N, bk := D.nx } σ2 H2) := by
  refine ⟨fun i m σ H => m = n - i ∧ i ≤ n ∧ Pv i σ H, ⟨n, by simp, Nat.zero_le _, h0⟩, ?_⟩
  rintro i m σ H ⟨rfl, hi, p⟩
  by_cases hlt : i < n
  · exact .inr ⟨hgo i σ H hlt p, Pv (i + 1), fun σ' H' p' => ⟨n - (i + 1), by omega, rfl, hlt, p'⟩, hs i σ H hlt p⟩
  · have e : i = n := by omega
    subst e
    exact .inl (hst σ H p)
section
variable {X : Cx} {tg : Expr}
end
def cutS (z : Str) (lo hi : Option Int) : Str := ⟨((z.cps.toList.drop (HT.sIx z.length 0 lo)).take (HT.sIx z.length z.length hi - HT.sIx z.length 0 lo)).toArray⟩
theorem strSlice_pick (lo hi : Option Int) (n : Nat) : Builtin.Str.strSliceIndices lo hi 1 n = (List.range (HT.sIx n n hi - HT.sIx n 0 lo)).map (HT.sIx n 0 lo + ·) := by
  have h : Builtin.Str.strSliceIndices lo hi 1 n = sliceRange ((HT.sIx n 0 lo : Nat) : Int) ((HT.sIx n n hi : Nat) : Int) 1 := by
    unfold Builtin.Str.strSliceIndices
    simp only [show (1 : Int) > 0 by decide, if_true]
    congr 1
    · cases lo with
      | none => rfl
      | some i =>
        rw [← HT.clip_eq i n 0]
        show max 0 (min (if i < 0 then i + (n : Int) else i) (n : Int)) = _
        split <;> omega
    · cases hi with
      | none => rfl
      | some i =>
        rw [← HT.clip_eq i n n]
        show max 0 (min (if i < 0 then i + (n : Int) else i) (n : Int)) = _
        split <;> omega
  rw [h]
  unfold sliceRange
  simp only [show (1 : Int) > 0 by decide, if_true]
  have e2 : (if ((HT.sIx n 0 lo : Nat) : Int) < ((HT.sIx n n hi : Nat) : Int) then (((HT.sIx n n hi : Nat) : Int) - ((HT.sIx n 0 lo : Nat) : Int) + 1 - 1) / 1 else 0).toNat = HT.sIx n n hi - HT.sIx n 0 lo := by
    split
    · rw [Int.ediv_one]; omega
    · omega
  rw [e2]
  apply List.map_congr_left
  intro k _
  omega
theorem pick_signs (xs : Array Nat) (i k : Nat) : (((List.range k).map (i + ·)).filterMap (xs[·]?)) = (xs.toList.drop i).take k := by
  induction k with
  | zero => simp
  | succ k ih =>
    rw [List.range_succ, List.map_append, List.filterMap_append, ih, List.take_succ]
    congr 1
    simp only [List.map_cons, List.map_nil, List.getElem?_drop, Array.getElem?_toList]
    cases h : xs[i + k]? <;> simp [h]
theorem cutS_length (z : Str) (lo hi : Option Int) : (cutS z lo hi).length ≤ z.length := by
  show ((z.cps.toList.drop _).take _).toArray.size ≤ z.length
  rw [List.size_toArray, List.length_take, List.length_drop]
  have : z.cps.toList.length = z.length := by simp [Str.length]
  omega
section
variable {X : Cx}
def rSlS : V → Option Int → Option Int → Hp → VK → Prop := fun x lo hi H Q => ∃ z, x = .str z ∧ z.length ≤ sizeLine ∧ Q (.str (cutS z lo hi)) H
theorem sl_str : SlR X rSlS := by
  intro pins s σ H x v vl vu lo hi sl Q I rx hs pl pu h
  obtain ⟨z, rfl, hzl, q⟩ := h
  obtain ⟨t, rfl⟩ := rx
  refine ⟨"str", _, F.slot_str_getitem.lookup, typeIs_str s z t, ?_⟩
  obtain ⟨l, rfl, el⟩ : ∃ l : Option (Int × Tok), vl = partValue l ∧ l.map (·.1) = lo := by
    cases pl with
    | none => exact ⟨none, rfl, rfl⟩
    | int i t => exact ⟨some (i, t), rfl, rfl⟩
  obtain ⟨u, rfl, eu⟩ : ∃ u : Option (Int × Tok), vu = partValue u ∧ u.map (·.1) = hi := by
    cases pu with
    | none => exact ⟨none, rfl, rfl⟩
    | int i t => exact ⟨some (i, t), rfl, rfl⟩
  refine wpAny_getItem_str_slice (l := l) (u := u) (st := none) hs rfl ?_
  have ep : slicePicked z l u none = (List.range (HT.sIx z.length z.length hi - HT.sIx z.length 0 lo)).map (HT.sIx z.length 0 lo + ·) := by
    unfold slicePicked
    rw [el, eu]
    exact strSlice_pick lo hi z.length
  have ec : (slicePicked z l u none).filterMap (z.cps[·]?) = (z.cps.toList.drop (HT.sIx z.length 0 lo)).take (HT.sIx z.length z.length hi - HT.sIx z.length 0 lo) := by
    rw [ep, pick_signs]
  unfold sliceMade
  split
  · rename_i hw
    have hlen : (slicePicked z l u none).length = z.length := by simpa using hw
    have e : cutS z lo hi = z := by
      have hl : z.cps.toList.length = z.length := by simp [Str.length]
      rw [ep, List.length_map, List.length_range] at hlen
      have h1 := HT.sIx_le z.length z.length (Nat.le_refl _) hi
      have a0 : HT.sIx z.length 0 lo = 0 ∨ z.length = 0 := by omega
      unfold cutS
      rcases a0 with a0 | a0
      · rw [hlen, a0, List.drop_zero, List.take_of_length_le (by omega)]
      · have z0 : z.cps.toList = [] := List.eq_nil_of_length_eq_zero (by omega)
        rw [z0, List.drop_nil, List.take_nil]
        cases z with
        | mk cps =>
          congr 1
          exact (Array.toList_inj.mp z0).symm
    rw [e] at q
    exact ⟨.str z, H, I, ⟨t, rfl⟩, q⟩
  · have e : (⟨((slicePicked z l u none).filterMap (z.cps[·]?)).toArray⟩ : Str) = cutS z lo hi := by
      unfold cutS
      rw [ec]
    rw [e]
    exact ⟨Nat.le_trans (cutS_length z lo hi) hzl, .str (cutS z lo hi), H, I.tok _, ⟨_, rfl⟩, q⟩
end
end L2
namespace L2
open PySem PySem.Spec PyProof.Rows
section
variable {X : Cx}
def tyTs : List String := ["NoneType", "bool", "int", "str", "list", "tuple", "dict"]
def tyNs : List String := ["bool", "int", "str", "list", "tuple", "dict"]
def tyIs (T n : String) : Bool := T == n || (T == "bool" && n == "int")
theorem kit_tab : ∀ T ∈ tyTs, ∀ n ∈ tyNs, PySem.W.kitMeta n = true ∧ (PySem.fastBuiltinMro T).map (·.contains (Value.type n)) = some (tyIs T n) := by decide +kernel
theorem kit_one {K : PySem.W.Frag} {T n : String} (hT : T ∈ tyTs) (hn : n ∈ tyNs) : PySem.W.kitOne K (.type T) (.type n) = some (tyIs T n) := by
  obtain ⟨h1, h2⟩ := kit_tab T hT n hn
  unfold PySem.W.kitOne
  split
  · rename_i e
    have e' := eq_of_beq e
    injection e' with e''
    subst e''
    simp [tyIs]
  · unfold PySem.W.kitCls
    show (if PySem.W.kitMeta n = true then PySem.W.subIn K (.type T) (.type n) else none) = _
    rw [if_pos h1]
    exact h2
theorem call_isi (K : PySem.W.Frag) (hK : X.K = K := by rfl) : CallR X (.builtin "isinstance") (fun xs H Q => ∃ x n T, xs = [x, .ty n] ∧ TyOf K H x (.type T) ∧ T ∈ tyTs ∧ n ∈ tyNs ∧ Q (.bl (tyIs T n)) H) := by
  subst hK
  intro pins s σ H xs us Q I r h
  obtain ⟨x, n, T, rfl, ty, hT, hn, q⟩ := h
  obtain ⟨u, c, rfl, ru, rc⟩ := vals2 r
  cases rc
  exact isinst_ok I ru ty (kit_one hT hn) fun tk => ⟨.bl _, H, I.tok tk, rfl, q⟩
theorem pe_ty {x : Str} {n : String} {pos : Pos} (hg : Gl X x) (hm : X.mg x = none) (hv : bootBuiltins x = some (.type n)) (hn : x ≠ "__name__" := by decide) (hd : (x == ("__debug__" : Str)) = false := by decide) : PE X (.Name x pos) (tC (.ty n)) :=
  pe_bltn hg hm hv rfl hn hd
end
structure Top (K : PySem.W.Frag) (mg : Str → Option Value) (x : Str) (st : Stmt) (ps : List Str) : Prop where
  ex : ∃ f fd, Fun K x x st f fd ∧ mg x = some (.ref f) ∧ ∀ us : List Value, us.length = ps.length → bindArgs fd ⟨us, []⟩ = pure (ps.zip us)
theorem top_mk {K : PySem.W.Frag} {h : Heap} {mg : Str → Option Value} {x : Str} {st : Stmt} {ps : List Str} {f : Addr} {oc : Value} {od an : Option Addr} {osl : Array (Option Value)} {kV doc pm cdv ct : Value} (X : K.In h) (G : h.Ns mainGlobals mg)
    (b : ∀ (kV doc pm : Value) (an : Option Addr) (cdv ct : Value) (us : List Value), us.length = ps.length → bindArgs (PySem.W.fnOf x x (defArgs st) (defBody st) (defScope st) .none kV doc pm an cdv ct) ⟨us, []⟩ = pure (ps.zip us))
    (a : PySem.W.nsIn K mainGlobals x = some (some (.ref f)))
    (l : K.lookup f = some ⟨oc, od, .func (PySem.W.fnOf x x (defArgs st) (defBody st) (defScope st) .none kV doc pm an cdv ct), osl⟩) (c : PySem.W.codeIn K cdv x = true) (k : PySem.W.keepIn K (.ref f) = true) : Top K mg x st ps := by
  have F := fun_mk (st := st) l c k
  exact ⟨f, _, F, PySem.W.mg_of X G a, b kV doc pm an cdv ct⟩
structure Def (P : Program) (w : World) (K : PySem.W.Frag) (mg : Str → Option Value) (base : Heap) (k : Nat) (x : Str) (ps : List Str) (sp : Sp) : Prop where
  ex : ∃ f fd, FnOk P w K mg base CX0 k f fd ps sp ∧ mg x = some (.ref f) ∧ PySem.W.keepIn K (.ref f) = true ∧ Binds K fd ps []
theorem Top.ok {P : Program} {w : World} {K : PySem.W.Frag} {mg : Str → Option Value} {base : Heap} {x : Str} {st : Stmt} {N ps : List Str} {k : Nat} {sp : Sp} (T : Top K mg x st ps) (S : FnScope N ps (defScope st)) (len : ∀ vs H Q E, sp vs H Q E → vs.length = ps.length)
    (hbody : ∀ (f : Addr) (cdv : Value) (A : Around) (outer : List Env) (s : Shared) (H : Hp) (vs : List V) (Q : VK) (E : XK), Room k (A.deeper (envOfC x (defScope st) s.heap.objs.size f cdv)) → sp vs H Q E →
      ∃ t, PSs (cxOf CX0 P w K mg base N x (defScope st) f cdv A outer s H E).nox (defBody st) t ∧ t { nx := fun _ H' => Q .non H', rt := Q } (start N vs) H) : Def P w K mg base (k + 1) x ps sp := by
  obtain ⟨f, fd, F, hm, hb⟩ := T.ex
  exact ⟨f, fd, F.ok S len (hbody f), hm, F.kp, Binds.all hb⟩
theorem Top.fin {l : PySem.W.OpenLaw} {w : World} {K : PySem.W.Frag} {mg : Str → Option Value} {fa : Addr} {x : Str} {st : Stmt} {N : List Str} {k : Nat} {sp : Sp} (T : Top K mg "law" st [x]) (hfa : mg "law" = some (.ref fa)) (S : FnScope N [x] (defScope st))
    (len : ∀ vs H Q E, sp vs H Q E → vs.length = [x].length)
    (hbody : ∀ (base : Heap) (f : Addr) (cdv : Value) (A : Around) (outer : List Env) (s : Shared) (H : Hp) (vs : List V) (Q : VK) (E : XK), Room k (A.deeper (envOfC "law" (defScope st) s.heap.objs.size f cdv)) → sp vs H Q E →
      ∃ t, PSs (cxOf CX0 l.prog w K mg base N "law" (defScope st) f cdv A outer s H E).nox (defBody st) t ∧ t { nx := fun _ H' => Q .non H', rt := Q } (start N vs) H) :
    ∃ fd : FuncData, (∀ (s : Shared) (v : Value), BindsTo s fd ⟨[v], []⟩ [(x, v)]) ∧ ∀ base : Heap, K.In base → base.Ns mainGlobals mg → FnOk l.prog w K mg base CX0 (k + 1) fa fd [x] sp := by
  obtain ⟨f, fd, F, hm, hb⟩ := T.ex
  have e := hfa.symm.trans hm
  injection e with e
  injection e with e
  subst e
  exact ⟨fd, fun s v => .of_eq (hb [v] rfl), fun base _ _ => F.ok S len (hbody base fa)⟩
theorem Def.mono {P : Program} {w : World} {K : PySem.W.Frag} {mg : Str → Option Value} {base : Heap} {x : Str} {ps : List Str} {j k : Nat} {sp : Sp} (D : Def P w K mg base j x ps sp) (h : j ≤ k) : Def P w K mg base k x ps sp := by
  obtain ⟨f, fd, F, r⟩ := D.ex
  exact ⟨f, fd, F.mono h, r⟩
section
variable {X : Cx} {k k' : Nat} {x : Str} {ps : List Str} {sp : Sp} {p pos : Pos} {e : Expr} {es : List Expr} {t : TA}
theorem pe_def (D : Def X.prog X.w X.K X.mg X.base k x ps sp) (hr : Room k' X.A) (hg : Gl X x) (ha : PA X (e :: es) t) (hkk : k ≤ k' := by decide)
    (hdb : (x == ("__debug__" : Str)) = false := by decide) (he : starEach (e :: es) X.env = (false, eval e X.env) :: starEach es X.env := by rfl) (hpl : (backTo pos (starEach es X.env)).any (·.1) = false := by rfl) :
    PE X (.Call (.Name x p) (e :: es) [] pos) (tCall sp [] E0 t) := by
  obtain ⟨f, fd, F, hm, hk, hb⟩ := D.ex
  exact pe_call F (hr.mono hkk) hg hm hk hb .nil pass0 ha hdb he hpl
end
end L2
namespace L2
open PySem PySem.Spec PyProof.Rows
section
variable {X : Cx} {tg : Expr}
theorem call_lenK (K : PySem.W.Frag) (hK : X.K = K := by rfl) : CallR X (.builtin "len") (fun xs H Q => ∃ x n, xs = [x] ∧ LenV K x H n ∧ Q (.int n) H) := by subst hK; exact call_len
theorem ix_listK (K : PySem.W.Frag) (hK : X.K = K := by rfl) : IxR X (rIxL K) := by subst hK; exact ix_list
theorem ix_tupK (K : PySem.W.Frag) (hK : X.K = K := by rfl) : IxR X (rIxT K) := by subst hK; exact ix_tup
theorem sl_listK (K : PySem.W.Frag) (hK : X.K = K := by rfl) : SlR X (rSlL K) := by subst hK; exact sl_list
theorem pi_listK (K : PySem.W.Frag) {l : Expr} {tl : TE} (hl : PE X l tl) (hK : X.K = K := by rfl) : PI X tg l (iList K tl) := by subst hK; exact pi_list hl
theorem pi_tupK (K : PySem.W.Frag) {l : Expr} {tl : TE} (hl : PE X l tl) (hK : X.K = K := by rfl) : PI X tg l (iTup K tl) := by subst hK; exact pi_tup hl
theorem call_listK (K : PySem.W.Frag) (hK : X.K = K := by rfl) : CallR X (.type "list") (fun xs H Q => ∃ p ys, xs = [.ref p] ∧ (SqL K H p ys ∨ SqT K H p ys) ∧ ∀ l, H l = none → Q (.ref l) (upd H l (.lst ys))) := by subst hK; exact call_list_of
theorem call_tupleK (K : PySem.W.Frag) (hK : X.K = K := by rfl) : CallR X (.type "tuple") (fun xs H Q => ∃ p ys, xs = [.ref p] ∧ ((SqL K H p ys ∧ ∀ l, H l = none → Q (.ref l) (upd H l (.tup ys))) ∨ (SqT K H p ys ∧ Q (.ref p) H))) := by subst hK; exact call_tuple_of
end
theorem atI_in {α : Type} {xs : List α} {i : Int} (h0 : 0 ≤ i) (h1 : i < xs.length) : ∃ v, atI xs i = some v ∧ v ∈ xs := by
  have hlt : i.toNat < xs.length := by omega
  refine ⟨xs[i.toNat], ?_, List.getElem_mem hlt⟩
  unfold atI ixN
  rw [if_pos h0, if_pos h1]
  show xs[i.toNat]? = _
  exact List.getElem?_eq_getElem hlt
theorem atI_lt {α : Type} {xs : List α} {i : Int} (h0 : 0 ≤ i) (h1 : i < xs.length) : atI xs i = xs[i.toNat]? := by
  unfold atI ixN
  rw [if_pos h0, if_pos h1]
  rfl
theorem same_upd {H : Hp} {a : Addr} {o : HO} (h : H a = none) : Same H (upd H a o) := fun b u e => by
  rw [upd_ne (ne_of_none e h)]
  exact e
theorem Same.set {H H' : Hp} {a : Addr} {o : HO} (h : Same H H') (n : H a = none) : Same H (upd H' a o) := fun b u e => by
  rw [upd_ne (ne_of_none e n)]
  exact h b u e
theorem Same.seqT {K : PySem.W.Frag} {H H' : Hp} {a : Addr} {xs : List V} (e : Same H H') (h : SqT K H a xs) : SqT K H' a xs := by
  rcases h with (h | ⟨o, h⟩) | h
  · exact .inl (.inl (e _ _ h))
  · exact .inl (.inr ⟨o, e _ _ h⟩)
  · exact .inr h
theorem TyOf.same {K : PySem.W.Frag} {H H' : Hp} {x : V} {t : Value} (s : Same H H') (h : TyOf K H x t) : TyOf K H' x t := by
  cases h with
  | non => exact .non
  | bl b => exact .bl b
  | int i => exact .int i
  | str x => exact .str x
  | flt x => exact .flt x
  | lst e => exact .lst (s _ _ e)
  | frz e => exact .frz (s _ _ e)
  | tup e => exact .tup (s _ _ e)
  | dK e => exact .dK (s _ _ e)
  | dT e => exact .dT (s _ _ e)
  | ins e cl ha hn ht hm => exact .ins (s _ _ e) cl ha hn ht hm
def notStar : Expr → Bool
  | .Starred _ _ => false
  | _ => true
theorem starEach_cons {e : Expr} {es : List Expr} {env : Env} (h : notStar e = true) : starEach (e :: es) env = (false, eval e env) :: starEach es env := by
  cases e <;> first
    | rfl
    | cases h
theorem pa_con {X : Cx} {e : Expr} {es : List Expr} {te : TE} {t : TA} (ha : PE X e te) (hr : PA X es t) (hs : notStar e = true := by rfl) : PA X (e :: es) (tCons te t) := pa_cons ha hr (starEach_cons hs)
theorem bt_len : bootBuiltins "len" = some (.builtin "len") := by decide +kernel
theorem bt_isinstance : bootBuiltins "isinstance" = some (.builtin "isinstance") := by decide +kernel
theorem bt_sorted : bootBuiltins "sorted" = some (.builtin "sorted") := by decide +kernel
theorem bt_str : bootBuiltins "str" = some (.type "str") := by decide +kernel
theorem bt_int : bootBuiltins "int" = some (.type "int") := by decide +kernel
theorem bt_bool : bootBuiltins "bool" = some (.type "bool") := by decide +kernel
theorem bt_list : bootBuiltins "list" = some (.type "list") := by decide +kernel
theorem bt_tuple : bootBuiltins "tuple" = some (.type "tuple") := by decide +kernel
theorem getD_lt {α : Type} {l : List α} {i : Nat} {d : α} (h : i < l.length) : l.getD i d = l[i] := by
  rw [List.getD_eq_getElem?_getD, List.getElem?_eq_getElem h]
  rfl
theorem getD_ge {α : Type} {l : List α} {i : Nat} {d : α} (h : l.length ≤ i) : l.getD i d = d := by
  rw [List.getD_eq_getElem?_getD, List.getElem?_eq_none_iff.mpr h]
  rfl
theorem pa_1 {X : Cx} {e0 : Expr} {t0 : TE} (h0 : PE X e0 t0) (hs0 : notStar e0 = true := by rfl) : PA X [e0] (tCons t0 tNil) := (pa_con h0 pa_nil hs0)
theorem pa_2 {X : Cx} {e0 e1 : Expr} {t0 t1 : TE} (h0 : PE X e0 t0) (h1 : PE X e1 t1) (hs0 : notStar e0 = true := by rfl) (hs1 : notStar e1 = true := by rfl) : PA X [e0, e1] (tCons t0 (tCons t1 tNil)) := (pa_con h0 (pa_con h1 pa_nil hs1) hs0)
theorem pa_3 {X : Cx} {e0 e1 e2 : Expr} {t0 t1 t2 : TE} (h0 : PE X e0 t0) (h1 : PE X e1 t1) (h2 : PE X e2 t2) (hs0 : notStar e0 = true := by rfl) (hs1 : notStar e1 = true := by rfl) (hs2 : notStar e2 = true := by rfl) : PA X [e0, e1, e2] (tCons t0 (tCons t1 (tCons t2 tNil))) := (pa_con h0 (pa_con h1 (pa_con h2 pa_nil hs2) hs1) hs0)
theorem pss_2 {X : Cx} {s0 s1 : Stmt} {t0 t1 : TS} (h0 : PS X s0 t0) (h1 : PS X s1 t1) : PSs X [s0, s1] (tSeq t0 t1) := (pss_cons h0 (pss_one h1))
theorem pss_3 {X : Cx} {s0 s1 s2 : Stmt} {t0 t1 t2 : TS} (h0 : PS X s0 t0) (h1 : PS X s1 t1) (h2 : PS X s2 t2) : PSs X [s0, s1, s2] (tSeq t0 (tSeq t1 t2)) := (pss_cons h0 (pss_cons h1 (pss_one h2)))
theorem pss_4 {X : Cx} {s0 s1 s2 s3 : Stmt} {t0 t1 t2 t3 : TS} (h0 : PS X s0 t0) (h1 : PS X s1 t1) (h2 : PS X s2 t2) (h3 : PS X s3 t3) : PSs X [s0, s1, s2, s3] (tSeq t0 (tSeq t1 (tSeq t2 t3))) := (pss_cons h0 (pss_cons h1 (pss_cons h2 (pss_one h3))))
theorem pss_6 {X : Cx} {s0 s1 s2 s3 s4 s5 : Stmt} {t0 t1 t2 t3 t4 t5 : TS} (h0 : PS X s0 t0) (h1 : PS X s1 t1) (h2 : PS X s2 t2) (h3 : PS X s3 t3) (h4 : PS X s4 t4) (h5 : PS X s5 t5) : PSs X [s0, s1, s2, s3, s4, s5] (tSeq t0 (tSeq t1 (tSeq t2 (tSeq t3 (tSeq t4 t5))))) := (pss_cons h0 (pss_cons h1 (pss_cons h2 (pss_cons h3 (pss_cons h4 (pss_one h5))))))
theorem pss_8 {X : Cx} {s0 s1 s2 s3 s4 s5 s6 s7 : Stmt} {t0 t1 t2 t3 t4 t5 t6 t7 : TS} (h0 : PS X s0 t0) (h1 : PS X s1 t1) (h2 : PS X s2 t2) (h3 : PS X s3 t3) (h4 : PS X s4 t4) (h5 : PS X s5 t5) (h6 : PS X s6 t6) (h7 : PS X s7 t7) : PSs X [s0, s1, s2, s3, s4, s5, s6, s7] (tSeq t0 (tSeq t1 (tSeq t2 (tSeq t3 (tSeq t4 (tSeq t5 (tSeq t6 t7))))))) := (pss_cons h0 (pss_cons h1 (pss_cons h2 (pss_cons h3 (pss_cons h4 (pss_cons h5 (pss_cons h6 (pss_one h7))))))))
theorem pss_10 {X : Cx} {s0 s1 s2 s3 s4 s5 s6 s7 s8 s9 : Stmt} {t0 t1 t2 t3 t4 t5 t6 t7 t8 t9 : TS} (h0 : PS X s0 t0) (h1 : PS X s1 t1) (h2 : PS X s2 t2) (h3 : PS X s3 t3) (h4 : PS X s4 t4) (h5 : PS X s5 t5) (h6 : PS X s6 t6) (h7 : PS X s7 t7) (h8 : PS X s8 t8) (h9 : PS X s9 t9) : PSs X [s0, s1, s2, s3, s4, s5, s6, s7, s8, s9] (tSeq t0 (tSeq t1 (tSeq t2 (tSeq t3 (tSeq t4 (tSeq t5 (tSeq t6 (tSeq t7 (tSeq t8 t9))))))))) := (pss_cons h0 (pss_cons h1 (pss_cons h2 (pss_cons h3 (pss_cons h4 (pss_cons h5 (pss_cons h6 (pss_cons h7 (pss_cons h8 (pss_one h9))))))))))
theorem psr_4 {X : Cx} {s0 s1 s2 s3 : Stmt} {ss : List Stmt} {t0 t1 t2 t3 u : TS} (h0 : PS X s0 t0) (h1 : PS X s1 t1) (h2 : PS X s2 t2) (h3 : PS X s3 t3) (hu : PSs X ss u) : PSs X (s0 :: s1 :: s2 :: s3 :: ss) (tSeq t0 (tSeq t1 (tSeq t2 (tSeq t3 u)))) := (pss_cons h0 (pss_cons h1 (pss_cons h2 (pss_cons h3 hu))))
theorem join_at {X : Cx} {body : List Stmt} {D : Ends} {σ : St} {H : Hp} (n : Nat) (C : St → Hp → Prop) (rest : ∃ u, PSs X (body.drop n) u ∧ ∀ σ H, C σ H → u D σ H)
    (first : ∀ u, PSs X (body.drop n) u → (∀ σ H, C σ H → u D σ H) → ∃ t, PSs X body t ∧ t D σ H) : ∃ t, PSs X body t ∧ t D σ H :=
  let ⟨u, h1, h2⟩ := rest
  first u h1 h2
end L2
namespace L2
open PySem PySem.Spec PyProof.Rows
mutual
inductive Dat (K : PySem.W.Frag) (H : Hp) : PyData → V → Prop
  | non : Dat K H .none .non
  | bl (b : Bool) : Dat K H (.bool b) (.bl b)
  | int (i : Int) : Dat K H (.int i) (.int i)
  | str (x : Str) (h : PyData.strOk x = true) : Dat K H (.str x) (.str x)
  | lst {a : Addr} {xs : List V} {ds : List PyData} : SqL K H a xs → Dats K H ds xs → Dat K H (.list ds) (.ref a)
  | tup {a : Addr} {xs : List V} {ds : List PyData} : SqT K H a xs → Dats K H ds xs → Dat K H (.tuple ds) (.ref a)
inductive Dats (K : PySem.W.Frag) (H : Hp) : List PyData → List V → Prop
  | nil : Dats K H [] []
  | cons {d : PyData} {x : V} {ds : List PyData} {xs : List V} : Dat K H d x → Dats K H ds xs → Dats K H (d :: ds) (x :: xs)
end
section
variable {K : PySem.W.Frag} {H H' : Hp}
mutual
theorem Dat.same (s : Same H H') : ∀ (d : PyData) (x : V), Dat K H d x → Dat K H' d x
  | _, _, .non => .non
  | _, _, .bl b => .bl b
  | _, _, .int i => .int i
  | _, _, .str x h => .str x h
  | _, _, .lst h r => .lst (s.seq h) (Dats.same s _ _ r)
  | _, _, .tup h r => .tup (s.seqT h) (Dats.same s _ _ r)
theorem Dats.same (s : Same H H') : ∀ (ds : List PyData) (xs : List V), Dats K H ds xs → Dats K H' ds xs
  | _, _, .nil => .nil
  | _, _, .cons a b => .cons (Dat.same s _ _ a) (Dats.same s _ _ b)
end
mutual
theorem Dat.lay : ∀ (d : PyData) (x : V), Dat K H d x → d.canLay0 = true
  | _, _, .non => rfl
  | _, _, .bl _ => rfl
  | _, _, .int _ => rfl
  | _, _, .str _ h => h
  | _, _, .lst _ r => Dats.lay _ _ r
  | _, _, .tup _ r => Dats.lay _ _ r
theorem Dats.lay : ∀ (ds : List PyData) (xs : List V), Dats K H ds xs → PyData.canLayAll0 ds = true
  | _, _, .nil => rfl
  | _, _, .cons a b => by rw [PyData.canLayAll0, Dat.lay _ _ a, Dats.lay _ _ b]; rfl
end
end
section
variable {X : Cx} {pins : List (Addr × Obj)} {σ : St} {H : Hp} {s : Shared}
mutual
theorem Dat.reads (I : Inv X pins σ H s) : ∀ (d : PyData) (x : V) (u : Value), Dat X.K H d x → RelV x u → ∃ as, Reads s.heap u d as
  | _, _, _, .non, r => by cases r; exact ⟨_, .none⟩
  | _, _, _, .bl b, r => by cases r; exact ⟨_, .bool b⟩
  | _, _, _, .int i, r => by obtain ⟨t, rfl⟩ := r; exact ⟨_, .int i t⟩
  | _, _, _, .str x _, r => by obtain ⟨t, rfl⟩ := r; exact ⟨_, .str x t⟩
  | _, _, _, .lst h q, r => by
    cases r
    obtain ⟨its, rv, ⟨o, n, e, c, _, d⟩, _⟩ := I.list h
    obtain ⟨as, ra⟩ := Dats.reads I _ _ _ q rv
    exact ⟨_, .list e c d (by simpa using ra)⟩
  | _, _, _, .tup h q, r => by
    cases r
    obtain ⟨its, rv, ⟨o, e, c, n, d⟩, _⟩ := I.tuple h
    obtain ⟨as, ra⟩ := Dats.reads I _ _ _ q rv
    exact ⟨_, .tuple e c d (by simpa using ra)⟩
theorem Dats.reads (I : Inv X pins σ H s) : ∀ (ds : List PyData) (xs : List V) (us : List Value), Dats X.K H ds xs → Vals xs us → ∃ as, ReadsAll s.heap us ds as
  | _, _, _, .nil, r => by cases r; exact ⟨_, .nil⟩
  | _, _, _, .cons a b, r => by
    cases r with
    | cons r1 r2 =>
      obtain ⟨as, h1⟩ := Dat.reads I _ _ _ a r1
      obtain ⟨bs, h2⟩ := Dats.reads I _ _ _ b r2
      exact ⟨_, .cons h1 h2⟩
end
end
section
variable {X : Cx}
theorem units_of {u d e : Nat} (hu : u + 64 < cLine) (hd : d ≤ 60) : u + min d e < cLine := by
  have : min d e ≤ d := Nat.min_le_left _ _
  omega
def rEqD (K : PySem.W.Frag) : R2 := fun x y H Q => ∃ d e, Dat K H d x ∧ Dat K H e y ∧ d.depth ≤ 60 ∧ Q (.bl (PyData.eqv d e)) H
theorem op_eqD (hu : X.A.units + 64 < cLine) (K : PySem.W.Frag) (hK : X.K = K := by rfl) : OpR X (compareOp .Eq) (rEqD K) := by
  subst hK
  intro pins s σ H x y v u Q I rx ry h
  obtain ⟨d, e, hd, he, hz, q⟩ := h
  obtain ⟨as, ra⟩ := Dat.reads I _ _ _ hd rx
  obtain ⟨bs, rb⟩ := Dat.reads I _ _ _ he ry
  exact SeqAt.rcAt_reads ra rb (Dat.lay _ _ hd) (Dat.lay _ _ he) (units_of hu hz) X.prog X.w X.xe _ (fin_bl I q rfl)
end
def LtAt (A : Around) (s : Shared) (u v : Value) (r : Bool) : Prop :=
  ∀ (prog : Program) (w : World) (E : Value → Shared → Prop) (Q : Value → Shared → Prop), Q (.bool r) s → wpAny (model prog w) A (richCompare .Lt u v) Q E s
inductive LexAt (A : Around) (s : Shared) : List Value → List Value → Bool → Prop
  | nn : LexAt A s [] [] false
  | nc {v : Value} {vs : List Value} : LexAt A s [] (v :: vs) true
  | cn {u : Value} {us : List Value} : LexAt A s (u :: us) [] false
  | eq {u v : Value} {us vs : List Value} {r : Bool} : SeqAt.EqAt A s u v true → LexAt A s us vs r → LexAt A s (u :: us) (v :: vs) r
  | lt {u v : Value} {us vs : List Value} {r : Bool} : SeqAt.EqAt A s u v false → LtAt A s u v r → LexAt A s (u :: us) (v :: vs) r
section
open PySem.SeqAt
open PySem.AutoSeq1 (wpAny_loadPart')
open PySem.MeetsSeq PySem.MeetsSeq2 PySem.MeetsSeq3
theorem tuple_lt_any (l b : Addr) (items items2 : Array Value) (n n2 : Nat) (dd dd2 : Option Addr) (sl sl2 : Array (Option Value)) (r : Bool) :
    Meets (Builtin.«tuple.__lt__» ⟨[.ref l, .ref b], []⟩)
      (fun A R s => s.heap.get? l = some { cls := .type "tuple", dict := dd, data := .seq items n, slots := sl } ∧ s.heap.get? b = some { cls := .type "tuple", dict := dd2, data := .seq items2 n2, slots := sl2 } ∧
        LexAt A.in1 s items.toList items2.toList r ∧ R (.ok (.ret (.bool r))) s) :=
  .of_wp fun prog w A R s h => by
    obtain ⟨hp, g, d, tk, os⟩ := s; obtain ⟨hl, hb, hx, h⟩ := h
    have f2 := AutoSeq1.sub_tuple_tuple
    wp_walk using wpAny_loadPart' hl, wpAny_loadPart' hb, wpAny_forIn_list _ (fun rest b s' => b.1 = none ∧ s' = ⟨hp, g, d, tk, os⟩ ∧ ∃ (vs ws : List Value), rest = vs.zip ws ∧
      LexAt A.in1 ⟨hp, g, d, tk, os⟩ vs ws r ∧ vs.length + items2.size = ws.length + items.size) _
    case turn =>
      rintro ⟨y, x⟩ rest b s' ⟨hb', rfl, vs, ws, hz, hvi, hlen⟩
      cases hvi with
      | nn => rw [List.zip_nil_left] at hz; cases hz
      | nc => rw [List.zip_nil_left] at hz; cases hz
      | cn => rw [List.zip_nil_right] at hz; cases hz
      | eq he hr =>
        rw [List.zip_cons_cons] at hz
        injection hz with hyx hrest
        injection hyx with hy hx
        subst hy hx
        simp only [List.length_cons] at hlen
        refine wpAny_bind (he prog w _ _ ?_)
        wp_walk
        exact ⟨rfl, rfl, _, _, hrest, hr, by omega⟩
      | lt he hr =>
        rw [List.zip_cons_cons] at hz
        injection hz with hyx hrest
        injection hyx with hy hx
        subst hy hx
        refine wpAny_bind (he prog w _ _ ?_)
        have hri := hr prog w
        wp_walk using hri
        exact ⟨_, rfl, by simpa using h⟩
    case fin =>
      rintro ⟨b1, b2⟩ s' ⟨hb', rfl, vs, ws, hz, hvi, hlen⟩
      simp only at hb'
      subst hb'
      have hv : r = decide (items.size < items2.size) := by
        cases hvi with
        | nn =>
          simp only [List.length_nil] at hlen
          exact (decide_eq_false (by omega)).symm
        | nc =>
          simp only [List.length_nil, List.length_cons] at hlen
          exact (decide_eq_true (by omega)).symm
        | cn =>
          simp only [List.length_nil, List.length_cons] at hlen
          exact (decide_eq_false (by omega)).symm
        | eq _ _ => rw [List.zip_cons_cons] at hz; cases hz
        | lt _ _ => rw [List.zip_cons_cons] at hz; cases hz
      rw [hv] at h
      wp_walk
      exact ⟨_, rfl, by simpa [Builtin.Tuple.tupleCompareSizes] using h⟩
    case h =>
      exact ⟨rfl, rfl, items.toList, items2.toList, rfl, hx, by simp; omega⟩
end
theorem ltAt_tup {A : Around} {s : Shared} {l b : Addr} {items items2 : Array Value} {r : Bool} (hl : IsTup s.heap l items) (hb : IsTup s.heap b items2) (hx : LexAt A.in1 s items.toList items2.toList r) (hu : A.units < cLine) : LtAt A s (.ref l) (.ref b) r := by
  intro prog w E Q h
  obtain ⟨⟨cls, dd, data, sl⟩, ho, hc, n, hd⟩ := id hl
  obtain ⟨⟨cls2, dd2, data2, sl2⟩, ho2, hc2, n2, hd2⟩ := id hb
  simp only at hc hd hc2 hd2
  subst hc hd hc2 hd2
  exact richCompare_meets_room (op := .Lt) ⟨_, ho, rfl⟩ ⟨_, ho2, rfl⟩ PySem.F.slot_tuple_lt PySem.F.entry_tuple_lt (PySem.F.args_tuple_lt_2 _ _) (tuple_lt_any l b items items2 n n2 dd dd2 sl sl2 r)
    ⟨ho, ho2, hx, show Value.bool r ≠ Value.notImplemented ∧ Q (.bool r) s from ⟨(fun x => nomatch x), h⟩⟩ hu
mutual
def ltD? : PyData → PyData → Option Bool
  | .int a, .int b => some (decide (a < b))
  | .str a, .str b => some (decide (a.cps.toList < b.cps.toList))
  | .tuple as, .tuple bs => lexD? as bs
  | _, _ => none
def lexD? : List PyData → List PyData → Option Bool
  | [], [] => some false
  | [], _ :: _ => some true
  | _ :: _, [] => some false
  | a :: as, b :: bs => if PyData.eqv a b = true then lexD? as bs else ltD? a b
end
mutual
theorem ltAt_reads : ∀ (da db : PyData) (A : Around) (s : Shared) (a b : Value) (as bs : List Addr) (r : Bool), Reads s.heap a da as → Reads s.heap b db bs → da.canLay0 = true → db.canLay0 = true →
    A.units + min da.depth db.depth < cLine → ltD? da db = some r → LtAt A s a b r
  | .int x, db, A, s, _, _, _, _, r, ra, rb, ha, hb, hu, e => by
    cases ra
    cases rb <;> first
      | (cases e; intro prog w E Q h; exact (lt_int h : wpAny (model prog w) A (compareOp .Lt _ _) Q E s))
      | (exact nomatch e)
  | .str x, db, A, s, _, _, _, _, r, ra, rb, ha, hb, hu, e => by
    cases ra
    cases rb <;> first
      | (cases e; intro prog w E Q h; exact (lt_str h : wpAny (model prog w) A (compareOp .Lt _ _) Q E s))
      | (exact nomatch e)
  | .tuple xs, db, A, s, _, _, _, _, r, ra, rb, ha, hb, hu, e => by
    cases ra with
    | tuple h1 h2 h3 h4 =>
      cases rb with
      | tuple k1 k2 k3 k4 =>
        exact ltAt_tup ⟨_, h1, h2, _, h3⟩ ⟨_, k1, k2, _, k3⟩ (lexAt_reads xs _ A.in1 s _ _ _ _ r h4 k4 ha hb (SeqAt.room_in hu) e) (SeqAt.room_here hu)
      | none => exact nomatch e
      | bool => exact nomatch e
      | int => exact nomatch e
      | str => exact nomatch e
      | list => exact nomatch e
      | dict => exact nomatch hb
  | .none, _, _, _, _, _, _, _, _, _, _, _, _, _, e => by simp [ltD?] at e
  | .bool _, _, _, _, _, _, _, _, _, _, _, _, _, _, e => by simp [ltD?] at e
  | .list _, _, _, _, _, _, _, _, _, _, _, _, _, _, e => by simp [ltD?] at e
  | .dict _, _, _, _, _, _, _, _, _, _, _, ha, _, _, _ => nomatch ha
theorem lexAt_reads : ∀ (xs ys : List PyData) (A : Around) (s : Shared) (vs ws : List Value) (as bs : List Addr) (r : Bool), ReadsAll s.heap vs xs as → ReadsAll s.heap ws ys bs → PyData.canLayAll0 xs = true → PyData.canLayAll0 ys = true →
    A.units + min (PyData.depthAll xs) (PyData.depthAll ys) < cLine → lexD? xs ys = some r → LexAt A s vs ws r
  | [], [], _, _, _, _, _, _, r, ra, rb, _, _, _, e => by cases ra; cases rb; cases e; exact .nn
  | [], _ :: _, _, _, _, _, _, _, r, ra, rb, _, _, _, e => by cases ra; cases rb; cases e; exact .nc
  | _ :: _, [], _, _, _, _, _, _, r, ra, rb, _, _, _, e => by cases ra; cases rb; cases e; exact .cn
  | x :: xs, y :: ys, A, s, _, _, _, _, r, ra, rb, ha, hb, hu, e => by
    have ha' : x.canLay0 = true ∧ PyData.canLayAll0 xs = true := by simpa [PyData.canLayAll0] using ha
    have hb' : y.canLay0 = true ∧ PyData.canLayAll0 ys = true := by simpa [PyData.canLayAll0] using hb
    cases ra with
    | cons r1 rs =>
      cases rb with
      | cons r1' rs' =>
        have eq := SeqAt.eqAt_reads x y A s _ _ _ _ r1 r1' ha'.1 hb'.1 (SeqAt.room_head hu)
        rw [lexD?] at e
        cases q : PyData.eqv x y with
        | true =>
          rw [q] at eq
          rw [if_pos q] at e
          exact .eq eq (lexAt_reads xs ys A s _ _ _ _ r rs rs' ha'.2 hb'.2 (SeqAt.room_tail hu) e)
        | false =>
          rw [q] at eq
          rw [if_neg (by rw [q]; exact Bool.false_ne_true)] at e
          exact .lt eq (ltAt_reads x y A s _ _ _ _ r r1 r1' ha'.1 hb'.1 (SeqAt.room_head hu) e)
end
section
variable {X : Cx}
def rLtD (K : PySem.W.Frag) : R2 := fun x y H Q => ∃ d e r, Dat K H d x ∧ Dat K H e y ∧ d.depth ≤ 60 ∧ ltD? d e = some r ∧ Q (.bl r) H
theorem op_ltD (hu : X.A.units + 64 < cLine) (K : PySem.W.Frag) (hK : X.K = K := by rfl) : OpR X (compareOp .Lt) (rLtD K) := by
  subst hK
  intro pins s σ H x y v u Q I rx ry h
  obtain ⟨d, e, r, hd, he, hz, hr, q⟩ := h
  obtain ⟨as, ra⟩ := Dat.reads I _ _ _ hd rx
  obtain ⟨bs, rb⟩ := Dat.reads I _ _ _ he ry
  exact ltAt_reads d e X.A s v u _ _ r ra rb (Dat.lay _ _ hd) (Dat.lay _ _ he) (units_of hu hz) hr X.prog X.w X.xe _ (fin_bl I q rfl)
end
end L2
namespace L2
open PySem PySem.Spec PyProof.Rows
def tyD : PyData → String
  | .none => "NoneType"
  | .bool _ => "bool"
  | .int _ => "int"
  | .str _ => "str"
  | .list _ => "list"
  | .tuple _ => "tuple"
  | .dict _ => "dict"
theorem tyD_in (d : PyData) : tyD d ∈ tyTs := by
  cases d <;> simp [tyD, tyTs]
section
variable {X : Cx}
theorem call_isiD (K : PySem.W.Frag) (hK : X.K = K := by rfl) : CallR X (.builtin "isinstance") (fun xs H Q => ∃ x n d, xs = [x, .ty n] ∧ Dat K H d x ∧ n ∈ tyNs ∧ Q (.bl (tyIs (tyD d) n)) H) := by
  subst hK
  intro pins s σ H xs us Q I r h
  obtain ⟨x, n, d, rfl, hd, hn, q⟩ := h
  obtain ⟨u, c, rfl, ru, rc⟩ := vals2 r
  cases rc
  have e := kit_one (K := X.K) (tyD_in d) hn
  have fin : ∀ tk, EP X pins σ Q (.bool (tyIs (tyD d) n)) { s with toks := tk } := fun tk => ⟨.bl _, H, I.tok tk, rfl, q⟩
  cases hd with
  | non => cases ru; exact PySem.W.kia_one PySem.W.kitx_none I.kIn True.intro e (fun z => nomatch z) fin
  | bl b => cases ru; exact PySem.W.kia_one PySem.W.kitx_bool I.kIn True.intro e (fun z => nomatch z) fin
  | int i => obtain ⟨t, rfl⟩ := ru; exact PySem.W.kia_one PySem.W.kitx_int I.kIn True.intro e (fun z => nomatch z) fin
  | str z h => obtain ⟨t, rfl⟩ := ru; exact PySem.W.kia_one PySem.W.kitx_str I.kIn True.intro e (fun z => nomatch z) fin
  | lst hq _ =>
    cases ru
    obtain ⟨its, _, ⟨o, m, e1, c, _, _⟩, _⟩ := I.list hq
    exact PySem.W.kia_one PySem.W.kitx_list I.kIn ⟨o, e1, c⟩ e (fun z => nomatch z) fin
  | tup hq _ =>
    cases ru
    obtain ⟨its, _, ⟨o, e1, c, _⟩, _⟩ := I.tuple hq
    exact PySem.W.kia_one PySem.W.kitx_tuple I.kIn ⟨o, e1, c⟩ e (fun z => nomatch z) fin
def rNeD (K : PySem.W.Frag) : R2 := fun x y H Q => ∃ d e, Dat K H d x ∧ Dat K H e y ∧ d.depth ≤ 60 ∧ Q (.bl (!PyData.eqv d e)) H
theorem op_neD (hu : X.A.units + 64 < cLine) (K : PySem.W.Frag) (hK : X.K = K := by rfl) : OpR X (compareOp .NotEq) (rNeD K) := by
  subst hK
  intro pins s σ H x y v u Q I rx ry h
  obtain ⟨d, e, hd, he, hz, q⟩ := h
  obtain ⟨as, ra⟩ := Dat.reads I _ _ _ hd rx
  obtain ⟨bs, rb⟩ := Dat.reads I _ _ _ he ry
  exact SeqAt.compareNe_reads ra rb (Dat.lay _ _ hd) (Dat.lay _ _ he) (units_of hu hz) (fin_bl I q rfl)
end
end L2
namespace L2
open PySem PySem.Spec PyProof.Rows PySem.W
def RawD (h : Heap) (d : Addr) (es : Array DictEntry) (ep : Nat) : Prop := ∃ o, h.get? d = some o ∧ o.ExactDict ∧ o.data = .dict es ep
theorem RawD.lt {h : Heap} {d : Addr} {es : Array DictEntry} {ep : Nat} (x : RawD h d es ep) : d < h.objs.size := let ⟨_, e, _⟩ := x; Heap.lt_size e
theorem RawD.ty {s : Shared} {d : Addr} {es : Array DictEntry} {ep : Nat} (x : RawD s.heap d es ep) : s.TypeIs (.ref d) "dict" := let ⟨o, e, c, _⟩ := x; ⟨o, e, c.1⟩
theorem RawD.at {h h' : Heap} {d : Addr} {es : Array DictEntry} {ep : Nat} (x : RawD h d es ep) (k : ∀ o, h.get? d = some o → h'.get? d = some o) : RawD h' d es ep := let ⟨o, e, r⟩ := x; ⟨o, k o e, r⟩
section
variable {prog : Program} {w : World} {A : Around} {E : Value → Shared → Prop} {s : Shared} {d it : Addr} {es : Array DictEntry} {ep i : Nat}
theorem raw_iter {Q : Value → Shared → Prop} (hd : (d == sysModules) = false) (x : RawD s.heap d es ep)
    (q : Q (.ref s.heap.objs.size) { s with heap := s.heap.push { cls := .type "dict_keyiterator", data := .fields #[.ref d, .int 0 0, .int es.size 0, .int ep 0] } }) : wpAny (model prog w) A (pyIter (.ref d)) Q E s := by
  obtain ⟨o, ho, hc, hdat⟩ := id x
  refine wpAny_pyIter_slot x.ty PySem.F.slot_dict_iter (wpAny_call_entry PySem.F.slot_dict_iter x.ty PySem.F.entry_dict_iter ?_ (PySem.F.args_dict_iter_1 _))
  unfold Builtin.«dict.__iter__» Builtin.Dict.dictSlotNone
  refine wpAny_bind (wpAny_bind (wpAny_notOrdered_dict x.ty ?_))
  show wpAny _ _ (pure (Value.ref d)) _ _ s
  refine wpAny_pure ?_
  show wpAny _ _ (Builtin.Dict.showsAll d >>= _) _ _ s
  unfold Builtin.Dict.showsAll
  rw [if_neg (by rw [hd]; exact Bool.false_ne_true)]
  refine wpAny_bind (wpAny_pure (wpAny_bind (wpAny_dictEntries ho hdat (wpAny_bind (wpAny_dictEpoch ho hdat ?_)))))
  refine wpAny_bind (wpAny_newObj_type (wpAny_pure ⟨_, rfl, "dict_keyiterator", _, ⟨_, Heap.get?_push_size _ rfl, rfl⟩, PySem.F.slot_dict_keyiterator_next.lookup, ?_⟩))
  simpa [rawInt] using q
theorem raw_item {e : DictEntry} {Q : Option Value → Shared → Prop} (hit : s.heap.IsKeyIter it d i es.size ep) (x : RawD s.heap d es ep) (hx : es[i]? = some e)
    (q : ∀ h', h'.IsKeyIter it d (i + 1) es.size ep → Heap.SameBut it s.heap h' → Q (some e.key) { s with heap := h' }) : wpAny (model prog w) A (pyNext (.ref it)) Q E s := by
  obtain ⟨o, ho, hc, hd⟩ := id hit
  obtain ⟨od, hod, hcd, hdd⟩ := id x
  unfold pyNext
  refine wpAny_bind (wpAny_attempt (wpAny_callSpecial?_slot (name := Str.ofString "__next__") hit.typeIs PySem.F.slot_dict_keyiterator_next
    (wpAny_call_entry PySem.F.slot_dict_keyiterator_next hit.typeIs PySem.F.entry_dict_keyiterator_next ?_ (PySem.F.args_dict_keyiterator_next_1 _))))
  refine wpAny_bind (wpAny_pure (wpAny_bind (wpAny_bind ?_)))
  refine wpAny_bind (wpAny_typeNameOfWhole_keyiter hit.typeIs (wpAny_pure ?_))
  refine wpAny_bind (wpAny_fieldsOf ho hd ?_)
  simp only [show Builtin.Dict_items.ownsTuple "dict_keyiterator" = false by decide, Bool.false_eq_true, if_false]
  show wpAny _ _ (if (Value.ref d == Value.none) = true then _ else _) _ _ s
  rw [if_neg (show ¬ ((Value.ref d == Value.none) = true) from Bool.false_ne_true)]
  refine wpAny_bind (wpAny_pure (wpAny_bind (wpAny_dictEntries hod hdd ?_)))
  rw [if_neg (by simp)]
  refine wpAny_bind (wpAny_pure (wpAny_bind (wpAny_dictEpoch hod hdd ?_)))
  rw [if_neg (by simp)]
  refine wpAny_pure ?_
  simp only [show ¬ ((i : Int) < 0) from by omega, if_false, Int.toNat_natCast, hx]
  refine wpAny_bind ?_
  refine wpAny_bind (wpAny_typeNameOfWhole_keyiter hit.typeIs (wpAny_pure ?_))
  refine wpAny_bind (wpAny_isOneOf_keyiter hit.typeIs ?_)
  show wpAny _ _ (setField (.ref it) 1 (rawInt ((i : Int) + 1)) >>= _) _ _ s
  refine wpAny_bind (wpAny_setField ho hd (by simp) ?_)
  have hit' : (s.heap.update it (Obj.mapFields (·.setIfInBounds 1 (rawInt ((i : Int) + 1))))).IsKeyIter it d (i + 1) es.size ep :=
    ⟨_, Heap.get?_update_self _ ho (Obj.isFreed_of_fields (Obj.data_mapFields hd _)), (Obj.cls_mapFields ..).trans hc, by rw [Obj.data_mapFields hd]; simp [rawInt]⟩
  refine wpAny_bind (wpAny_holding ?_)
  refine wpAny_bind (wpAny_isOneOf_keyiter (s := { s with heap := s.heap.update it (Obj.mapFields (·.setIfInBounds 1 (rawInt ((i : Int) + 1)))) }) hit'.typeIs ?_)
  show wpAny _ _ (pure e.key) _ _ _
  exact wpAny_pure (wpAny_pure ⟨_, rfl, wpAny_pure (q _ hit' (Heap.SameBut.update ..))⟩)
theorem raw_end {Q : Option Value → Shared → Prop} (hh : A.handled = none) (hit : s.heap.IsKeyIter it d i es.size ep) (x : RawD s.heap d es ep) (hx : es.size ≤ i)
    (q : ∀ h', Heap.ExtBut it s.heap h' → Q none { s with heap := h' }) : wpAny (model prog w) A (pyNext (.ref it)) Q E s := by
  obtain ⟨o, ho, hc, hd⟩ := id hit
  obtain ⟨od, hod, hcd, hdd⟩ := id x
  unfold pyNext
  refine wpAny_bind (wpAny_attempt (wpAny_callSpecial?_slot (name := Str.ofString "__next__") hit.typeIs PySem.F.slot_dict_keyiterator_next
    (wpAny_call_entry PySem.F.slot_dict_keyiterator_next hit.typeIs PySem.F.entry_dict_keyiterator_next ?_ (PySem.F.args_dict_keyiterator_next_1 _))))
  refine wpAny_bind (wpAny_pure (wpAny_bind (wpAny_bind ?_)))
  refine wpAny_bind (wpAny_typeNameOfWhole_keyiter hit.typeIs (wpAny_pure ?_))
  refine wpAny_bind (wpAny_fieldsOf ho hd ?_)
  simp only [show Builtin.Dict_items.ownsTuple "dict_keyiterator" = false by decide, Bool.false_eq_true, if_false]
  show wpAny _ _ (if (Value.ref d == Value.none) = true then _ else _) _ _ s
  rw [if_neg (show ¬ ((Value.ref d == Value.none) = true) from Bool.false_ne_true)]
  refine wpAny_bind (wpAny_pure (wpAny_bind (wpAny_dictEntries hod hdd ?_)))
  rw [if_neg (by simp)]
  refine wpAny_bind (wpAny_pure (wpAny_bind (wpAny_dictEpoch hod hdd ?_)))
  rw [if_neg (by simp)]
  refine wpAny_pure ?_
  simp only [show ¬ ((i : Int) < 0) from by omega, if_false, Int.toNat_natCast, Array.getElem?_eq_none hx]
  refine wpAny_bind ?_
  refine wpAny_bind (wpAny_typeNameOfWhole_keyiter hit.typeIs (wpAny_pure ?_))
  show wpAny _ _ (setField (.ref it) 0 .none >>= _) _ _ s
  refine wpAny_bind (wpAny_setField ho hd (by simp) ?_)
  show wpAny _ _ (newExc (.type "StopIteration") [] >>= _) _ _ _
  refine wpAny_bind ?_
  simp only [newExc, newTuple]
  refine wpAny_bind (wpAny_newObj_type ?_ (by size_fits))
  refine wpAny_bind (m := firstArgMember _ _) (wpAny_of_eq (a := Value.none) (by first | rfl | (simp only [firstArgMember]; rfl)) ?_)
  refine wpAny_newObj_type ?_ (by size_fits)
  simp only [raiseNew]
  refine wpAny_bind (wpAny_handled ?_)
  rw [show A.in1.handled = none from hh]
  refine wpAny_bind (wpAny_pure (wpAny_throw ?_))
  refine wpAny_bind (wpAny_isInstance (T := "StopIteration") (b := true) ⟨_, Heap.get?_push_size _ rfl, rfl⟩ isSubtype_stop ?_)
  exact wpAny_pure (q _ (((Heap.SameBut.update ..).extBut.push _).push _))
theorem raw_walks (hh : A.handled = none) (I d : Addr) (hne : d ≠ I) (es : Array DictEntry) (ep : Nat) :
    Walks prog w A I [I, d] [I] es.size (fun i v => ∃ e, es[i]? = some e ∧ v = e.key) (fun i h => h.IsKeyIter I d i es.size ep ∧ RawD h d es ep) where
  sub := fun b hb => by simp at hb; simp [hb]
  frame := fun _ _ _ st hk => ⟨st.1.at fun o e => hk I (by simp) o e, st.2.at fun o e => hk d (by simp) o e⟩
  item := fun i s Q E hi st hQ => by
    have hx : es[i]? = some es[i] := Array.getElem?_eq_getElem hi
    refine raw_item st.1 st.2 hx fun h' hit' hs' => ?_
    exact hQ es[i].key h' s.toks ⟨es[i], hx, rfl⟩ ⟨hit', st.2.at fun o e => hs'.extBut d o hne e⟩ fun b o hb e => hs'.extBut b o (fun h => hb (by simp [h])) e
  done := fun s Q E st hQ => raw_end hh st.1 st.2 (Nat.le_refl _) fun h' he' => hQ h' s.toks fun b o hb e => he' b o (fun h => hb (by simp [h])) e
  self := fun _ _ _ _ st hQ => wpAny_pyIter_keyiter st.1 hQ
theorem raw_src (lo : (d == sysModules) = false) : KdlSrc prog w "dict" d d es.size (fun i v => ∃ e, es[i]? = some e ∧ v = e.key) (fun h => RawD h d es ep) where
  type := fun _ hm => hm.ty
  there := fun _ hm => ⟨hm.lt, hm.lt⟩
  keep := fun _ _ hm hk => hm.at fun o e => hk d (.inl rfl) o e
  notList := by decide
  notTuple := by decide
  hint := fun _ _ _ _ hm hq => kdl_hint_dict hm.ty hq
  iter := fun _ _ hh hm => ⟨_, _, (fun _ _ hq => raw_iter lo hm hq), raw_walks hh _ d (Nat.ne_of_lt hm.lt) es ep, ⟨⟨_, Heap.get?_push_size _ rfl, rfl, rfl⟩, hm.at fun o e => Heap.get?_push_of_some _ e⟩⟩
theorem raw_collect {R : List Value → Shared → Prop} (hh : A.handled = none) (lo : (d == sysModules) = false) (x : RawD s.heap d es ep) (hn : es.size ≤ sizeLine)
    (h : ∀ (h' : Heap) (tk : Nat), (∀ b o, s.heap.get? b = some o → h'.get? b = some o) → s.heap.objs.size ≤ h'.objs.size → R (es.toList.map (·.key)) { s with heap := h', toks := tk }) : wpAny (model prog w) A (collect (.ref d)) R E s := by
  have fin : ∀ (acc : Array Value), ItemsOf (fun i v => ∃ e, es[i]? = some e ∧ v = e.key) acc es.size → acc.toList = es.toList.map (·.key) := fun acc ha => by
    apply List.ext_getElem?
    intro j
    rw [List.getElem?_map, Array.getElem?_toList, Array.getElem?_toList]
    cases e : acc[j]? with
    | some v =>
      obtain ⟨e', he, rfl⟩ := ha.2 j v e
      rw [he]
      rfl
    | none =>
      have : acc.size ≤ j := by simpa using e
      rw [ha.1] at this
      rw [Array.getElem?_eq_none this]
      rfl
  unfold collect
  refine wpAny_bind (wpAny_runValue (codeAny_builtin entry_proto_collect' ?_))
  rw [Around.under_plainId PySem.F.plain_proto_collect _]
  show wpAny _ A.in1 (newList [] >>= fun l => again (.builtin "list.__iadd__" ⟨[l, .ref d], []⟩)) _ _ s
  refine wpAny_bind (wpAny_newObj_type ?_)
  refine wpAny_pure ⟨plainId_quiet PySem.F.plain_list_iadd _, codeAny_builtin entry_list_iadd' ?_⟩
  rw [Around.under_plainId PySem.F.plain_list_iadd _]
  have hS : (s.heap.push { cls := .type "list", data := .seq ([] : List Value).toArray }).get? s.heap.objs.size = some { cls := .type "list", data := .seq #[] } := Heap.get?_push_size _ rfl
  show wpAny _ A.in1 (Builtin.List.listExtendWith (.ref s.heap.objs.size) (.ref d) (.ref s.heap.objs.size)) _ _ _
  have key := kdl_extend (A := A) (s := { s with heap := s.heap.push { cls := .type "list", data := .seq ([] : List Value).toArray } }) (raw_src (prog := prog) (w := w) (es := es) (ep := ep) lo) hh (x.at fun o e => Heap.get?_push_of_some _ e) s.heap.objs.size
    (Nat.ne_of_gt x.lt) (Nat.ne_of_gt x.lt) (.ref s.heap.objs.size) 0 hS
    (R := fun (q : Result) (s' : Shared) => ∃ (h' : Heap) (tk : Nat) (acc' : Array Value) (c' : Nat), q = .ok (.ret (.ref s.heap.objs.size)) ∧ s' = { s with heap := h', toks := tk } ∧ (∀ b o, s.heap.get? b = some o → h'.get? b = some o) ∧
      h'.get? s.heap.objs.size = some { cls := .type "list", dict := none, data := .seq acc' c', slots := #[] } ∧ acc'.toList = es.toList.map (·.key))
    (fun h' tk acc' c' hk hS' hacc => ⟨h', tk, acc', c', rfl, rfl, fun b o e => hk b o (Nat.ne_of_lt (Heap.lt_size e)) (Heap.get?_push_of_some _ e), hS', fin acc' hacc⟩) hn
  refine wpAny_mono key (fun f s' y => ?_) fun e s' y => ?_
  · cases f with
    | done f =>
      obtain ⟨h', tk, acc', c', e, rfl, hk, hS', ha⟩ := y
      cases e
      show wpAny _ A (load s.heap.objs.size >>= _) _ _ _
      refine wpAny_bind (wpAny_load hS' (wpAny_pure ?_))
      show R acc'.toList _
      rw [ha]
      exact h h' tk hk (Nat.le_of_lt (Heap.lt_size hS'))
    | again c =>
      refine ⟨y.1, codeAny_mono y.2 fun q s2 z => ?_⟩
      obtain ⟨h', tk, acc', c', rfl, rfl, hk, hS', ha⟩ := z
      show wpAny _ A (load s.heap.objs.size >>= _) _ _ _
      refine wpAny_bind (wpAny_load hS' (wpAny_pure ?_))
      show R acc'.toList _
      rw [ha]
      exact h h' tk hk (Nat.le_of_lt (Heap.lt_size hS'))
  · obtain ⟨_, _, _, _, e', _⟩ := y
    cases e'
theorem collect_sq {T : String} {o : Obj} {items : Array Value} {n : Nat} {l : Addr} {R : List Value → Shared → Prop} (hT : T = "list" ∨ T = "tuple") (ho : s.heap.get? l = some o) (hc : o.cls = .type T) (hd : o.data = .seq items n) (hz : items.size ≤ sizeLine)
    (h : ∀ (h' : Heap) (tk : Nat), (∀ b o, s.heap.get? b = some o → h'.get? b = some o) → s.heap.objs.size ≤ h'.objs.size → R items.toList { s with heap := h', toks := tk }) : wpAny (model prog w) A (collect (.ref l)) R E s := by
  unfold collect
  refine wpAny_bind (wpAny_runValue (codeAny_builtin entry_proto_collect' ?_))
  show wpAny _ _ (do again (.builtin "list.__iadd__" ⟨[← newList [], .ref l], []⟩)) _ _ s
  refine wpAny_bind (wpAny_newList (wpAny_pure ⟨Code.quiet_builtin _ (by decide +kernel), codeAny_builtin entry_list_iadd' ?_⟩))
  show wpAny _ _ (Builtin.List.listExtendWith (.ref s.heap.objs.size) (.ref l) (.ref s.heap.objs.size)) _ _ { s with heap := s.heap.push (seqObj "list" #[] 0) }
  unfold Builtin.List.listExtendWith
  have ho' : (s.heap.push (seqObj "list" #[] 0)).get? l = some o := Heap.get?_push_of_some _ ho
  refine wpAny_bind (wpAny_typeOf (T := T) ⟨o, ho', hc⟩ ?_)
  have ht : ((Value.type T == Value.type "list") || (Value.type T == Value.type "tuple")) = true := by rcases hT with rfl | rfl <;> rfl
  rw [if_pos (by rw [Bool.or_assoc, ht]; simp)]
  refine wpAny_bind (listItems_at ho' hd ?_)
  refine wpAny_bind (listItems_at (xs := #[]) (n := 0) (Heap.get?_push_size _ rfl) rfl ?_)
  rw [if_neg (by simp)]
  refine wpAny_bind (listUpdate_at (xs := #[]) (n := 0) (Heap.get?_push_size _ rfl) rfl ?_ (Nat.zero_le _) (by rw [Array.size_append]; simp; omega))
  refine wpAny_pure ?_
  show wpAny (model prog w) A (load s.heap.objs.size >>= fun o => match o.data with
      | .seq xs _ => pure xs.toList
      | _ => unsupported "internal:collect") R E { s with heap := (s.heap.push (seqObj "list" #[] 0)).update s.heap.objs.size (Obj.mapSeq (· ++ items)) }
  refine wpAny_bind (wpAny_load (get?_update_seq (Heap.get?_push_size _ rfl) _) ?_)
  show wpAny _ _ (pure ((#[] : Array Value) ++ items).toList) R E _
  rw [show ((#[] : Array Value) ++ items).toList = items.toList by simp]
  refine wpAny_pure (h _ s.toks (fun b o e => ?_) (by rw [Heap.size_update, size_push']; omega))
  exact (Heap.get?_update_other _ _ (Nat.ne_of_gt (Heap.lt_size e))).trans (Heap.get?_push_of_some _ e)
theorem sorted_any {x : Value} {vs : List Value} {rk : Value → Int} {Q : Value → Shared → Prop} (hz : vs.length ≤ sizeLine)
    (hc : ∀ (A' : Around) (E' : Value → Shared → Prop) (R : List Value → Shared → Prop), A'.handled = A.handled → (∀ h' tk, (∀ b o, s.heap.get? b = some o → h'.get? b = some o) → s.heap.objs.size ≤ h'.objs.size → R vs { s with heap := h', toks := tk }) → wpAny (model prog w) A' (collect x) R E' s)
    (hk : ∀ (A' : Around) (s' : Shared) (a : Addr), A'.units ≤ A.units + 4 → s.heap.objs.size ≤ a → (∀ b o, s.heap.get? b = some o → s'.heap.get? b = some o) → Tim.Keys prog w A' s' a vs rk)
    (h : ∀ (out : Array Value) (l : Addr) (n : Nat) (h' : Heap) (tk : Nat), Tim.Sorted rk vs out.toList → (∀ b o, s.heap.get? b = some o → h'.get? b = some o) → s.heap.objs.size ≤ l → h'.get? l = some (seqObj "list" out n) → Q (.ref l) { s with heap := h', toks := tk }) :
    wpAny (model prog w) A (call (.builtin "sorted") [x]) Q E s := by
  refine Calls.call_function_entry kind_sorted plain_sorted entry_sorted (args_sorted1 _) ?_
  unfold Builtin.«sorted»
  refine wpAny_bind (m := checkCount "sorted" 1 1 _) (wpAny_pure ?_)
  refine wpAny_bind (hc _ _ _ rfl fun h1 tk keep hsz => ?_)
  refine wpAny_bind (wpAny_newList ?_ hz)
  have hoL : (h1.push (seqObj "list" vs.toArray 0)).get? h1.objs.size = some (seqObj "list" vs.toArray 0) := Heap.get?_push_size _ rfl
  show wpAny _ _ _ _ _ { s with heap := h1.push (seqObj "list" vs.toArray 0), toks := tk }
  have keep2 : ∀ b o, s.heap.get? b = some o → (h1.push (seqObj "list" vs.toArray 0)).get? b = some o := fun b o e => Heap.get?_push_of_some _ (keep b o e)
  refine wpAny_bind (wpAny_holding (wpAny_call_entry slot_list_sort ⟨_, hoL, rfl⟩ entry_list_sort (Tim.list_sort_any hoL hz (hk _ _ _ ?_ hsz keep2) fun out so => ⟨_, rfl, ?_⟩) (args_list_sort _)))
  · show A.units + 2 ≤ A.units + 4
    omega
  · have hne : ∀ b o, s.heap.get? b = some o → b ≠ h1.objs.size := fun b o e => Nat.ne_of_lt (Nat.lt_of_lt_of_le (Heap.lt_size e) hsz)
    have u1 := Heap.SameBut.update (h1.push (seqObj "list" vs.toArray 0)) h1.objs.size (Obj.mapSeq fun _ => (#[] : Array Value))
    obtain ⟨e1, g1⟩ : ∃ e1, ((h1.push (seqObj "list" vs.toArray 0)).update h1.objs.size (Obj.mapSeq fun _ => (#[] : Array Value))).get? h1.objs.size = some (seqObj "list" #[] e1) := ⟨_, get?_update_seq hoL fun _ => #[]⟩
    have g2 := Heap.get?_push_of_some (seqObj "list" #[] 0) (Heap.get?_push_of_some (seqObj "tuple" vs.toArray 0) g1)
    have g3 := get?_update_seq g2 fun _ => out
    have u4 := Heap.SameBut.update (((((h1.push (seqObj "list" vs.toArray 0)).update h1.objs.size (Obj.mapSeq fun _ => (#[] : Array Value))).push (seqObj "tuple" vs.toArray 0)).push (seqObj "list" #[] 0))) h1.objs.size (Obj.mapSeq fun _ => out)
    refine wpAny_pure ⟨_, rfl, h out h1.objs.size _ _ tk so (fun b o e => ?_) hsz g3⟩
    refine (u4.2 b (hne b o e)).trans (Heap.get?_push_of_some _ (Heap.get?_push_of_some _ ((u1.2 b (hne b o e)).trans (keep2 b o e))))
end
end L2
namespace Tim
section
variable {α : Type}
def srt (lt : α → α → Bool) (l : List α) : List α := l.mergeSort fun a b => !lt b a
theorem srt_perm (lt : α → α → Bool) (l : List α) : (srt lt l).Perm l := List.mergeSort_perm _ _
theorem srt_asc {lt : α → α → Bool} (h : STO lt) (l : List α) : (srt lt l).Pairwise fun a b => lt b a = false := by
  have := List.pairwise_mergeSort (le := fun a b => !lt b a) (fun a b c h1 h2 => by
    cases e : lt c a with
    | false => rfl
    | true =>
      rcases h.nt b e with q | q
      · rw [q] at h2
        cases h2
      · rw [q] at h1
        cases h1) (fun a b => by
    cases e : lt b a with
    | false => rfl
    | true =>
      rw [h.asym e]
      rfl) l
  exact List.Pairwise.imp (fun {a b} (z : (!lt b a) = true) => by simpa using z) this
theorem srt_eq {lt : α → α → Bool} (h : STO lt) {l k : List α} (p : k.Perm l) (a : k.Pairwise fun a b => lt b a = false) : k = srt lt l := h.uniq (p.trans (srt_perm lt l).symm) a (srt_asc h l)
end
section
open PySem
theorem sorted_data {α : Type} {lt : α → α → Bool} (h : STO lt) (dec : Value → α) {vs out : List Value} (so : Sorted (fun v => rank lt (vs.map dec) (dec v)) vs out) : out.map dec = srt lt (vs.map dec) := by
  refine srt_eq h (so.perm.map dec) ?_
  rw [List.pairwise_map]
  refine List.Pairwise.imp_of_mem (fun {x y} hx hy hr => ?_) so.asc
  have mx : dec x ∈ vs.map dec := List.mem_map.mpr ⟨x, so.perm.mem_iff.mp hx, rfl⟩
  have my : dec y ∈ vs.map dec := List.mem_map.mpr ⟨y, so.perm.mem_iff.mp hy, rfl⟩
  rw [rank_lt (fun a _ => h.irr a) (fun a _ b _ c _ => h.tr a b c) (fun a _ b _ c _ z => h.nt b z) my mx]
  exact decide_eq_false (by omega)
theorem rank_dec {α : Type} {lt : α → α → Bool} (h : STO lt) (dec : Value → α) {vs : List Value} {x y : Value} (hx : x ∈ vs) (hy : y ∈ vs) : lt (dec x) (dec y) = decide (rank lt (vs.map dec) (dec x) < rank lt (vs.map dec) (dec y)) :=
  rank_lt (fun a _ => h.irr a) (fun a _ b _ c _ => h.tr a b c) (fun a _ b _ c _ z => h.nt b z) (List.mem_map.mpr ⟨x, hx, rfl⟩) (List.mem_map.mpr ⟨y, hy, rfl⟩)
end
end Tim
namespace L2
open PySem PySem.Spec PyProof.Rows PySem.W
def strLt (x y : Str) : Bool := decide (x.cps.toList < y.cps.toList)
theorem sto_str : Tim.STO strLt := by
  have h := (Tim.sto_nat.lex).map (fun z : Str => z.cps.toList) (fun a b e => by
    cases a
    cases b
    congr
    exact Array.toList_inj.mp e)
  have e : strLt = fun a b : Str => Tim.lexB (fun x y : Nat => decide (x < y)) a.cps.toList b.cps.toList := by
    funext a b
    exact Tim.lex_nat _ _
  rw [e]
  exact h
def prodLt (a b : List Str) : Bool := Tim.lexB strLt a b
theorem sto_prod : Tim.STO prodLt := sto_str.lex
def sOf : Value → Str
  | .str x _ => x
  | _ => ""
theorem vals_str {ws : List Str} : ∀ {us : List Value}, Vals (ws.map V.str) us → us.map sOf = ws ∧ (∀ u ∈ us, ∃ x t, u = .str x t) ∧ StrsAre us ws := by
  induction ws with
  | nil =>
    intro us r
    cases r
    exact ⟨rfl, (fun _ z => nomatch z), .nil⟩
  | cons x ws ih =>
    intro us r
    cases r with
    | cons r1 rr =>
      obtain ⟨t, rfl⟩ := r1
      obtain ⟨a, b, c⟩ := ih rr
      refine ⟨by rw [List.map_cons, a]; rfl, fun u hu => ?_, .cons x t c⟩
      rcases List.mem_cons.mp hu with rfl | hu
      · exact ⟨x, t, rfl⟩
      · exact b u hu
theorem vals_of_strs : ∀ {us : List Value}, (∀ u ∈ us, ∃ x t, u = .str x t) → Vals ((us.map sOf).map V.str) us
  | [], _ => .nil
  | u :: us, h => by
    obtain ⟨x, t, rfl⟩ := h u (List.mem_cons_self ..)
    exact .cons ⟨t, rfl⟩ (vals_of_strs fun v hv => h v (List.mem_cons_of_mem _ hv))
section
variable {prog : Program} {w : World} {A : Around} {s : Shared} {a : Addr}
theorem keys_strs {ws : List Str} {vs : List Value} (r : Vals (ws.map V.str) vs) : Tim.Keys prog w A s a vs (fun v => Tim.rank strLt (vs.map sOf) (sOf v)) := by
  intro h2 s' _
  obtain ⟨e1, e2, e3⟩ := vals_str r
  refine ⟨oneType', fun E Q q => ?_, fun x hx y hy E Q q => ?_⟩
  · match vs, h2, e3 with
    | v1 :: v2 :: vr, _, e3 =>
      rw [keyKind_strs e3]
      exact wpAny_pure q
  · rw [← Tim.rank_dec sto_str sOf hx hy] at q
    obtain ⟨x', t, rfl⟩ := e2 x hx
    obtain ⟨y', u, rfl⟩ := e2 y hy
    rw [keyLt'_oneType]
    exact oneLt_str q
end
section
variable {X : Cx}
theorem Inv.sorted_list {pins : List (Addr × Obj)} {σ : St} {H : Hp} {s : Shared} {xs : List V} {out : Array Value} {l : Addr} {n tk : Nat} {h' : Heap} {Q : VK} (I : Inv X pins σ H s) (rv : Vals xs out.toList) (hz : xs.length ≤ sizeLine)
    (keep : ∀ b o, s.heap.get? b = some o → h'.get? b = some o) (hl : s.heap.objs.size ≤ l) (hg : h'.get? l = some (seqObj "list" out n)) (q : Q (.ref l) (upd H l (.lst xs))) : EP X pins σ Q (.ref l) { s with heap := h', toks := tk } := by
  refine ⟨.ref l, _, I.laid (a := l) (o := .lst xs) (t' := tk) keep hl ⟨hz, out.toList, n, rv, ?_⟩, rfl, q⟩
  rw [Array.toArray_toList]
  exact hg
theorem call_sortedS (K : PySem.W.Frag) (hK : X.K = K := by rfl) : CallR X (.builtin "sorted") (fun xs H Q => ∃ p ws, xs = [.ref p] ∧ (SqL K H p (ws.map V.str) ∨ SqT K H p (ws.map V.str)) ∧ ∀ l, H l = none → Q (.ref l) (upd H l (.lst ((Tim.srt strLt ws).map V.str)))) := by
  subst hK
  intro pins s σ H xs us Q I r h
  obtain ⟨p, ws, rfl, hp, q⟩ := h
  obtain ⟨u, rfl, ru⟩ := vals1 r
  cases ru
  obtain ⟨T, o, its, n, hT, ho, hc, hd, rv, hz⟩ : ∃ (T : String) (o : Obj) (its : List Value) (n : Nat), (T = "list" ∨ T = "tuple") ∧ s.heap.get? p = some o ∧ o.cls = .type T ∧ o.data = .seq its.toArray n ∧ Vals (ws.map V.str) its ∧ (ws.map V.str).length ≤ sizeLine := by
    rcases hp with hp | hp
    · obtain ⟨its, rv, ⟨o, n, e, c, _, d⟩, z⟩ := I.list hp
      exact ⟨"list", o, its, n, .inl rfl, e, c, d, rv, z⟩
    · obtain ⟨its, rv, ⟨o, e, c, n, d⟩, z⟩ := I.tuple hp
      exact ⟨"tuple", o, its, n, .inr rfl, e, c, d, rv, z⟩
  have hl : its.length ≤ sizeLine := by rw [← rv.length]; exact hz
  obtain ⟨e1, e2, _⟩ := vals_str rv
  refine sorted_any (vs := its) (rk := fun v => Tim.rank strLt (its.map sOf) (sOf v)) hl (fun A' E' R _ k => collect_sq hT ho hc hd (by rw [List.size_toArray]; exact hl) (by rw [List.toList_toArray]; exact k)) (fun A' s' a _ _ _ => keys_strs rv) fun out l n h' tk so keep hl' hg => ?_
  have ho2 : ∀ u ∈ out.toList, ∃ x t, u = .str x t := fun u hu => e2 u (so.perm.mem_iff.mp hu)
  have ed := Tim.sorted_data sto_str sOf so
  rw [e1] at ed
  have rv2 := vals_of_strs ho2
  rw [ed] at rv2
  exact I.sorted_list rv2 (by rw [List.length_map, (Tim.srt_perm strLt ws).length_eq]; rw [List.length_map] at hz; exact hz) keep hl' hg (q l (I.hok.fresh hl'))
end
def TupAt (h : Heap) (v : Value) (p : List Str) : Prop := ∃ (b : Addr) (o : Obj) (its : Array Value) (n : Nat), v = .ref b ∧ h.get? b = some o ∧ o.cls = .type "tuple" ∧ o.data = .seq its n ∧ Vals (p.map V.str) its.toList
section
variable {prog : Program} {w : World} {A : Around} {E : Value → Shared → Prop} {s : Shared} {a : Addr}
theorem eqAt_str (x y : Str) (t u : Tok) : SeqAt.EqAt A s (.str x t) (.str y u) (decide (x = y)) := fun prog w E Q h => wpAny_eqBool_str h
theorem prodLt_cons (x y : Str) (p q : List Str) : prodLt (x :: p) (y :: q) = if x = y then prodLt p q else strLt x y := rfl
theorem lexAt_strs : ∀ (p q : List Str) (us vs : List Value), Vals (p.map V.str) us → Vals (q.map V.str) vs → LexAt A s us vs (prodLt p q)
  | [], [], _, _, r1, r2 => by cases r1; cases r2; exact .nn
  | [], _ :: _, _, _, r1, r2 => by cases r1; cases r2; exact .nc
  | _ :: _, [], _, _, r1, r2 => by cases r1; cases r2; exact .cn
  | x :: p, y :: q, _, _, r1, r2 => by
    cases r1 with
    | cons a1 r1 =>
      cases r2 with
      | cons a2 r2 =>
        obtain ⟨t, rfl⟩ := a1
        obtain ⟨u, rfl⟩ := a2
        have he := eqAt_str (A := A) (s := s) x y t u
        rw [prodLt_cons]
        by_cases h : x = y
        · rw [if_pos h]
          rw [decide_eq_true h] at he
          exact .eq he (lexAt_strs p q _ _ r1 r2)
        · rw [if_neg h]
          rw [decide_eq_false h] at he
          exact .lt he fun prog w E Q k => (lt_str k : wpAny (model prog w) A (compareOp .Lt _ _) Q E s)
theorem oneLt_strs (c : Bool) (x y : Str) (t u : Tok) {Q : Bool → Shared → Prop} (h : Q (strLt x y) s) : wpAny (model prog w) A (oneLt' c (.str x t) (.str y u)) Q E s := by
  cases c with
  | true => exact oneLt_str h
  | false => exact kat_one _ _ (lt_str h)
theorem katLex_strs {c fin : Bool} {Q : Bool → Shared → Prop} : ∀ (p q : List Str) (us vs : List Value) (i : Nat), Vals (p.map V.str) us → Vals (q.map V.str) vs → fin = decide (us.length < vs.length) → Q (prodLt p q) s → KatLex prog w A c fin Q (us.zip vs) i s
  | [], [], _, _, i, r1, r2, hf, h => by
    cases r1
    cases r2
    rw [List.zip_nil_left, hf]
    exact h
  | [], _ :: _, _, _, i, r1, r2, hf, h => by
    cases r1
    cases r2
    rw [List.zip_nil_left, hf]
    refine kat_nil ?_
    rw [decide_eq_true (by simp)]
    exact h
  | _ :: _, [], _, _, i, r1, r2, hf, h => by
    cases r1
    cases r2
    rw [List.zip_nil_right, hf]
    refine kat_nil ?_
    rw [decide_eq_false (by simp)]
    exact h
  | x :: p, y :: q, _, _, i, r1, r2, hf, h => by
    cases r1 with
    | cons a1 r1 =>
      cases r2 with
      | cons a2 r2 =>
        obtain ⟨t, rfl⟩ := a1
        obtain ⟨u, rfl⟩ := a2
        rw [List.zip_cons_cons]
        rw [prodLt_cons] at h
        refine kat_cons (eqAt_str x y t u prog w _ _ ?_)
        by_cases e : x = y
        · rw [if_pos e] at h
          rw [decide_eq_true e]
          exact kat_yes (katLex_strs p q _ _ (i + 1) r1 r2 (by rw [hf]; simp) h)
        · rw [if_neg e] at h
          rw [decide_eq_false e]
          exact kat_no (oneLt_strs _ x y t u h)
theorem klt_tuples {x y : Value} {p q : List Str} (hx : TupAt s.heap x p) (hy : TupAt s.heap y q) (c : Bool) : Tim.KLt prog w A s (tuples' c) x y (prodLt p q) := by
  obtain ⟨b, o, its, n, rfl, e1, _, d1, r1⟩ := hx
  obtain ⟨b', o', its', n', rfl, e2, _, d2, r2⟩ := hy
  intro E Q k
  exact kat_lt e1 d1 e2 d2 (katLex_strs p q _ _ 0 r1 r2 (by rw [Array.length_toList, Array.length_toList]) k)
theorem lt_tups {x y : Value} {p q : List Str} (hx : TupAt s.heap x p) (hy : TupAt s.heap y q) (hu : A.units < cLine) : LtAt A s x y (prodLt p q) := by
  obtain ⟨b, o, its, n, rfl, e1, c1, d1, r1⟩ := hx
  obtain ⟨b', o', its', n', rfl, e2, c2, d2, r2⟩ := hy
  exact ltAt_tup ⟨o, e1, c1, n, d1⟩ ⟨o', e2, c2, n', d2⟩ (lexAt_strs p q _ _ r1 r2) hu
theorem klt_general {x y : Value} {p q : List Str} (hx : TupAt s.heap x p) (hy : TupAt s.heap y q) (hu : A.units < cLine) : Tim.KLt prog w A s general' x y (prodLt p q) := by
  intro E Q k
  exact kat_one x y (lt_tups hx hy hu prog w E _ k)
theorem klt_one {x y : Value} {p q : List Str} (hx : TupAt s.heap x p) (hy : TupAt s.heap y q) (hu : A.units < cLine) : Tim.KLt prog w A s oneType' x y (prodLt p q) := by
  obtain ⟨b, ⟨cls, dd, data, sl⟩, its, n, rfl, e1, c1, d1, r1⟩ := hx
  obtain ⟨b', ⟨cls', dd', data', sl'⟩, its', n', rfl, e2, c2, d2, r2⟩ := hy
  simp only at c1 d1 c2 d2
  subst c1 d1 c2 d2
  intro E Q k
  rw [keyLt'_oneType, oneLt'_eq]
  simp only [if_true]
  refine wpAny_bind (wpAny_cRoomFor hu ?_)
  refine wpAny_bind (wpAny_callSpecialIfBound?_slot ⟨_, e1, rfl⟩ PySem.F.slot_tuple_lt (call_meets PySem.F.slot_tuple_lt ⟨_, e1, rfl⟩ PySem.F.entry_tuple_lt (PySem.F.args_tuple_lt_2 _ _) (tuple_lt_any b b' its its' n n' dd dd' sl sl' (prodLt p q)) ⟨e1, e2, lexAt_strs p q _ _ r1 r2, ?_⟩))
  exact wpAny_truthy_bool k
theorem TupAt.keep {h h' : Heap} {v : Value} {p : List Str} (x : TupAt h v p) (k : ∀ b o, v = .ref b → h.get? b = some o → h'.get? b = some o) : TupAt h' v p :=
  let ⟨b, o, its, n, e, g, r⟩ := x
  ⟨b, o, its, n, e, k b o e g, r⟩
theorem firsts_tups : ∀ (vs : List Value) (ps : List (List Str)), Paired (TupAt s.heap) vs ps → ∃ fs : List (Option Value), (∀ (M : Model) (A : Around) (E : Value → Shared → Prop) (Q : List (Option Value) → Shared → Prop), Q fs s → wpAny M A (vs.mapM firstOfTuple') Q E s) ∧ fs.length = vs.length ∧
    ∀ f ∈ fs, ∀ v, f = some v → ∃ x t, v = .str x t
  | [], [], _ => ⟨[], fun M A E Q q => by rw [List.mapM_nil]; exact wpAny_pure q, rfl, fun _ z => nomatch z⟩
  | v :: vs, p :: ps, .cons h hr => by
    obtain ⟨fs, g1, g2, g3⟩ := firsts_tups vs ps hr
    obtain ⟨b, o, its, n, rfl, ho, hc, hd, r⟩ := h
    refine ⟨its[0]? :: fs, fun M A E Q q => ?_, by rw [List.length_cons, g2, List.length_cons], fun f hf v e => ?_⟩
    · rw [List.mapM_cons]
      refine wpAny_bind ?_
      rw [kas_first_eq]
      refine wpAny_bind (Looks.here (show Looks M s.heap (typeOf (.ref b)) o.cls from (Looks.ld ho).andThen .now) ?_)
      rw [hc, if_neg (by decide)]
      refine wpAny_bind (listItems_at ho hd (wpAny_pure ?_))
      exact wpAny_bind (g1 M A E (fun bs s' => wpAny M A (pure (its[0]? :: bs)) Q E s') (wpAny_pure q))
    · rcases List.mem_cons.mp hf with rfl | hf
      · obtain ⟨_, h2, _⟩ := vals_str r
        exact h2 v (by rw [← Array.getElem?_toList] at e; exact List.mem_of_getElem? e)
      · exact g3 f hf v e
theorem typeOf_strs : ∀ (vs : List Value), (∀ v ∈ vs, ∃ x t, v = .str x t) → vs.mapM typeOf = pure (vs.map fun _ => Value.type "str")
  | [], _ => by simp
  | v :: vs, h => by
    obtain ⟨x, t, rfl⟩ := h v (List.mem_cons_self ..)
    rw [List.mapM_cons, typeOf_strs vs fun u hu => h u (List.mem_cons_of_mem _ hu)]
    show (pure (Value.type "str") >>= fun b => pure _ >>= fun bs => pure (b :: bs)) = _
    simp
theorem kind_tups {vs : List Value} {ps : List (List Str)} (h : Paired (TupAt s.heap) vs ps) (h2 : 2 ≤ vs.length) : ∃ kd : SortKind, (kd = tuples' true ∨ kd = general' ∨ kd = oneType') ∧ ∀ (M : Model) (A : Around) (E : Value → Shared → Prop) (Q : SortKind → Shared → Prop), Q kd s → wpAny M A (keyKind' vs.toArray) Q E s := by
  obtain ⟨fs, g1, g2, g3⟩ := firsts_tups vs ps h
  by_cases hall : (fs.toArray.all fun x => x.isSome) = true
  · refine ⟨tuples' true, .inl rfl, fun M A E Q q => ?_⟩
    rw [kat_kind_eq, List.mapM_toArray, map_eq_pure_bind]
    refine wpAny_bind (wpAny_bind (g1 M A E _ (wpAny_pure ?_)))
    rw [if_pos hall]
    refine wpAny_bind (wpAny_rule ?_)
    obtain ⟨f1, fr, e⟩ : ∃ f1 fr, fs = f1 :: fr := by
      cases e : fs with
      | nil => rw [e] at g2; simp at g2; omega
      | cons f1 fr => exact ⟨f1, fr, rfl⟩
    have hs : ∀ v ∈ fs.filterMap id, ∃ x t, v = .str x t := fun v hv => by
      obtain ⟨f, hf, e⟩ := List.mem_filterMap.mp hv
      exact g3 f hf v e
    have hfm : fs.toArray.filterMap id = (fs.filterMap id).toArray := by simp
    rw [hfm, oneTypeOnly'_eq, List.mapM_toArray, typeOf_strs _ hs]
    simp only [map_pure, pure_bind]
    have h0 : ∃ v vr, fs.filterMap id = v :: vr := by
      rw [e] at hall ⊢
      cases f1 with
      | none => simp at hall
      | some v => exact ⟨v, fr.filterMap id, rfl⟩
    obtain ⟨v, vr, ev⟩ := h0
    rw [ev]
    have ha : ((List.map (fun _ => Value.type "str") (v :: vr)).toArray.all fun x => x == Value.type "str") = true := by
      simp only [List.all_toArray, List.all_map, List.all_eq_true]
      intro _ _
      rfl
    have hz : (List.map (fun _ => Value.type "str") (v :: vr)).toArray[0]? = some (Value.type "str") := by simp
    rw [hz]
    simp only [ha, if_true, pure_bind]
    exact wpAny_pure q
  · by_cases hf : (fs.toArray[0]?.bind id).isSome = true
    · refine ⟨general', .inr (.inl rfl), fun M A E Q q => ?_⟩
      rw [kat_kind_eq, List.mapM_toArray, map_eq_pure_bind]
      refine wpAny_bind (wpAny_bind (g1 M A E _ (wpAny_pure ?_)))
      rw [if_neg hall, if_pos hf]
      exact wpAny_pure q
    · refine ⟨oneType', .inr (.inr rfl), fun M A E Q q => ?_⟩
      rw [kat_kind_eq, List.mapM_toArray, map_eq_pure_bind]
      refine wpAny_bind (wpAny_bind (g1 M A E _ (wpAny_pure ?_)))
      rw [if_neg hall, if_neg hf, oneTypeOnly'_eq, List.mapM_toArray, map_eq_pure_bind]
      have hty : ∀ v ∈ vs, Looks M s.heap (typeOf v) (.type "tuple") := fun v hv => by
        obtain ⟨p, b, o, its, n, rfl, ho, hc, _⟩ : ∃ p, TupAt s.heap v p := by
          clear g1 g2 g3 hall hf h2 q
          induction h with
          | nil => cases hv
          | cons a r ih =>
            rcases List.mem_cons.mp hv with e | hv
            · rw [e]
              exact ⟨_, a⟩
            · exact ih hv
        rw [← hc]
        exact (Looks.ld ho).andThen .now
      refine wpAny_bind (wpAny_bind (wpAny_bind (kas_mapM (r := Value.type "tuple") _ (fun v hv Q' hq => (hty v hv).here hq) (wpAny_pure ?_))))
      obtain ⟨v, vr, ev⟩ : ∃ v vr, vs = v :: vr := by
        cases e : vs with
        | nil => rw [e] at h2; simp at h2
        | cons v vr => exact ⟨v, vr, rfl⟩
      rw [ev]
      have ha : ((List.map (fun _ => Value.type "tuple") (v :: vr)).toArray.all fun x => x == Value.type "tuple") = true := by
        simp only [List.all_toArray, List.all_map, List.all_eq_true]
        intro _ _
        rfl
      have hz : (List.map (fun _ => Value.type "tuple") (v :: vr)).toArray[0]? = some (Value.type "tuple") := by simp
      rw [hz]
      simp only [ha, if_true]
      exact wpAny_pure (wpAny_pure q)
theorem paired_mem {α β : Type} {F : α → β → Prop} {f : α → β} : ∀ {l : List α} {k : List β}, Paired F l k → (∀ x y, F x y → f x = y) → l.map f = k ∧ ∀ x ∈ l, F x (f x)
  | _, _, .nil, _ => ⟨rfl, fun _ z => nomatch z⟩
  | _, _, .cons a r, h => by
    obtain ⟨e, m⟩ := paired_mem r h
    have e1 := h _ _ a
    refine ⟨by rw [List.map_cons, e, e1], fun x hx => ?_⟩
    rcases List.mem_cons.mp hx with rfl | hx
    · rw [e1]
      exact a
    · exact m x hx
theorem keys_tups {vs : List Value} {ps : List (List Str)} (dec : Value → List Str) (h : Paired (fun v p => TupAt s.heap v p ∧ dec v = p) vs ps) (ha : s.heap.objs.size ≤ a) {s1 : Shared} (hk : ∀ b o, s.heap.get? b = some o → s1.heap.get? b = some o) (hu : A.units < cLine) :
    Tim.Keys prog w A s1 a vs (fun v => Tim.rank prodLt (vs.map dec) (dec v)) := by
  intro h2 s' keep
  have up : ∀ v p, TupAt s.heap v p → TupAt s'.heap v p := fun v p x => x.keep fun b o _ e => keep b o (Nat.ne_of_lt (Nat.lt_of_lt_of_le (Heap.lt_size e) ha)) (hk b o e)
  obtain ⟨_, hm⟩ := paired_mem h fun _ _ z => z.2
  obtain ⟨kd, hkd, hk'⟩ := kind_tups (s := s') (Paired.mapP h fun v p z => up v p z.1) h2
  refine ⟨kd, fun E Q q => hk' _ A E Q q, fun x hx y hy => ?_⟩
  rw [← Tim.rank_dec sto_prod dec hx hy]
  have tx := up x _ (hm x hx).1
  have ty := up y _ (hm y hy).1
  rcases hkd with rfl | rfl | rfl
  · exact klt_tuples tx ty true
  · exact klt_general tx ty hu
  · exact klt_one tx ty hu
end
theorem kV_strs (p : List Str) : (p.map (Sum.inr : Str → Key)).map kV = p.map V.str := by
  rw [List.map_map]
  rfl
def decT (H : Hp) : Value → List Str
  | .ref a => match H a with
    | some (.tup xs) => xs.map fun x => match x with | .str z => z | _ => ""
    | _ => []
  | _ => []
theorem decT_of {H : Hp} {a : Addr} {p : List Str} (h : H a = some (.tup (p.map V.str))) : decT H (.ref a) = p := by
  simp only [decT, h]
  rw [List.map_map]
  exact (List.map_congr_left fun _ _ => rfl).trans (List.map_id p)
section
variable {X : Cx}
def TupsH (H : Hp) (vs : List Value) (ps : List (List Str)) : Prop := Paired (fun v p => ∃ b, v = Value.ref b ∧ H b = some (.tup (p.map V.str))) vs ps
theorem call_sortedD (hu : X.A.units + 64 < cLine) (hc : X.calm = true) (K : PySem.W.Frag) (hK : X.K = K := by rfl) : CallR X (.builtin "sorted") (fun xs H Q => ∃ (d : Addr) (kvs : List (List Str × V)), xs = [.ref d] ∧ H d = some (.dT (kvs.map fun kv => (kv.1.map Sum.inr, kv.2))) ∧
    ∀ l zs, H l = none → Paired (fun x p => ∃ b, x = V.ref b ∧ H b = some (.tup (p.map V.str))) zs (Tim.srt prodLt (kvs.map (·.1))) → Q (.ref l) (upd H l (.lst zs))) := by
  subst hK
  intro pins s σ H xs us Q I r h
  obtain ⟨d, kvs, rfl, hd, q⟩ := h
  obtain ⟨u, rfl, ru⟩ := vals1 r
  cases ru
  obtain ⟨hz, hne, es0, rel, o, es, ep, ho, hx, hdat, hes, hnd⟩ := I.hok d _ hd
  have hlen : es.size = kvs.length := by
    rw [← Array.length_toList, hes, List.length_map, ← rel.length, List.length_map]
  have hkeys : TupsH H (es.toList.map (·.key)) (kvs.map (·.1)) := by
    rw [hes, List.map_map]
    clear hz hes hdat hlen ho q hd hnd
    unfold TupsH
    revert rel
    generalize hk : (kvs.map fun kv => (kv.1.map (Sum.inr : Str → Key), kv.2)) = ks
    intro rel
    induction rel generalizing kvs with
    | nil =>
      have : kvs = [] := by simpa using hk
      subst this
      exact .nil
    | cons a rr ih =>
      cases kvs with
      | nil => simp at hk
      | cons kv kvs =>
        rw [List.map_cons, List.cons.injEq] at hk
        obtain ⟨rfl, hk⟩ := hk
        refine .cons ⟨_, rfl, ?_⟩ (ih kvs hk)
        obtain ⟨_, a2, _⟩ := a
        rw [kV_strs] at a2
        exact a2
  have tupAt : ∀ v p, (∃ b, v = Value.ref b ∧ H b = some (.tup (p.map V.str))) → TupAt s.heap v p := fun v p ⟨b, e, hb⟩ => by
    obtain ⟨_, its, rv, o, e1, c, n, dd⟩ := I.hok b _ hb
    exact ⟨b, o, its.toArray, n, e, e1, c, dd, by rw [List.toList_toArray]; exact rv⟩
  have both : Paired (fun v p => TupAt s.heap v p ∧ decT H v = p) (es.toList.map (·.key)) (kvs.map (·.1)) := Paired.mapP hkeys fun v p z => ⟨tupAt v p z, by
    obtain ⟨b, rfl, hb⟩ := z
    exact decT_of hb⟩
  have ev : (es.toList.map (·.key)).map (decT H) = kvs.map (·.1) := (paired_mem both fun _ _ z => z.2).1
  have mem : ∀ v ∈ es.toList.map (·.key), ∃ b, v = Value.ref b ∧ H b = some (.tup ((decT H v).map V.str)) := (paired_mem (f := decT H) hkeys fun v p ⟨b, e, hb⟩ => by
    rw [e]
    exact decT_of hb).2
  have hl : (es.toList.map (·.key)).length ≤ sizeLine := by
    rw [List.length_map, Array.length_toList, hlen]
    rw [List.length_map] at hz
    exact hz
  refine sorted_any (vs := es.toList.map (·.key)) (rk := fun v => Tim.rank prodLt ((es.toList.map (·.key)).map (decT H)) (decT H v)) hl
    (fun A' E' R hh k => raw_collect (hh.trans (I.ok.hd hc)) hne ⟨o, ho, hx, hdat⟩ (by rw [List.length_map, Array.length_toList] at hl; exact hl) k)
    (fun A' s' a hu' ha keep => keys_tups (s := s) (decT H) both ha keep (by omega)) fun out l n h' tk so keep hl' hg => ?_
  have ed := Tim.sorted_data sto_prod (decT H) so
  rw [ev] at ed
  have mo : ∀ v ∈ out.toList, ∃ b, v = Value.ref b ∧ H b = some (.tup ((decT H v).map V.str)) := fun v hv => mem v (so.perm.mem_iff.mp hv)
  obtain ⟨zs, rv, hp⟩ : ∃ zs : List V, Vals zs out.toList ∧ Paired (fun x p => ∃ b, x = V.ref b ∧ H b = some (.tup (p.map V.str))) zs (out.toList.map (decT H)) := by
    revert mo
    generalize out.toList = os
    intro mo
    induction os with
    | nil => exact ⟨[], .nil, .nil⟩
    | cons v os ih =>
      obtain ⟨zs, r1, r2⟩ := ih fun u hu => mo u (List.mem_cons_of_mem _ hu)
      obtain ⟨b, e, hb⟩ := mo v (List.mem_cons_self ..)
      exact ⟨.ref b :: zs, .cons e r1, .cons ⟨b, rfl, hb⟩ r2⟩
  rw [ed] at hp
  refine I.sorted_list rv ?_ keep hl' hg (q l zs (I.hok.fresh hl') hp)
  rw [rv.length, so.perm.length_eq]
  exact hl
end
end L2
namespace L2
open PySem PySem.Spec PyProof.Rows
section
variable {X : Cx}
end
end L2
namespace L2
open PySem PySem.Spec PyProof.Rows
theorem vals_of_ints : ∀ {us : List Value} {ns : List Int}, IntsAre us ns → Vals (ns.map V.int) us
  | _, _, .nil => .nil
  | _, _, .cons n t r => .cons ⟨t, rfl⟩ (vals_of_ints r)
section
variable {X : Cx} {e : Expr} {lo hi : Option Expr} {se : Expr} {te : TE} {tl th ts : TO} {p2 pos : Pos}
theorem pe_slice3 (K : PySem.W.Frag) (he : PE X e te) (hl : PO X lo tl) (hu : PO X hi th) (hst : PO X (some se) ts) (hK : X.K = K := by rfl) : PE X (.Subscript e (.Slice lo hi (some se) p2) pos) (fun σ H Q => te σ H fun x H1 => tl σ H1 fun l H2 => th σ H2 fun u H3 => ts σ H3 fun k H4 =>
    ∃ (a : Addr) (ns : List Int), x = .ref a ∧ SqL K H4 a (ns.map V.int) ∧ k ≠ some 0 ∧ ∀ p (ms : List Int), H4 p = none → ms.length ≤ ns.length → Q (.ref p) (upd H4 p (.lst (ms.map V.int)))) := by
  subst hK
  intro pins s σ H Q I h
  refine Subscript_ (thn (he pins s σ H _ I h) fun v s1 ⟨x, H1, I1, r1, q1⟩ => ?_)
  refine wpAny_Slice (thn (hl pins s1 σ H1 _ I1 q1) fun vl s2 ⟨l, H2, I2, pl, q2⟩ => thn (hu pins s2 σ H2 _ I2 q2) fun vu s3 ⟨u, H3, I3, pu, q3⟩ => thn (hst pins s3 σ H3 _ I3 q3) fun vk s4 ⟨k, H4, I4, pk, q4⟩ => ?_)
  obtain ⟨a, ns, rfl, hx, h0, q⟩ := q4
  cases r1
  have I5 : Inv X pins σ H4 { s4 with heap := s4.heap.push { cls := .type "slice", data := .fields #[vl, vu, vk] } } := I4.kept (t' := s4.toks) fun b ob q => Heap.get?_push_of_some _ q
  obtain ⟨its, r, ht, hz⟩ := I5.list hx
  have hlen := r.length
  have hI := intsAre_of r
  show wpAny (model X.prog X.w) X.A (subscriptTail e (.Slice lo hi (some se) p2) (.ref a) (.ref s4.heap.objs.size)) (EP X pins σ Q) X.xe { s4 with heap := s4.heap.push { cls := .type "slice", data := .fields #[vl, vu, vk] } }
  refine tail_any (ops := [.ref a, .ref s4.heap.objs.size]) (T := "list") ht.isList.typeIs slot_list_getitem.lookup ?_ (by with_unfolding_all rfl)
  refine wpAny_getItem_list_slice ht.isList (Heap.IsSliceOf.new ..) pl pu pk h0 ?_ (by rw [List.size_toArray] <;> omega)
  have pk2 := vals_of_ints (hI.pick l u k)
  have pl2 := length_pickNums_le hI l u k
  generalize pickNums ns l u k = ms at *
  refine ⟨.ref _, _, I5.laid (t' := s4.toks) (o := .lst (ms.map V.int)) (fun b ob q => Heap.get?_push_of_some _ q) (Nat.le_refl _) ?_, rfl, q _ ms (I5.hok.fresh (Nat.le_refl _)) pl2⟩
  refine ⟨by rw [List.length_map] at hz ⊢; omega, _, 0, pk2, ?_⟩
  exact Heap.get?_push_size _ rfl
end
end L2
namespace L2
open PySem PySem.Spec PyProof.Rows
theorem bits_le {k : Int} {n : Nat} (h1 : 0 ≤ k) (h2 : k < 2 ^ n) : Builtin.Int.intBits k ≤ n + 1 := by
  unfold Builtin.Int.intBits
  split
  · exact Nat.zero_le _
  · have hn : k.natAbs < 2 ^ n := by
      have : ((k.natAbs : Nat) : Int) < ((2 ^ n : Nat) : Int) := by
        rw [Int.natAbs_of_nonneg h1]
        push_cast
        exact h2
      exact Int.ofNat_lt.mp this
    have : k.natAbs.log2 ≤ n := by
      rcases Nat.eq_zero_or_pos k.natAbs with h0 | hp
      · rw [h0]
        show 0 ≤ n
        exact Nat.zero_le _
      · exact Nat.le_of_lt ((Nat.log2_lt (Nat.ne_of_gt hp)).mpr hn)
    omega
def CMulB (i j : Int) : Prop := (0 ≤ i ∧ i < 2 ^ 600) ∧ (0 ≤ j ∧ j < 2 ^ 600)
section
variable {X : Cx}
theorem op_mulB : OpR X (binaryOp .Mult) (rI CMulB fun i j => .int (i * j)) := opI fun _ _ _ _ _ _ _ hc q => mul_int q (IntMulOk.of_bits (Nat.le_trans (bits_le hc.1.1 hc.1.2) (by decide)) (Nat.le_trans (bits_le hc.2.1 hc.2.2) (by decide)))
def rCatA (K : PySem.W.Frag) : R2 := fun x y H Q => ∃ a b xs ys, x = .ref a ∧ y = .ref b ∧ SqT K H a xs ∧ SqT K H b ys ∧ xs.length + ys.length ≤ sizeLine ∧ ∀ p H', Same H H' → SqT K H' p (xs ++ ys) → Q (.ref p) H'
theorem op_catA (K : PySem.W.Frag) (hK : X.K = K := by rfl) : OpR X (binaryOp .Add) (rCatA K) := by
  subst hK
  intro pins s σ H x y v u Q I rx ry h
  obtain ⟨a, b, xs, ys, rfl, rfl, ha, hb, hz, q⟩ := h
  by_cases hx : xs = []
  · subst hx
    cases rx
    cases ry
    obtain ⟨its, r1, p1, _⟩ := I.tuple ha
    obtain ⟨its2, r2, p2, _⟩ := I.tuple hb
    have e0 : its = [] := r1.nil_iff.mpr rfl
    subst e0
    obtain ⟨⟨cls, dd, data, sl⟩, ho, hc, n, hd⟩ := id p1
    obtain ⟨⟨cls2, dd2, data2, sl2⟩, ho2, hc2, n2, hd2⟩ := id p2
    simp only at hc hd hc2 hd2
    subst hc hd hc2 hd2
    exact concat_meets ⟨_, ho, rfl⟩ ⟨_, ho2, rfl⟩ noFill_tuple_add seq_tuple_add PySem.F.slot_tuple_add PySem.F.entry_tuple_add (PySem.F.args_tuple_add_2 _ _)
      (tuple_addW0 a b #[] its2.toArray n n2 dd dd2 sl sl2 rfl) ⟨ho, ho2, ⟨.ref b, H, I, rfl, q b H (Same.refl _) hb⟩⟩
  · refine op_catT pins s σ H _ _ v u Q I rx ry ⟨a, b, xs, ys, rfl, rfl, ha, hb, hx, hz, fun e => ?_, fun _ p hp => q p _ (same_upd hp) (SqT.of upd_same)⟩
    subst e
    exact q a H (Same.refl _) (by rw [List.append_nil]; exact ha)
theorem meets_raw_len {prog : Program} {w : World} {d : Addr} {es : Array DictEntry} {ep : Nat} (hd : (d == sysModules) = false) :
    MeetsIn prog w (Builtin.«dict.__len__» ⟨[.ref d], []⟩) (fun _ R s => RawD s.heap d es ep ∧ R (.ok (.ret (.int es.size s.toks))) { s with toks := s.toks + 1 }) :=
  .of_wp fun A R s ⟨⟨o, ho, hc, hdat⟩, h⟩ => by
    show wpAny _ _ (dictSize d >>= _) _ _ s
    unfold dictSize
    refine wpAny_bind (wpAny_bind (wpAny_dictEntries ho hdat (wpAny_pure ?_)))
    show wpAny _ _ (Builtin.Dict.pendingCount d >>= _) _ _ s
    refine wpAny_bind (wpAny_pendingCount_other hd ?_)
    refine wpAny_ret_mkInt ?_
    rw [Nat.add_zero]
    exact h
theorem raw_len {prog : Program} {w : World} {A : Around} {E : Value → Shared → Prop} {s : Shared} {d : Addr} {es : Array DictEntry} {ep : Nat} {Q : Value → Shared → Prop} (hd : (d == sysModules) = false) (hm : RawD s.heap d es ep) (hfit : (es.size : Int) < 2 ^ 63)
    (h : Q (.int es.size (s.toks + 1)) { s with toks := s.toks + 1 + 1 }) : wpAny (model prog w) A (call (.builtin "len") [.ref d]) Q E s := by
  refine Calls.call_function_entry kind_len plain_len entry_len (args_len1 _) ?_
  unfold Builtin.«len»
  refine wpAny_bind (m := oneArg "len" _) (wpAny_pure ?_)
  refine wpAny_bind (m := callSpecial? (.ref d) (Str.ofString "__len__")) (wpAny_callSpecial?_slot (name := Str.ofString "__len__") hm.ty F.slot_dict_len
    (call_meetsIn F.slot_dict_len hm.ty F.entry_dict_len (F.args_dict_len_1 _) (meets_raw_len hd) ⟨hm, ?_⟩))
  show wpAny _ _ _ _ _ { s with toks := s.toks + 1 }
  refine wpAny_bind (wpAny_holding (wpAny_pure ?_))
  refine wpAny_bind (wpAny_letGo ?_)
  show wpAny _ _ (if ((es.size : Nat) : Int) < 0 then _ else _) _ _ _
  rw [if_neg (by omega)]
  show wpAny _ _ (if ((es.size : Nat) : Int) ≥ 2 ^ 63 then _ else _) _ _ _
  rw [if_neg (by omega)]
  exact wpAny_bind (wpAny_mkInt (wpAny_pure ⟨_, rfl, h⟩))
theorem call_lenT : CallR X (.builtin "len") (fun xs H Q => ∃ a kvs, xs = [V.ref a] ∧ H a = some (.dT kvs) ∧ Q (.int kvs.length) H) := by
  intro pins s σ H xs us Q I r h
  obtain ⟨d, kvs, rfl, hd, q⟩ := h
  obtain ⟨u, rfl, ru⟩ := vals1 r
  cases ru
  obtain ⟨hz, hne, es0, rel, o, es, ep, ho, hx, hdat, hes, hnd⟩ := I.hok d _ hd
  have hlen : es.size = kvs.length := by
    rw [← Array.length_toList, hes, List.length_map, ← rel.length]
  refine raw_len (es := es) (ep := ep) hne ⟨o, ho, hx, hdat⟩ (by rw [hlen]; rw [sizeLine_eq] at hz; omega) ?_
  rw [hlen]
  exact ⟨.int kvs.length, H, I.tok _, ⟨_, rfl⟩, q⟩
end
end L2
namespace L2
open PySem PySem.Spec PyProof.Rows
section
variable {X : Cx}
end
section
variable {prog : Program} {w : World} {A : Around} {R : Result → Shared → Prop} {I : Addr} {fp wr : List Addr} {n : Nat} {P : Nat → Value → Prop} {St : Nat → Heap → Prop}
end
section
variable {X : Cx} {e d : Expr} {t tk : TA} {p pos kpos : Pos}
end
end L2
namespace L2
open PySem PySem.Spec PyProof.Rows
section
variable {prog : Program} {w : World} {A : Around} {E : Value → Shared → Prop} {s : Shared}
end
section
variable {prog : Program} {w : World} {A : Around} {R : Result → Shared → Prop} {I : Addr} {fp wr : List Addr} {n : Nat} {P : Nat → Value → Prop} {St : Nat → Heap → Prop}
end
section
variable {X : Cx}
end
end L2
namespace L2
open PySem PySem.Spec PyProof.Rows
def Itd (a : Addr) (o : Obj) (kvs : List (Key × V)) : It :=
  ⟨fun i H => H a = some (.frz o (.dK kvs)) ∧ i < kvs.length, fun i H x H' => H' = H ∧ ∃ kv, kvs[i]? = some kv ∧ x = kV kv.1, fun i H => H a = some (.frz o (.dK kvs)) ∧ kvs.length ≤ i⟩
theorem pairs_at {P : Program} {w : World} {es : List DictEntry} {vs : List (Key × Value)} (p : Pairs (mixKind P w) es vs) : ∀ {kvs : List (Key × V)} {i : Nat} {kv : Key × V}, KV kvs vs → kvs[i]? = some kv → ∃ e, es[i]? = some e ∧ RelV (kV kv.1) e.key := by
  induction p with
  | nil =>
    intro kvs i kv r h
    cases r
    simp at h
  | cons a b c ih =>
    intro kvs i kv r h
    cases r with
    | cons d f =>
      cases i with
      | zero =>
        simp at h
        subst h
        refine ⟨_, rfl, ?_⟩
        rw [← d.1] at a
        rcases keyIs_shape a with ⟨i, t, e1, e2⟩ | ⟨x', t, e1, e2⟩
        · rw [e1]
          exact ⟨t, e2⟩
        · rw [e1]
          exact ⟨t, e2⟩
      | succ i => simpa using ih f (by simpa using h)
section
variable {X : Cx} {tg : Expr}
theorem Inv.freeze {pins : List (Addr × Obj)} {σ : St} {H : Hp} {s : Shared} {a : Addr} {o : Obj} {kvs : List (Key × V)} (I : Inv X pins σ H s) (e : H a = some (.dK kvs)) (ho : s.heap.get? a = some o) : Inv X pins σ (upd H a (.frz o (.dK kvs))) s := by
  have u : Un X.fs [] H (upd H a (.frz o (.dK kvs))) s.heap s.heap := by
    refine ⟨fun b o q _ _ _ => q, fun b o q _ _ _ => ⟨o.slots, q⟩, fun b ob q n _ => ?_, fun b ob q _ => ⟨ob, q⟩, fun b xs q => ?_, fun b ob u q => ?_, fun b ps q => ⟨#[], ?_⟩⟩
    · rw [upd_ne (fun z => by rw [z, e] at n; cases n)]
      exact n
    · rw [upd_ne (fun z => by rw [z, e] at q; cases q)]
      exact q
    · rw [upd_ne (fun z => by rw [z, e] at q; cases q)]
      exact q
    · rw [upd_ne (fun z => by rw [z, e] at q; cases q), q]
      simp
  have hok : HOk X.prog X.w (upd H a (.frz o (.dK kvs))) s.heap := fun b ob q => by
    by_cases z : b = a
    · subst z
      rw [upd_same] at q
      cases q
      have := I.hok b _ e
      exact ⟨ho, this⟩
    · rw [upd_ne z] at q
      have hb := I.hok b ob q
      exact hb.stay (fun c u _ g => g) (fun c g => by rw [upd_ne (fun z => by rw [z, e] at g; cases g)]; exact g) fun c xs g => by rw [upd_ne (fun z => by rw [z, e] at g; cases g)]; exact g
  have := I.un (t' := s.toks) u hok
  exact this
theorem turn_dict {P : Program} {w : World} {K : PySem.W.Frag} (a it : Addr) (o : Obj) (es : Array DictEntry) (ep : Nat) (kvs : List (Key × V)) (ho : o.ExactDict) (hdat : o.data = .dict es ep) : Turn P w K tg (Itd a o kvs) [it] it (fun i h => h.IsKeyIter it a i es.size ep) where
  mem := by simp
  obj := fun i h st b hb => by
    have e : b = it := by simpa using hb
    subst e
    obtain ⟨o, e, c, d⟩ := st
    exact ⟨o, e, fun v z => by rw [d] at z; cases z⟩
  keep := fun i h h' st k => by
    obtain ⟨o, e, r⟩ := st
    exact ⟨o, k it (by simp) o e, r⟩
  item := by
    intro X hP hw hK hc i pins s σ H E I hf st hg
    subst hP hw hK
    obtain ⟨ha, hi⟩ := hg
    obtain ⟨hoa, hz, hne, vs, rel, o2, es2, ep2, ho2, hx2, hd2, _, hp2, hnd⟩ := I.hok a _ ha
    rw [hoa] at ho2
    cases ho2
    rw [hdat] at hd2
    cases hd2
    obtain ⟨e, he, ru⟩ := pairs_at hp2 rel (List.getElem?_eq_getElem hi)
    obtain ⟨f0, f1, f2, f3, f4, f5⟩ := hf it (by simp)
    refine raw_item st ⟨o, hoa, ho, hdat⟩ (e := e) (by simpa using he) fun h' st' sb => ?_
    have I1 : Inv X pins σ H { s with heap := h' } := I.turned (t' := s.toks) (fun b o hb e => (sb.2 b hb).trans e) f0 f1 f3 f4 f5
    obtain ⟨oi, ei, ci, di⟩ := id st'
    exact ⟨_, rfl, go_of (s := { s with heap := h' }) ei ci di (by decide) ⟨kV kvs[i].1, H, I1, ru, ⟨rfl, _, List.getElem?_eq_getElem hi, rfl⟩, st', fun b hb => (hf b hb).1⟩⟩
  done := by
    intro X hP hw hK hc i pins s σ H E I hf st hg
    subst hP hw hK
    obtain ⟨ha, hi⟩ := hg
    obtain ⟨hoa, hz, hne, vs, rel, o2, es2, ep2, ho2, hx2, hd2, _, hp2, hnd⟩ := I.hok a _ ha
    rw [hoa] at ho2
    cases ho2
    rw [hdat] at hd2
    cases hd2
    have hl : es.size = kvs.length := by
      have h1 := hp2.length
      have h2 : kvs.length = vs.length := Paired.length rel
      rw [Array.length_toList] at h1
      omega
    obtain ⟨f0, f1, f2, f3, f4, f5⟩ := hf it (by simp)
    exact raw_end (I.ok.hd hc) st ⟨o, hoa, ho, hdat⟩ (by omega) fun h' eb => ⟨rfl, I.turned (t' := s.toks) (fun b o hb e => eb b o hb e) f0 f1 f3 f4 f5⟩
  self := by
    intro A i s Q E st h
    exact wpAny_pyIter_keyiter st h
def iDct (tl : TE) : TI := fun σ H R => tl σ H fun x H1 => ∃ a kvs, x = .ref a ∧ ((H1 a = some (.dK kvs) ∧ ∀ o, R (Itd a o kvs) (upd H1 a (.frz o (.dK kvs)))) ∨ ∃ o, H1 a = some (.frz o (.dK kvs)) ∧ R (Itd a o kvs) H1)
theorem pi_dictK {l : Expr} {tl : TE} (hl : PE X l tl) : PI X tg l (iDct tl) := by
  intro pins s σ H R I h
  refine thn (hl pins s σ H _ I h) fun v s1 ⟨x, H1, I1, r1, q1⟩ => ?_
  obtain ⟨a, kvs, e, q⟩ := q1
  subst e
  cases r1
  obtain ⟨H2, o, I2, ha, q2⟩ : ∃ H2 o, Inv X pins σ H2 s1 ∧ H2 a = some (.frz o (.dK kvs)) ∧ R (Itd a o kvs) H2 := by
    rcases q with ⟨e, q⟩ | ⟨o, e, q⟩
    · obtain ⟨hz, hne, vs, rel, o, es, ep, ho, r⟩ := I1.hok a _ e
      exact ⟨_, o, I1.freeze e ho, upd_same, q o⟩
    · exact ⟨H1, o, I1, e, q⟩
  obtain ⟨hoa, hz, hne, vs, rel, o2, es, ep, ho2, hx2, hd2, _, hp2, hnd⟩ := I2.hok a _ ha
  rw [hoa] at ho2
  cases ho2
  refine raw_iter hne ⟨o, hoa, hx2, hd2⟩ ?_
  refine ⟨s1.heap.objs.size, [s1.heap.objs.size], _, _, H2, rfl, I2.kept (t' := s1.toks) fun b o e => Heap.get?_push_of_some _ e, turn_dict a _ o es ep kvs hx2 hd2, ⟨_, Heap.get?_push_size _ rfl, rfl, rfl⟩, fun b hb => ?_, q2⟩
  have e : b = s1.heap.objs.size := by simpa using hb
  subst e
  exact I2.fpOk (Nat.le_refl _) (I2.hok.fresh (Nat.le_refl _))
theorem for_dict {a : Addr} {o : Obj} {kvs : List (Key × V)} {g : TG} {tb : TS} {D : Ends} {σ : St} {H : Hp} (Pv : Nat → St → Hp → Prop) (h0 : Pv 0 σ H) (hl : ∀ i σ H, i ≤ kvs.length → Pv i σ H → H a = some (.frz o (.dK kvs)))
    (hs : ∀ i kv σ H, kvs[i]? = some kv → Pv i σ H → g (kV kv.1) σ H fun σ2 H2 => tb { D with nx := Pv (i + 1), ct := Pv (i + 1), bk := D.nx } σ2 H2) (he : ∀ σ H, Pv kvs.length σ H → D.nx σ H) :
    ∃ W : Nat → Nat → St → Hp → Prop, (∃ m, W 0 m σ H) ∧ ∀ i m σ H, W i m σ H → ((Itd a o kvs).stop i H ∧ D.nx σ H) ∨ ((Itd a o kvs).go i H ∧ ∃ N : St → Hp → Prop, (∀ σ' H', N σ' H' → ∃ m', m' < m ∧ W (i + 1) m' σ' H') ∧ ∀ x H', (Itd a o kvs).yld i H x H' → g x σ H' fun σ2 H2 => tb { D with nx := N, ct := N, bk := D.nx } σ2 H2) := by
  refine for_by kvs.length Pv h0 (fun i σ H hi p => ⟨hl i σ H (Nat.le_of_lt hi) p, hi⟩) (fun σ H p => ⟨⟨hl _ σ H (Nat.le_refl _) p, Nat.le_refl _⟩, he σ H p⟩) fun i σ H hi p x H' y => ?_
  obtain ⟨rfl, kv, hk, rfl⟩ := y
  exact hs i kv σ H' hk p
end
theorem fm_len {α : Type} {xs : List α} : ∀ {js : List Nat}, (∀ j ∈ js, j < xs.length) → (js.filterMap (xs[·]?)).length = js.length
  | [], _ => rfl
  | j :: js, h => by
    have hj := h j (List.mem_cons_self ..)
    rw [List.filterMap_cons, List.getElem?_eq_getElem hj, List.length_cons, List.length_cons, fm_len fun i hi => h i (List.mem_cons_of_mem _ hi)]
theorem pick_len {ns : List Int} {lo st : Int} (h0 : 0 ≤ lo) (h1 : lo < ns.length) (hs : 0 < st) : (pickNums ns (some lo) none (some st)).length = ((ns.length - lo + st - 1) / st).toNat := by
  have eb : sliceBounds (some lo) none (some st) ns.length = (lo, (ns.length : Int), st) := by
    unfold sliceBounds
    simp only [Option.getD_some, if_pos hs]
    rw [if_neg (by omega), Int.max_eq_right (by omega), Int.min_eq_left (by omega)]
  unfold pickNums
  rw [eb]
  unfold sliceRange
  simp only [if_pos (show st > 0 from hs), if_pos h1]
  rw [fm_len, List.length_map, List.length_range]
  intro j hj
  obtain ⟨k, hk, rfl⟩ := List.mem_map.mp hj
  have hk' := List.mem_range.mp hk
  have hc : ((ns.length : Int) - lo + st - 1) / st * st ≤ ns.length - lo + st - 1 := Int.ediv_mul_le _ (by omega)
  have hk2 : (k : Int) + 1 ≤ ((ns.length : Int) - lo + st - 1) / st := by omega
  have hm := Int.mul_le_mul_of_nonneg_right hk2 (Int.le_of_lt hs)
  rw [Int.add_mul, Int.one_mul] at hm
  have hcm : st * (k : Int) = (k : Int) * st := Int.mul_comm _ _
  have hnn : 0 ≤ (k : Int) * st := Int.mul_nonneg (by omega) (by omega)
  omega
section
variable {X : Cx} {e : Expr} {lo hi : Option Expr} {se : Expr} {te : TE} {tl th ts : TO} {p2 pos : Pos}
theorem pe_slice3E (K : PySem.W.Frag) (he : PE X e te) (hl : PO X lo tl) (hu : PO X hi th) (hst : PO X (some se) ts) (hK : X.K = K := by rfl) : PE X (.Subscript e (.Slice lo hi (some se) p2) pos) (fun σ H Q => te σ H fun x H1 => tl σ H1 fun l H2 => th σ H2 fun u H3 => ts σ H3 fun k H4 =>
    ∃ (a : Addr) (ns : List Int), x = .ref a ∧ SqL K H4 a (ns.map V.int) ∧ k ≠ some 0 ∧ ∀ p, H4 p = none → (pickNums ns l u k).length ≤ ns.length → Q (.ref p) (upd H4 p (.lst ((pickNums ns l u k).map V.int)))) := by
  subst hK
  intro pins s σ H Q I h
  refine Subscript_ (thn (he pins s σ H _ I h) fun v s1 ⟨x, H1, I1, r1, q1⟩ => ?_)
  refine wpAny_Slice (thn (hl pins s1 σ H1 _ I1 q1) fun vl s2 ⟨l, H2, I2, pl, q2⟩ => thn (hu pins s2 σ H2 _ I2 q2) fun vu s3 ⟨u, H3, I3, pu, q3⟩ => thn (hst pins s3 σ H3 _ I3 q3) fun vk s4 ⟨k, H4, I4, pk, q4⟩ => ?_)
  obtain ⟨a, ns, rfl, hx, h0, q⟩ := q4
  cases r1
  have I5 : Inv X pins σ H4 { s4 with heap := s4.heap.push { cls := .type "slice", data := .fields #[vl, vu, vk] } } := I4.kept (t' := s4.toks) fun b ob q => Heap.get?_push_of_some _ q
  obtain ⟨its, r, ht, hz⟩ := I5.list hx
  have hlen := r.length
  have hI := intsAre_of r
  show wpAny (model X.prog X.w) X.A (subscriptTail e (.Slice lo hi (some se) p2) (.ref a) (.ref s4.heap.objs.size)) (EP X pins σ Q) X.xe { s4 with heap := s4.heap.push { cls := .type "slice", data := .fields #[vl, vu, vk] } }
  refine tail_any (ops := [.ref a, .ref s4.heap.objs.size]) (T := "list") ht.isList.typeIs slot_list_getitem.lookup ?_ (by with_unfolding_all rfl)
  refine wpAny_getItem_list_slice ht.isList (Heap.IsSliceOf.new ..) pl pu pk h0 ?_ (by rw [List.size_toArray] <;> omega)
  have pk2 := vals_of_ints (hI.pick l u k)
  have pl2 := length_pickNums_le hI l u k
  refine ⟨.ref _, _, I5.laid (t' := s4.toks) (o := .lst ((pickNums ns l u k).map V.int)) (fun b ob q => Heap.get?_push_of_some _ q) (Nat.le_refl _) ?_, rfl, q _ (I5.hok.fresh (Nat.le_refl _)) pl2⟩
  refine ⟨by rw [List.length_map] at hz ⊢; omega, _, 0, pk2, ?_⟩
  exact Heap.get?_push_size _ rfl
end
end L2
namespace L2
open PySem PySem.Spec PyProof.Rows
section
variable {prog : Program} {w : World} {A : Around} {E : Value → Shared → Prop} {s : Shared}
theorem wp_same {nm : String} {a b : Addr} {oa ob : Obj} {ea eb : Array DictEntry} {pa pb : Nat} {Q : Bool → Shared → Prop} (na : (a == sysModules) = false) (nb : (b == sysModules) = false) (hoa : s.heap.get? a = some oa) (hda : oa.data = .dict ea pa)
    (hob : s.heap.get? b = some ob) (hdb : ob.data = .dict eb pb) (hkb : KeysOf (mixKind prog w) eb) (hsz : ea.size = eb.size)
    (hall : ∀ (i : Nat) (e : DictEntry), ea[i]? = some e → ∃ k j f, (mixKind prog w).is k e.key = true ∧ e.hash = (mixKind prog w).hash k ∧ (eb.findIdx? fun g => (mixKind prog w).is k g.key) = some j ∧ eb[j]? = some f ∧ SeqAt.EqAt A s e.val f.val true)
    (q : Q true s) : wpAny (model prog w) A (Builtin.Dict.samePairs nm a b) Q E s := by
  unfold Builtin.Dict.samePairs Builtin.Dict.showsAll
  rw [if_neg (by rw [na]; exact Bool.false_ne_true), if_neg (by rw [nb]; exact Bool.false_ne_true)]
  refine wpAny_bind (wpAny_pure ?_)
  refine wpAny_bind (wpAny_pure ?_)
  refine wpAny_bind (wpAny_dictEntries hoa hda ?_)
  refine wpAny_bind (wpAny_dictEntries hob hdb ?_)
  rw [if_neg (by simp [hsz])]
  refine wpAny_bind (wpAny_dictEpoch hoa hda ?_)
  refine wpAny_bind ?_
  rw [Std.Legacy.Range.forIn_eq_forIn_range']
  simp only [Std.Legacy.Range.size, Nat.sub_zero, Nat.add_sub_cancel, Nat.div_one]
  refine wpAny_forIn_list _ (fun rest x s' => s' = s ∧ x = (none, ()) ∧ ∃ i, i ≤ ea.size ∧ rest = List.range' i (ea.size - i)) _ ?_ ?_ _ _ ⟨rfl, rfl, 0, Nat.zero_le _, by simp⟩
  · rintro x rest st s' ⟨rfl, rfl, i, hi, hr⟩
    have lt : i < ea.size := by
      rcases Nat.lt_or_ge i ea.size with h | h
      · exact h
      · rw [Nat.sub_eq_zero_of_le h] at hr
        cases hr
    have e2 : ea.size - i = (ea.size - (i + 1)) + 1 := by omega
    rw [e2, List.range'_succ, List.cons.injEq] at hr
    obtain ⟨rfl, hr⟩ := hr
    refine wpAny_bind (wpAny_dictEntries hoa hda ?_)
    have ge := Array.getElem?_eq_getElem lt
    obtain ⟨k, j, f, h1, h2, h3, h4, h5⟩ := hall x _ ge
    rw [ge]
    have inner : wpAny (model prog w) A (holding [ea[x].key, ea[x].val] (do
          let __x ← dictFind b ea[x].key ea[x].hash
          match __x with
            | some j => do
              let __do_lift ← dictEntries b
              match __do_lift[j]? with
                | some f => holding [f.val] (eqBool ea[x].val f.val)
                | x => unsupported "internal:dict-equal"
            | x => pure false)) (fun v s2 => v = true ∧ s2 = s') E s' := by
      refine wpAny_holding (wpAny_bind ?_)
      rw [h2]
      refine wpAny_dictFind_of h1 hob hdb hkb ?_
      rw [h3]
      refine wpAny_bind (wpAny_dictEntries hob hdb ?_)
      rw [h4]
      exact wpAny_holding (h5 prog w _ _ ⟨rfl, rfl⟩)
    refine wpAny_bind (wpAny_mono inner (fun v s2 hv => ?_) fun _ _ z => z)
    obtain ⟨rfl, rfl⟩ := hv
    rw [if_neg (by decide)]
    refine wpAny_bind (wpAny_dictEpoch hoa hda ?_)
    rw [if_neg (by simp)]
    exact wpAny_pure ⟨rfl, rfl, x + 1, lt, hr⟩
  · rintro st s' ⟨rfl, rfl, i, hi, hr⟩
    exact wpAny_pure q
end
theorem pairs_get {P : Program} {w : World} {es : List DictEntry} {vs : List (Key × Value)} (p : Pairs (mixKind P w) es vs) : ∀ {i : Nat} {e : DictEntry}, es[i]? = some e → ∃ kv, vs[i]? = some kv ∧ (mixKind P w).is kv.1 e.key = true ∧ e.val = kv.2 := by
  induction p with
  | nil =>
    intro i e h
    simp at h
  | cons a b c ih =>
    intro i e h
    cases i with
    | zero =>
      simp at h
      subst h
      exact ⟨_, rfl, a, b⟩
    | succ i => simpa using ih (by simpa using h)
theorem pairs_put {P : Program} {w : World} {es : List DictEntry} {vs : List (Key × Value)} (p : Pairs (mixKind P w) es vs) {i : Nat} {kv : Key × Value} (h : vs[i]? = some kv) : ∃ e, es[i]? = some e := by
  have hl := p.length
  have hi := (List.getElem?_eq_some_iff.mp h).1
  exact ⟨_, List.getElem?_eq_getElem (by omega)⟩
theorem kv_get {kvs : List (Key × V)} {vs : List (Key × Value)} (r : KV kvs vs) : ∀ {i : Nat} {q : Key × Value}, vs[i]? = some q → ∃ p, kvs[i]? = some p ∧ p.1 = q.1 ∧ RelV p.2 q.2 := by
  induction r with
  | nil =>
    intro i q h
    simp at h
  | cons a b ih =>
    intro i q h
    cases i with
    | zero =>
      simp at h
      subst h
      exact ⟨_, rfl, a⟩
    | succ i => simpa using ih (by simpa using h)
theorem kv_put {kvs : List (Key × V)} {vs : List (Key × Value)} (r : KV kvs vs) {i : Nat} {p : Key × V} (h : kvs[i]? = some p) : ∃ q, vs[i]? = some q ∧ p.1 = q.1 ∧ RelV p.2 q.2 := by
  have hl : kvs.length = vs.length := Paired.length r
  have hi := (List.getElem?_eq_some_iff.mp h).1
  obtain ⟨p', h', e⟩ := kv_get r (List.getElem?_eq_getElem (show i < vs.length by omega))
  rw [h] at h'
  cases h'
  exact ⟨_, List.getElem?_eq_getElem (show i < vs.length by omega), e⟩
theorem two_get {F : (Key × V) → (Key × V) → Prop} {k1 k2 : List (Key × V)} (h : Paired F k1 k2) : ∀ {i : Nat} {p : Key × V}, k1[i]? = some p → ∃ q, k2[i]? = some q ∧ F p q := by
  induction h with
  | nil =>
    intro i p h
    simp at h
  | cons a b ih =>
    intro i p h
    cases i with
    | zero =>
      simp at h
      subst h
      exact ⟨_, rfl, a⟩
    | succ i => simpa using ih (by simpa using h)
section
variable {X : Cx}
def DatP (K : PySem.W.Frag) (H : Hp) (p q : Key × V) : Prop := p.1 = q.1 ∧ ∃ d, Dat K H d p.2 ∧ Dat K H d q.2 ∧ d.depth ≤ 60
def rNeDic (K : PySem.W.Frag) : R2 := fun x y H Q => ∃ a b k1 k2, x = .ref a ∧ y = .ref b ∧ Rd H a (.dK k1) ∧ Rd H b (.dK k2) ∧ Paired (DatP K H) k1 k2 ∧ Q (.bl false) H
theorem op_neDic (hu : X.A.units + 64 < cLine) (K : PySem.W.Frag) (hK : X.K = K := by rfl) : OpR X (compareOp .NotEq) (rNeDic K) := by
  subst hK
  intro pins s σ H x y v u Q I rx ry h
  obtain ⟨a, b, k1, k2, rfl, rfl, ra, rb, hp, q⟩ := h
  cases rx
  cases ry
  obtain ⟨hz1, hn1, v1, kv1, o1, e1, p1, ho1, hx1, hd1, hk1, hp1, hnd1⟩ := ra.ok I.hok
  obtain ⟨hz2, hn2, v2, kv2, o2, e2, p2, ho2, hx2, hd2, hk2, hp2, hnd2⟩ := rb.ok I.hok
  have l0 : k1.length = k2.length := Paired.length hp
  have l1 : k1.length = v1.length := Paired.length kv1
  have l2 : k2.length = v2.length := Paired.length kv2
  have l3 := hp1.length
  have l4 := hp2.length
  rw [Array.length_toList] at l3 l4
  show wpAny _ _ (richCompare .NotEq (.ref a) (.ref b)) _ _ s
  refine wpAny_richCompare_same_room (T := "dict") ⟨o1, ho1, hx1.1⟩ ⟨o2, ho2, hx2.1⟩ PySem.F.slot_dict_ne (wpAny_call_entry PySem.F.slot_dict_ne ⟨o1, ho1, hx1.1⟩ PySem.F.entry_dict_ne ?_ (PySem.F.args_dict_ne_2 _ _)) (by omega)
  unfold Builtin.«dict.__ne__»
  have T1 : s.TypeIs (.ref a) "dict" := ⟨o1, ho1, hx1.1⟩
  have T2 : s.TypeIs (.ref b) "dict" := ⟨o2, ho2, hx2.1⟩
  have same : ∀ nm (Q2 : Bool → Shared → Prop) (E2 : Value → Shared → Prop), Q2 true s → wpAny (model X.prog X.w) X.A.in1 (Builtin.Dict.samePairs nm a b) Q2 E2 s := fun nm Q2 E2 q2 => by
    refine wp_same hn1 hn2 ho1 hd1 ho2 hd2 hk2 (by omega) (fun i e he => ?_) q2
    have he' : e1.toList[i]? = some e := by simpa using he
    obtain ⟨kv, hkv, i1, i2⟩ := pairs_get hp1 he'
    obtain ⟨pv, hpv, pe, pr⟩ := kv_get kv1 hkv
    obtain ⟨qv, hqv, qe, d, dd1, dd2, dz⟩ := two_get hp hpv
    obtain ⟨qw, hqw, we, wr⟩ := kv_put kv2 hqv
    obtain ⟨f, hf⟩ := pairs_put hp2 hqw
    obtain ⟨qw2, hqw2, j1, j2⟩ := pairs_get hp2 hf
    rw [hqw] at hqw2
    cases hqw2
    have ek : kv.1 = qw.1 := by rw [← pe, qe, we]
    obtain ⟨k', hk', hh'⟩ := hk1 e (Array.mem_of_getElem? he)
    have ek' : k' = kv.1 := (mixKind X.prog X.w).inj _ _ _ hk' i1
    have hf2 : e2[i]? = some f := by simpa using hf
    have hlt : i < e2.size := (Array.getElem?_eq_some_iff.mp hf2).1
    refine ⟨kv.1, i, f, i1, by rw [hh', ek'], ?_, hf2, ?_⟩
    · rw [Array.findIdx?_eq_some_iff_getElem]
      refine ⟨hlt, ?_, fun j hj => ?_⟩
      · have : e2[i] = f := by
          have := Array.getElem?_eq_getElem hlt
          rw [this] at hf2
          exact Option.some.inj hf2
        rw [this, ek]
        exact j1
      · intro z
        have hj2 : j < e2.size := by omega
        obtain ⟨qj, hqj, z1, _⟩ := pairs_get hp2 (i := j) (e := e2[j]) (by simp [hj2])
        have ej : kv.1 = qj.1 := (mixKind X.prog X.w).inj _ _ _ z z1
        have m1 : (v2.map (·.1))[j]? = some qw.1 := by rw [List.getElem?_map, hqj]; show some qj.1 = _; rw [← ej, ek]
        have m2 : (v2.map (·.1))[i]? = some qw.1 := by rw [List.getElem?_map, hqw]; rfl
        obtain ⟨b1, c1⟩ := List.getElem?_eq_some_iff.mp m1
        obtain ⟨b2, c2⟩ := List.getElem?_eq_some_iff.mp m2
        have := (List.pairwise_iff_getElem.mp hnd2) j i b1 b2 hj
        exact this (c1.trans c2.symm)
    · rw [i2, j2]
      obtain ⟨as, r1⟩ := Dat.reads I _ _ _ dd1 pr
      obtain ⟨bs, r2⟩ := Dat.reads I _ _ _ dd2 wr
      have hq := SeqAt.eqAt_reads d d X.A.in1 s _ _ as bs r1 r2 (Dat.lay _ _ dd1) (Dat.lay _ _ dd2) (by
        have : X.A.in1.units = X.A.units + 1 := rfl
        rw [this]
        have : min d.depth d.depth ≤ d.depth := Nat.min_le_left _ _
        omega)
      rw [SeqAt.eqv_refl _ (Dat.lay _ _ dd1)] at hq
      exact hq
  refine wpAny_bind (m := Builtin.Dict.dictSlotArgs "__ne__" ⟨[.ref a, .ref b], []⟩) ?_
  unfold Builtin.Dict.dictSlotArgs
  refine wpAny_bind (wpAny_notOrdered_dict T1 ?_)
  refine wpAny_pure ?_
  refine wpAny_bind (wpAny_isInstance T2 isSubtype_dict_dict ?_)
  rw [if_neg (by decide)]
  refine wpAny_bind (m := Builtin.Dict.addrOf (Value.ref a)) (wpAny_pure ?_)
  refine wpAny_bind (m := Builtin.Dict.addrOf (Value.ref b)) (wpAny_pure ?_)
  refine wpAny_bind (same _ _ _ ?_)
  exact wpAny_pure ⟨_, rfl, (fun z => nomatch z), fin_bl I q rfl⟩
end
end L2
set_option maxHeartbeats 4000000
namespace Wy
open PySem L2
def top (i : Nat) : Stmt := PySem.Challenge.pw_whyrows_k16_filled.main.body.getD i (.Pass ⟨0, 0, 0, 0⟩)
abbrev s_of_fact : Stmt := top 1
abbrev s_count_in : Stmt := top 2
abbrev s_told_as_why : Stmt := top 3
abbrev s_gathered : Stmt := top 4
abbrev s_times : Stmt := top 5
abbrev s_product_filled : Stmt := top 7
abbrev s_filled : Stmt := top 8
abbrev s__law_cell_at : Stmt := top 10
abbrev s__law_stream : Stmt := top 11
abbrev s__law_word : Stmt := top 12
abbrev s__law_words : Stmt := top 13
abbrev s__law_why : Stmt := top 14
abbrev s__law_is_product : Stmt := top 15
abbrev s__law_is_why : Stmt := top 16
abbrev s__law_fillings : Stmt := top 17
abbrev s__law_due : Stmt := top 18
abbrev s__law_copied : Stmt := top 19
abbrev s_law : Stmt := top 20
theorem sc_of_fact : FnScope ["name"] ["name"] (defScope s_of_fact) := ⟨rfl, rfl, rfl, by decide +kernel, rfl, by decide +kernel, by decide +kernel⟩
theorem sc_count_in : FnScope ["ways_by_product", "names", "ways", "product"] ["ways_by_product", "names", "ways"] (defScope s_count_in) := ⟨rfl, rfl, rfl, by decide +kernel, rfl, by decide +kernel, by decide +kernel⟩
theorem sc_told_as_why : FnScope ["ways_by_product"] ["ways_by_product"] (defScope s_told_as_why) := ⟨rfl, rfl, rfl, by decide +kernel, rfl, by decide +kernel, by decide +kernel⟩
theorem sc_gathered : FnScope ["pairs", "ways_by_product", "names", "ways"] ["pairs"] (defScope s_gathered) := ⟨rfl, rfl, rfl, by decide +kernel, rfl, by decide +kernel, by decide +kernel⟩
theorem sc_times : FnScope ["one", "other", "ways_by_product", "names", "ways", "more_names", "more_ways"] ["one", "other"] (defScope s_times) := ⟨rfl, rfl, rfl, by decide +kernel, rfl, by decide +kernel, by decide +kernel⟩
theorem sc_product_filled : FnScope ["product", "ways", "whys", "so_far", "name"] ["product", "ways", "whys"] (defScope s_product_filled) := ⟨rfl, rfl, rfl, by decide +kernel, rfl, by decide +kernel, by decide +kernel⟩
theorem sc_filled : FnScope ["why", "whys", "pairs", "product", "ways"] ["why", "whys"] (defScope s_filled) := ⟨rfl, rfl, rfl, by decide +kernel, rfl, by decide +kernel, by decide +kernel⟩
theorem sc__law_cell_at : FnScope ["_law_script", "_law_k"] ["_law_script", "_law_k"] (defScope s__law_cell_at) := ⟨rfl, rfl, rfl, by decide +kernel, rfl, by decide +kernel, by decide +kernel⟩
theorem sc__law_stream : FnScope ["_law_cell", "_law_many", "_law_number", "_law_found", "_law_k"] ["_law_cell", "_law_many"] (defScope s__law_stream) := ⟨rfl, rfl, rfl, by decide +kernel, rfl, by decide +kernel, by decide +kernel⟩
theorem sc__law_word : FnScope ["_law_cell", "_law_size", "_law_signs", "_law_found", "_law_number"] ["_law_cell", "_law_size"] (defScope s__law_word) := ⟨rfl, rfl, rfl, by decide +kernel, rfl, by decide +kernel, by decide +kernel⟩
theorem sc__law_words : FnScope ["_law_cell", "_law_many", "_law_signs", "_law_way", "_law_base", "_law_size", "_law_at", "_law_found", "_law_k", "_law_word_here", "_law_sign"] ["_law_cell", "_law_many"] (defScope s__law_words) := ⟨rfl, rfl, rfl, by decide +kernel, rfl, by decide +kernel, by decide +kernel⟩
theorem sc__law_why : FnScope ["_law_cells", "_law_words_here", "_law_most", "_law_ways", "_law_cell", "_law_row", "_law_size", "_law_product", "_law_many"] ["_law_cells", "_law_words_here", "_law_most"] (defScope s__law_why) := ⟨rfl, rfl, rfl, by decide +kernel, rfl, by decide +kernel, by decide +kernel⟩
theorem sc__law_is_product : FnScope ["_law_thing", "_law_k"] ["_law_thing"] (defScope s__law_is_product) := ⟨rfl, rfl, rfl, by decide +kernel, rfl, by decide +kernel, by decide +kernel⟩
theorem sc__law_is_why : FnScope ["_law_thing", "_law_pair", "_law_k"] ["_law_thing"] (defScope s__law_is_why) := ⟨rfl, rfl, rfl, by decide +kernel, rfl, by decide +kernel, by decide +kernel⟩
theorem sc__law_fillings : FnScope ["_law_cells", "_law_words_here", "_law_most", "_law_whys", "_law_k", "_law_mine"] ["_law_cells", "_law_words_here", "_law_most"] (defScope s__law_fillings) := ⟨rfl, rfl, rfl, by decide +kernel, rfl, by decide +kernel, by decide +kernel⟩
theorem sc__law_due : FnScope ["_law_why_here", "_law_whys", "_law_due_here", "_law_product", "_law_many", "_law_rows", "_law_name", "_law_longer", "_law_left", "_law_more", "_law_right", "_law_yet", "_law_names", "_law_key"] ["_law_why_here", "_law_whys"] (defScope s__law_due) := ⟨rfl, rfl, rfl, by decide +kernel, rfl, by decide +kernel, by decide +kernel⟩
theorem sc__law_copied : FnScope ["_law_whys", "_law_found", "_law_name"] ["_law_whys"] (defScope s__law_copied) := ⟨rfl, rfl, rfl, by decide +kernel, rfl, by decide +kernel, by decide +kernel⟩
theorem sc_law : FnScope ["_law_script", "_law_way", "_law_words_here", "_law_cells", "_law_why_here", "_law_whys", "_law_handed", "_law_beside", "_law_found", "_law_due_here", "_law_product", "_law_many", "_law_again"] ["_law_script"] (defScope s_law) := ⟨rfl, rfl, rfl, by decide +kernel, rfl, by decide +kernel, by decide +kernel⟩
structure Txt (K : PySem.W.Frag) (mg : Str → Option Value) : Prop where
  b_bool : mg "bool" = none
  b_int : mg "int" = none
  b_isinstance : mg "isinstance" = none
  b_len : mg "len" = none
  b_list : mg "list" = none
  b_range : mg "range" = none
  b_sorted : mg "sorted" = none
  b_str : mg "str" = none
  b_tuple : mg "tuple" = none
  t_of_fact : Top K mg "of_fact" s_of_fact ["name"]
  t_count_in : Top K mg "count_in" s_count_in ["ways_by_product", "names", "ways"]
  t_told_as_why : Top K mg "told_as_why" s_told_as_why ["ways_by_product"]
  t_gathered : Top K mg "gathered" s_gathered ["pairs"]
  t_times : Top K mg "times" s_times ["one", "other"]
  t_product_filled : Top K mg "product_filled" s_product_filled ["product", "ways", "whys"]
  t_filled : Top K mg "filled" s_filled ["why", "whys"]
  t__law_cell_at : Top K mg "_law_cell_at" s__law_cell_at ["_law_script", "_law_k"]
  t__law_stream : Top K mg "_law_stream" s__law_stream ["_law_cell", "_law_many"]
  t__law_word : Top K mg "_law_word" s__law_word ["_law_cell", "_law_size"]
  t__law_words : Top K mg "_law_words" s__law_words ["_law_cell", "_law_many"]
  t__law_why : Top K mg "_law_why" s__law_why ["_law_cells", "_law_words_here", "_law_most"]
  t__law_is_product : Top K mg "_law_is_product" s__law_is_product ["_law_thing"]
  t__law_is_why : Top K mg "_law_is_why" s__law_is_why ["_law_thing"]
  t__law_fillings : Top K mg "_law_fillings" s__law_fillings ["_law_cells", "_law_words_here", "_law_most"]
  t__law_due : Top K mg "_law_due" s__law_due ["_law_why_here", "_law_whys"]
  t__law_copied : Top K mg "_law_copied" s__law_copied ["_law_whys"]
  t_law : Top K mg "law" s_law ["_law_script"]
end Wy
namespace Wy
open PySem L2
theorem iteFb {b : Bool} {A B : Prop} (e : b = false) (h : B) : if b = true then A else B := by
  subst e
  exact iteF h
theorem len_list (z : Str) : z.cps.toList.length = z.length := by simp [Str.length]
theorem app_list (a b : Str) : (a ++ b).cps.toList = a.cps.toList ++ b.cps.toList := by
  show (a.cps ++ b.cps).toList = _
  rw [Array.toList_append]
theorem len_app (a b : Str) : (a ++ b).length = a.length + b.length := by
  show (a.cps ++ b.cps).size = a.cps.size + b.cps.size
  exact Array.size_append
theorem strOk_of {z : Str} (h : ∀ c ∈ z.cps.toList, c < 0x110000) : PyData.strOk z = true := by
  unfold PyData.strOk
  rw [← Array.all_toList, List.all_eq_true]
  exact fun c hc => decide_eq_true (h c hc)
theorem cut_mem {z : Str} {lo hi : Option Int} {c : Nat} (h : c ∈ (cutS z lo hi).cps.toList) : c ∈ z.cps.toList := by
  unfold cutS at h
  rw [List.toList_toArray] at h
  exact List.mem_of_mem_drop (List.mem_of_mem_take h)
theorem dats_get {K : PySem.W.Frag} {H : Hp} : ∀ {ds : List PyData} {xs : List V} {i : Nat} {x : V}, Dats K H ds xs → xs[i]? = some x → ∃ d, ds[i]? = some d ∧ Dat K H d x
  | _, _, i, x, .nil, h => by simp at h
  | _, _, 0, x, .cons a b, h => by
    simp at h
    subst h
    exact ⟨_, rfl, a⟩
  | _, _, i + 1, x, .cons a b, h => by
    obtain ⟨d, e, r⟩ := dats_get (i := i) (x := x) b (by simpa using h)
    exact ⟨d, by simpa using e, r⟩
theorem dats_len {K : PySem.W.Frag} {H : Hp} : ∀ {ds : List PyData} {xs : List V}, Dats K H ds xs → ds.length = xs.length
  | _, _, .nil => rfl
  | _, _, .cons a b => by rw [List.length_cons, List.length_cons, dats_len b]
def SameBut (d : Addr) (H H' : Hp) : Prop := ∀ b o, b ≠ d → H b = some o → H' b = some o
theorem SameBut.trans {d : Addr} {H H1 H2 : Hp} (a : SameBut d H H1) (b : SameBut d H1 H2) : SameBut d H H2 := fun c o n e => b c o n (a c o n e)
theorem Same.but {d : Addr} {H H' : Hp} (s : Same H H') : SameBut d H H' := fun b o _ e => s b o e
theorem SameBut.upd (d : Addr) (H : Hp) (o : HO) : SameBut d H (upd H d o) := fun b u n e => by rw [upd_ne n]; exact e
theorem SameBut.seqT {K : PySem.W.Frag} {d a : Addr} {H H' : Hp} {xs : List V} {o : HO} (s : SameBut d H H') (hd : H d = some o) (hn : ∀ ys, o ≠ .tup ys) (hf : ∀ b ys, o ≠ .frz b (.tup ys)) (h : SqT K H a xs) : SqT K H' a xs := by
  rcases h with (h | ⟨b, h⟩) | h
  · exact .inl (.inl (s a _ (fun e => by subst e; rw [hd] at h; exact hn _ (Option.some.inj h)) h))
  · exact .inl (.inr ⟨b, s a _ (fun e => by subst e; rw [hd] at h; exact hf _ _ (Option.some.inj h)) h⟩)
  · exact .inr h
def KeepT (H H' : Hp) : Prop := ∀ b ys, H b = some (.tup ys) → H' b = some (.tup ys)
theorem Same.keepT {H H' : Hp} (s : Same H H') : KeepT H H' := fun b ys e => s b _ e
theorem KeepT.trans {H H1 H2 : Hp} (a : KeepT H H1) (b : KeepT H1 H2) : KeepT H H2 := fun c ys e => b c ys (a c ys e)
theorem KeepT.upd {H H' : Hp} {d : Addr} {xs ys : List V} (k : KeepT H H') (e : H' d = some (.lst xs)) : KeepT H (upd H' d (.lst ys)) := fun b zs hb => by
  rw [upd_ne (fun z => by rw [z] at hb; have := k _ _ hb; rw [e] at this; cases this)]
  exact k b zs hb
abbrev Tab := List (List Str × Int)
def encI (W : Tab) : List (List Str × V) := W.map fun kv => (kv.1, V.int kv.2)
def encD (W : Tab) : HO := .dT ((encI W).map fun kv => (kv.1.map Sum.inr, kv.2))
def getA (W : Tab) (k : List Str) : Option Int := (W.find? fun kv => decide (kv.1 = k)).map (·.2)
def putA (W : Tab) (k : List Str) (v : Int) : Tab := if (W.any fun kv => decide (kv.1 = k)) = true then W.map (fun kv => if kv.1 = k then (kv.1, v) else kv) else W ++ [(k, v)]
def addA (W : Tab) (k : List Str) (v : Int) : Tab := putA W k ((getA W k).getD 0 + v)
theorem inr_inj {a b : List Str} : a.map (Sum.inr : Str → Key) = b.map Sum.inr ↔ a = b := by
  constructor
  · intro h
    exact List.map_inj_right (fun x y e => Sum.inr.inj e) |>.mp h
  · intro h
    rw [h]
theorem dec_inr (a b : List Str) : decide (a.map (Sum.inr : Str → Key) = b.map Sum.inr) = decide (a = b) := decide_eq_decide.mpr inr_inj
theorem valV_enc (W : Tab) (k : List Str) : valV ((encI W).map fun kv => (kv.1.map (Sum.inr : Str → Key), kv.2)) (k.map Sum.inr) = (getA W k).map V.int := by
  unfold valV getA encI
  induction W with
  | nil => rfl
  | cons p W ih =>
    rw [List.map_cons, List.map_cons]
    by_cases e : p.1 = k
    · rw [List.find?_cons_of_pos (by rw [e]; simp), List.find?_cons_of_pos (by simpa using e)]
      rfl
    · rw [List.find?_cons_of_neg (by simpa using fun q => e (inr_inj.mp q)), List.find?_cons_of_neg (by simpa using e)]
      exact ih
theorem putK_enc (W : Tab) (k : List Str) (v : Int) : putK ((encI W).map fun kv => (kv.1.map (Sum.inr : Str → Key), kv.2)) (k.map Sum.inr) (V.int v) = (encI (putA W k v)).map fun kv => (kv.1.map Sum.inr, kv.2) := by
  unfold putK putA encI
  have e1 : ((List.map (fun kv : List Str × V => (kv.1.map (Sum.inr : Str → Key), kv.2)) (W.map fun kv => (kv.1, V.int kv.2))).any fun kv => decide (kv.1 = k.map Sum.inr)) = W.any fun kv => decide (kv.1 = k) := by
    rw [List.any_map, List.any_map]
    congr 1
    funext kv
    exact dec_inr kv.1 k
  rw [e1]
  split
  · rw [List.map_map, List.map_map, List.map_map, List.map_map]
    refine List.map_congr_left fun kv _ => ?_
    show (if kv.1.map (Sum.inr : Str → Key) = k.map Sum.inr then (kv.1.map Sum.inr, V.int v) else (kv.1.map Sum.inr, V.int kv.2)) = _
    by_cases h : kv.1 = k
    · rw [if_pos (by rw [h])]
      show _ = (((if kv.1 = k then (kv.1, v) else kv).1).map Sum.inr, V.int (if kv.1 = k then (kv.1, v) else kv).2)
      rw [if_pos h]
    · rw [if_neg (fun q => h (inr_inj.mp q))]
      show _ = (((if kv.1 = k then (kv.1, v) else kv).1).map Sum.inr, V.int (if kv.1 = k then (kv.1, v) else kv).2)
      rw [if_neg h]
  · rw [List.map_append, List.map_append]
    rfl
theorem get_put (W : Tab) (k j : List Str) (v : Int) : getA (putA W k v) j = if j = k then some v else getA W j := by
  have h := valV_put (κ := List Str) (encI W) k j (V.int v)
  have e : ∀ W : Tab, valV (κ := List Str) (encI W) j = (getA W j).map V.int := fun W => by
    unfold valV getA encI
    induction W with
    | nil => rfl
    | cons p W ih =>
      rw [List.map_cons]
      by_cases e : p.1 = j
      · rw [List.find?_cons_of_pos (by simpa using e), List.find?_cons_of_pos (by simpa using e)]
        rfl
      · rw [List.find?_cons_of_neg (by simpa using e), List.find?_cons_of_neg (by simpa using e)]
        exact ih
  have e2 : putK (encI W) k (V.int v) = encI (putA W k v) := by
    unfold putK putA encI
    rw [List.any_map]
    show (if (W.any fun kv => decide (kv.1 = k)) = true then _ else _) = _
    split
    · rw [List.map_map, List.map_map]
      refine List.map_congr_left fun kv _ => ?_
      show (if kv.1 = k then (kv.1, V.int v) else (kv.1, V.int kv.2)) = ((if kv.1 = k then (kv.1, v) else kv).1, V.int (if kv.1 = k then (kv.1, v) else kv).2)
      split <;> rfl
    · rw [List.map_append]
      rfl
  rw [e2, e, e] at h
  by_cases hj : j = k
  · rw [if_pos hj] at h ⊢
    cases q : getA (putA W k v) j with
    | none => rw [q] at h; cases h
    | some n => rw [q] at h; simpa using h
  · rw [if_neg hj] at h ⊢
    cases q : getA (putA W k v) j with
    | none =>
      rw [q] at h
      cases r : getA W j with
      | none => rfl
      | some n => rw [r] at h; cases h
    | some n =>
      rw [q] at h
      cases r : getA W j with
      | none => rw [r] at h; cases h
      | some m => rw [r] at h; simpa using h
theorem get_add (W : Tab) (k j : List Str) (v : Int) : (getA (addA W k v) j).getD 0 = (getA W j).getD 0 + if j = k then v else 0 := by
  unfold addA
  rw [get_put]
  by_cases h : j = k
  · subst h
    rw [if_pos rfl, if_pos rfl]
    rfl
  · rw [if_neg h, if_neg h, Int.add_zero]
theorem keys_put (W : Tab) (k : List Str) (v : Int) : (putA W k v).map (·.1) = if k ∈ W.map (·.1) then W.map (·.1) else W.map (·.1) ++ [k] := by
  unfold putA
  have e : (W.any fun kv => decide (kv.1 = k)) = decide (k ∈ W.map (·.1)) := by
    rw [Bool.eq_iff_iff, List.any_eq_true, decide_eq_true_iff, List.mem_map]
    constructor
    · rintro ⟨p, hp, h⟩
      exact ⟨p, hp, of_decide_eq_true h⟩
    · rintro ⟨p, hp, h⟩
      exact ⟨p, hp, decide_eq_true h⟩
  rw [e]
  by_cases h : k ∈ W.map (·.1)
  · rw [if_pos (decide_eq_true h), if_pos h, List.map_map]
    refine List.map_congr_left fun kv _ => ?_
    show (if kv.1 = k then (kv.1, v) else kv).1 = kv.1
    split <;> rfl
  · rw [if_neg (by simpa using h), if_neg h, List.map_append]
    rfl
theorem nd_put {W : Tab} (h : (W.map (·.1)).Nodup) (k : List Str) (v : Int) : ((putA W k v).map (·.1)).Nodup := by
  rw [keys_put]
  split
  · exact h
  · rename_i hk
    exact nd_snoc h hk
theorem mem_put {W : Tab} {k : List Str} {v : Int} {j : List Str} : j ∈ (putA W k v).map (·.1) ↔ j ∈ W.map (·.1) ∨ j = k := by
  rw [keys_put]
  split
  · rename_i hk
    constructor
    · exact .inl
    · rintro (h | rfl)
      · exact h
      · exact hk
  · rw [List.mem_append, List.mem_singleton]
theorem len_put (W : Tab) (k : List Str) (v : Int) : (putA W k v).length ≤ W.length + 1 := by
  have : (putA W k v).length = ((putA W k v).map (·.1)).length := by rw [List.length_map]
  rw [this, keys_put]
  split
  · rw [List.length_map]; omega
  · rw [List.length_append, List.length_map]; exact Nat.le_refl _
def told (W : Tab) : Tab := ((Tim.srt prodLt (W.map (·.1))).map fun k => (k, (getA W k).getD 0)).filter fun kv => decide (0 < kv.2)
def pairD (kv : List Str × Int) : PyData := .tuple [.tuple (kv.1.map .str), .int kv.2]
def whyD (W : Tab) : List PyData := W.map pairD
theorem paired_snoc {α β : Type} {F : α → β → Prop} {x : α} {y : β} : ∀ {xs : List α} {ys : List β}, Paired F xs ys → F x y → Paired F (xs ++ [x]) (ys ++ [y])
  | _, _, .nil, h => .cons h .nil
  | _, _, .cons a b, h => .cons a (paired_snoc b h)
def PlAt (H : Hp) (x : V) (kv : List Str × Int) : Prop := ∃ q b, x = .ref q ∧ H q = some (.tup [.ref b, .int kv.2]) ∧ H b = some (.tup (kv.1.map V.str))
theorem PlAt.keep {H H' : Hp} {x : V} {kv : List Str × Int} (h : PlAt H x kv) (s : KeepT H H') : PlAt H' x kv := by
  obtain ⟨q, b, e, h1, h2⟩ := h
  exact ⟨q, b, e, s _ _ h1, s _ _ h2⟩
theorem pl_keep {H H' : Hp} (s : KeepT H H') : ∀ {xs : List V} {ps : Tab}, Paired (PlAt H) xs ps → Paired (PlAt H') xs ps
  | _, _, .nil => .nil
  | _, _, .cons a b => .cons (a.keep s) (pl_keep s b)
def gath (ps : Tab) : Tab := ps.foldl (fun W p => addA W (Tim.srt strLt p.1) p.2) []
end Wy
namespace Wy
open PySem L2
theorem opt_int (o : Option Int) : (o.map V.int).getD (V.int 0) = V.int (o.getD 0) := by cases o <;> rfl
theorem told_all {W : Tab} (h : (W.map (·.1)).Nodup) {k : List Str} (hk : k ∈ W.map (·.1)) : ∃ n, getA W k = some n ∧ (k, n) ∈ W := by
  obtain ⟨⟨k', n⟩, hp, e⟩ := List.mem_map.mp hk
  have e' : k' = k := e
  subst e'
  unfold getA
  cases q : W.find? fun kv => decide (kv.1 = k') with
  | none =>
    have := List.find?_eq_none.mp q _ hp
    simp at this
  | some x =>
    have h1 := List.find?_some q
    have h2 := List.mem_of_find?_eq_some q
    obtain ⟨x1, x2⟩ := x
    have : x1 = k' := by simpa using h1
    subst this
    exact ⟨x2, rfl, h2⟩
theorem dat_prod {K : PySem.W.Frag} {H : Hp} {b : Addr} {p : List Str} (h : H b = some (.tup (p.map V.str))) (ho : ∀ x ∈ p, PyData.strOk x = true) : Dat K H (.tuple (p.map .str)) (.ref b) := by
  refine .tup (SqT.of h) ?_
  clear h
  induction p with
  | nil => exact .nil
  | cons x p ih => exact .cons (.str x (ho x (List.mem_cons_self ..))) (ih fun y hy => ho y (List.mem_cons_of_mem _ hy))
theorem pls_dats {K : PySem.W.Frag} {H : Hp} : ∀ {xs : List V} {W : Tab}, Paired (PlAt H) xs W → (∀ kv ∈ W, ∀ z ∈ kv.1, PyData.strOk z = true) → Dats K H (whyD W) xs
  | _, _, .nil, _ => .nil
  | _, _, .cons ⟨q, b, e, h1, h2⟩ r, ok => by
    subst e
    exact .cons (.tup (SqT.of h1) (.cons (dat_prod h2 (ok _ (List.mem_cons_self ..))) (.cons (.int _) .nil))) (pls_dats r fun kv hkv => ok kv (List.mem_cons_of_mem _ hkv))
theorem paired_get {α β : Type} {F : α → β → Prop} : ∀ {l : List α} {k : List β} {i : Nat} {x : α}, Paired F l k → l[i]? = some x → ∃ y, k[i]? = some y ∧ F x y
  | _, _, _, _, .nil, h => by simp at h
  | _, _, 0, _, .cons a _, h => by
    simp at h
    subst h
    exact ⟨_, rfl, a⟩
  | _, _, i + 1, x, .cons _ r, h => by
    obtain ⟨y, e, f⟩ := paired_get (i := i) (x := x) r (by simpa using h)
    exact ⟨y, by simpa using e, f⟩
def PairAt (K : PySem.W.Frag) (H : Hp) (x : V) (p : List Str × Int) : Prop := ∃ q b, x = V.ref q ∧ SqT K H q [.ref b, .int p.2] ∧ (SqL K H b (p.1.map V.str) ∨ SqT K H b (p.1.map V.str))
theorem PairAt.same {K : PySem.W.Frag} {H H' : Hp} {x : V} {p : List Str × Int} (h : PairAt K H x p) (s : Same H H') : PairAt K H' x p := by
  obtain ⟨q, b, e, h1, h2⟩ := h
  exact ⟨q, b, e, s.seqT h1, h2.imp s.seq s.seqT⟩
theorem gath_snoc (ps : Tab) (p : List Str × Int) : gath (ps ++ [p]) = addA (gath ps) (Tim.srt strLt p.1) p.2 := by
  unfold gath
  rw [List.foldl_append]
  rfl
theorem gath_facts : ∀ (n : Nat) (ps : Tab), ps.length = n → ((gath ps).map (·.1)).Nodup ∧ (gath ps).length ≤ n ∧ (∀ k, k ∈ (gath ps).map (·.1) ↔ k ∈ ps.map fun p => Tim.srt strLt p.1) ∧
    ∀ k, ((getA (gath ps) k).getD 0) = ((ps.filter fun p => decide (Tim.srt strLt p.1 = k)).map (·.2)).sum
  | 0, ps, h => by
    have : ps = [] := List.eq_nil_of_length_eq_zero h
    subst this
    exact ⟨List.nodup_nil, Nat.le_refl _, fun k => by simp [gath], fun k => rfl⟩
  | n + 1, ps, h => by
    obtain ⟨qs, p, rfl⟩ : ∃ qs p, ps = qs ++ [p] := ⟨ps.dropLast, ps.getLast (by intro e; rw [e] at h; simp at h), (List.dropLast_concat_getLast _).symm⟩
    obtain ⟨h1, h2, h3, h4⟩ := gath_facts n qs (by rw [List.length_append] at h; simp at h; exact h)
    rw [gath_snoc]
    refine ⟨nd_put h1 _ _, Nat.le_trans (len_put _ _ _) (Nat.succ_le_succ h2), fun k => ?_, fun k => ?_⟩
    · unfold addA
      rw [mem_put, h3, List.map_append, List.mem_append]
      simp
    · rw [get_add, h4, List.filter_append, List.map_append, List.sum_append]
      congr 1
      by_cases e : k = Tim.srt strLt p.1
      · rw [if_pos e]
        simp [e]
      · rw [if_neg e]
        have : ¬ Tim.srt strLt p.1 = k := fun q => e q.symm
        simp [this]
end Wy
namespace Wy
open PySem L2
section
variable {P : Program} {w : World} {K : PySem.W.Frag} {mg : Str → Option Value} {base : Heap}
def sp_count (K : PySem.W.Frag) : Sp := fun vs H Q _ => ∃ (d a : Addr) (W : Tab) (ws : List Str) (n : Int), vs = [.ref d, .ref a, .int n] ∧ H d = some (encD W) ∧ (SqL K H a (ws.map V.str) ∨ SqT K H a (ws.map V.str)) ∧ W.length < 100000 ∧
  ∀ H', SameBut d H H' → H' d = some (encD (addA W (Tim.srt strLt ws) n)) → Q .non H'
theorem ok_count_in (T : Txt K mg) : Def P w K mg base 1 "count_in" ["ways_by_product", "names", "ways"] (sp_count K) := by
  refine T.t_count_in.ok sc_count_in (fun vs H Q E h => ?_) fun f cdv A outer s H vs Q E hr h => ?_
  · obtain ⟨d, a, W, ws, n, rfl, _⟩ := h
    rfl
  · obtain ⟨d, a, W, ws, n, rfl, hd, ha, hl, k⟩ := h
    refine ⟨_, (pss_2
      (ps_set (i := 3) sc_count_in.nd rfl (Or.inl rfl) (pe_callTy (call_tupleK K) rfl T.b_tuple bt_tuple (pa_1 (pe_callB (call_sortedS K) rfl T.b_sorted bt_sorted (pa_1 (pv 1))))))
      (ps_dput (hu_of hr) (pv 0) (pv 3) (pe_op op_add (pe_dget2 (hu_of hr) (pv 0) (pv 3) pe_int ⟨rfl, rfl, rfl, rfl⟩) (pv 2)) rfl)), ?_⟩
    refine ⟨_, rfl, _, ws, rfl, ha, fun l hl' => ?_⟩
    have s1 := same_upd (o := HO.lst ((Tim.srt strLt ws).map V.str)) hl'
    refine ⟨_, _, rfl, .inl ⟨SqL.of upd_same, fun t ht => ?_⟩⟩
    have s2 := same_upd (o := HO.tup ((Tim.srt strLt ws).map V.str)) ht
    have hd2 := s2 _ _ (s1 _ _ hd)
    have ht2 : upd (upd H l (.lst ((Tim.srt strLt ws).map V.str))) t (.tup ((Tim.srt strLt ws).map V.str)) t = some (.tup (((Tim.srt strLt ws).map (Sum.inr : Str → Key)).map kV)) := by
      rw [upd_same, kV_strs]
    have hget : DGet (upd (upd H l (.lst ((Tim.srt strLt ws).map V.str))) t (.tup ((Tim.srt strLt ws).map V.str))) d (.ref t) ((getA W (Tim.srt strLt ws)).map V.int) := by
      rw [← valV_enc]
      exact DGet.t hd2 ht2
    refine ⟨_, rfl, _, rfl, .inr ⟨_, .inl hd2⟩, _, rfl, _, hget, _, rfl, (getA W (Tim.srt strLt ws)).getD 0, n, opt_int _, rfl, ?_⟩
    refine ⟨_, rfl, _, rfl, d, _, rfl, DPut.t hd2 ht2 (by rw [List.length_map]; unfold encI; rw [List.length_map]; exact Nat.lt_of_lt_of_le hl (by decide)), ?_⟩
    refine k _ ((Same.but (s1.trans s2)).trans (SameBut.upd d _ _)) ?_
    rw [upd_same, putK_enc]
    rfl
def sp_told (K : PySem.W.Frag) : Sp := fun vs H Q _ => ∃ (d : Addr) (W : Tab), vs = [.ref d] ∧ H d = some (encD W) ∧ (W.map (·.1)).Nodup ∧ W.length < 100000 ∧ (∀ kv ∈ W, ∀ x ∈ kv.1, PyData.strOk x = true) ∧
  ∀ l zs H', Same H H' → H' l = some (.lst zs) → H l = none → (∀ H2, KeepT H' H2 → Paired (PlAt H2) zs (told W)) → Q (.ref l) H'
theorem ok_told_as_why (T : Txt K mg) : Def P w K mg base 1 "told_as_why" ["ways_by_product"] (sp_told K) := by
  refine T.t_told_as_why.ok sc_told_as_why (fun vs H Q E h => ?_) fun f cdv A outer s H vs Q E hr h => ?_
  · obtain ⟨d, W, rfl, _⟩ := h
    rfl
  · obtain ⟨d, W, rfl, hd, hnd, hlen, hok, k⟩ := h
    refine ⟨_, (pss_one (ps_ret (pe_comp (N := ["product", "ways_by_product"]) (caps := [none, some 0]) rfl (by with_unfolding_all rfl) (pi_listK K (pe_callB (call_sortedD hr.units rfl K) rfl T.b_sorted bt_sorted (pa_1 (pv 0)))) (fun _ _ _ _ _ => (pg_name (i := 0) (show (["product", "ways_by_product"] : List Str).Nodup by decide +kernel) rfl (Or.inl rfl))) (fun _ _ _ _ _ => pf_one (pt_cmpR op_gt (pe_dget (hu_of hr) (pv 1) (pv 0) (fun _ _ => rfl)) pe_int (nomark _))) (fun _ _ _ _ _ => (pe_tup (pa_2 (pv 0) (pe_dget (hu_of hr) (pv 1) (pv 0) (fun _ _ => rfl)))))))), ?_⟩
    refine ⟨_, rfl, d, encI W, rfl, hd, fun l zs hl hz => ?_⟩
    have ek : (encI W).map (·.1) = W.map (·.1) := by unfold encI; rw [List.map_map]; rfl
    rw [ek] at hz
    have s1 := same_upd (o := HO.lst zs) hl
    refine ⟨l, rfl, ⟨_, SqL.of upd_same⟩, fun D hD => ?_⟩
    have hpl : zs.length = (Tim.srt prodLt (W.map (·.1))).length := Paired.length hz
    have hlD : l ≠ D := fun e => by
      rw [e, upd_same] at hD
      cases hD
    have hDH : H D = none := s1.free hD
    generalize hS : Tim.srt prodLt (W.map (·.1)) = S at *
    have hSmem : ∀ p ∈ S, p ∈ W.map (·.1) := fun p hp => by
      rw [← hS] at hp
      exact (Tim.srt_perm prodLt _).mem_iff.mp hp
    have hSlen : S.length ≤ 100000 := by
      rw [← hS, (Tim.srt_perm prodLt _).length_eq, List.length_map]
      omega
    refine comp_by zs.length (fun i σ' H' => (∃ v, σ' = [v, some (.ref d)]) ∧ Same (upd H l (.lst zs)) H' ∧ ∃ ys, H' D = some (.lst ys) ∧ ys.length ≤ i ∧ ∀ H2, KeepT H' H2 → Paired (PlAt H2) ys (((S.take i).map fun k => (k, (getA W k).getD 0)).filter fun kv => decide (0 < kv.2))) ⟨⟨_, rfl⟩, same_upd hD, [], upd_same, Nat.zero_le _, fun _ _ => .nil⟩ (fun i σ' H' hi p => ?_) (fun σ' H' p => ⟨?_, ?_⟩) (fun i σ' H' hi p x H2 y => ?_)
    · obtain ⟨_, sm, _⟩ := p
      exact ⟨_, zs[i], SqL.of (sm _ _ upd_same), List.getElem?_eq_getElem hi⟩
    · obtain ⟨_, sm, _⟩ := p
      exact ⟨_, SqL.of (sm _ _ upd_same), Nat.le_refl _⟩
    · obtain ⟨_, sm, ys, e, _, hy⟩ := p
      refine k D ys H' (s1.trans sm) e hDH fun H2 h2 => ?_
      have := hy H2 h2
      rw [hpl, List.take_length] at this
      unfold told
      rw [hS]
      exact this
    · obtain ⟨⟨v, rfl⟩, sm, ys, e, hyl, hy⟩ := p
      obtain ⟨rfl, hx⟩ := y
      have hx' := hx _ (SqL.of (sm _ _ upd_same))
      obtain ⟨pr, hpr, b, rfl, hb⟩ := paired_get hz hx'
      have hprS : pr ∈ S := List.mem_of_getElem? hpr
      obtain ⟨n, hn, hmem⟩ := told_all hnd (hSmem pr hprS)
      have hb2 := sm _ _ (s1 _ _ hb)
      have hget : ∀ {G : Hp}, Same H2 G → DGet G d (.ref b) (some (.int n)) := fun {G} sg => by
        have e1 : (some (V.int n)) = valV ((encI W).map fun kv => (kv.1.map (Sum.inr : Str → Key), kv.2)) (pr.map Sum.inr) := by rw [valV_enc, hn]; rfl
        rw [e1]
        exact DGet.t (sg _ _ (sm _ _ (s1 _ _ hd))) (by rw [kV_strs]; exact sg _ _ hb2)
      have estep : ((S.take (i + 1)).map fun k => (k, (getA W k).getD 0)).filter (fun kv => decide (0 < kv.2)) = ((S.take i).map fun k => (k, (getA W k).getD 0)).filter (fun kv => decide (0 < kv.2)) ++ (if 0 < n then [(pr, n)] else []) := by
        rw [List.take_succ, hpr, List.map_append, List.filter_append]
        congr 1
        show List.filter _ [(pr, (getA W pr).getD 0)] = _
        rw [hn]
        show List.filter _ [(pr, n)] = _
        by_cases h : 0 < n
        · rw [if_pos h]
          simp [h]
        · rw [if_neg h]
          simp [h]
      refine ⟨_, rfl, _, rfl, d, _, rfl, hget (Same.refl _), _, _, rfl, rfl, _, rfl, ite2 (fun h1 => ?_) (fun h1 => ?_)⟩
      · have h1' : 0 < n := of_decide_eq_true h1
        refine ⟨_, rfl, _, rfl, _, rfl, d, _, rfl, hget (Same.refl _), by show 2 ≤ sizeLine; decide, fun q hq => ?_⟩
        have s3 := same_upd (o := HO.tup [.ref b, .int n]) hq
        have hqD : q ≠ D := fun z => by
          rw [z, e] at hq
          cases hq
        refine ⟨_, s3 _ _ e, Nat.lt_of_le_of_lt hyl (Nat.lt_of_lt_of_le (show i < 1000000 by omega) (by decide)), ⟨_, rfl⟩, ?_, ys ++ [.ref q], upd_same, by rw [List.length_append]; exact Nat.succ_le_succ hyl, fun H4 h4 => ?_⟩
        · exact (sm.trans s3).set hD
        · rw [estep, if_pos h1']
          have hbD : b ≠ D := fun z => by
            rw [z, hDH] at hb
            cases hb
          exact paired_snoc (hy H4 fun b' o' ho' => h4 b' o' (by rw [upd_ne (fun z => by rw [z, e] at ho'; cases ho')]; exact s3 _ _ ho')) ⟨q, b, rfl, h4 q _ (by rw [upd_ne hqD, upd_same]), h4 b _ (by rw [upd_ne hbD]; exact s3 _ _ hb2)⟩
      · have h1' : ¬ 0 < n := fun h => h1 (decide_eq_true h)
        refine ⟨⟨_, rfl⟩, sm, ys, e, by omega, fun H4 h4 => ?_⟩
        rw [estep, if_neg h1', List.append_nil]
        exact hy H4 h4
end
end Wy
namespace Wy
open PySem L2
section
variable {P : Program} {w : World} {K : PySem.W.Frag} {mg : Str → Option Value} {base : Heap}
def sp_gath (K : PySem.W.Frag) : Sp := fun vs H Q _ => ∃ (a : Addr) (xs : List V) (ps : Tab), vs = [.ref a] ∧ SqL K H a xs ∧ Paired (PairAt K H) xs ps ∧ ps.length < 100000 ∧ (∀ p ∈ ps, ∀ x ∈ p.1, PyData.strOk x = true) ∧
  ∀ l zs H', Same H H' → H' l = some (.lst zs) → H l = none → (∀ H2, KeepT H' H2 → Paired (PlAt H2) zs (told (gath ps))) → Q (.ref l) H'
theorem ok_gathered (T : Txt K mg) : Def P w K mg base 2 "gathered" ["pairs"] (sp_gath K) := by
  refine T.t_gathered.ok sc_gathered (fun vs H Q E h => ?_) fun f cdv A outer s H vs Q E hr h => ?_
  · obtain ⟨a, xs, ps, rfl, _⟩ := h
    rfl
  · obtain ⟨a, xs, ps, rfl, ha, hp, hl, hok, k⟩ := h
    refine ⟨_, (pss_3
      (ps_set (i := 1) sc_gathered.nd rfl (Or.inl rfl) pe_dnewT)
      (ps_for PassesOwn.never rfl (pi_listK K (pv 0)) (pg_tup rfl (pgs_cons (pg_name (i := 2) sc_gathered.nd rfl (Or.inl rfl)) (pgs_cons (pg_name (i := 3) sc_gathered.nd rfl (Or.inl rfl)) pgs_nil))) (pss_one (ps_expr (pe_def (ok_count_in T) hr rfl (pa_3 (pv 1) (pv 2) (pv 3))))))
      (ps_ret (pe_def (ok_told_as_why T) hr rfl (pa_1 (pv 1))))), ?_⟩
    refine fun d hd => ?_
    have s1 := same_upd (o := HO.dT []) hd
    have hxl : xs.length = ps.length := Paired.length hp
    refine ⟨_, rfl, a, rfl, ⟨_, s1.seq ha⟩, for_list (xs := xs) (fun i σ H' => Same H H' ∧ H' d = some (encD (gath (ps.take i))) ∧ ∃ v1 v2, σ = [some (.ref a), some (.ref d), v1, v2]) ⟨s1, upd_same, _, _, rfl⟩ (fun i σ H' _ z => z.1.seq ha) ?_ ?_⟩
    · rintro i x σ H' hx ⟨sm, hd', v1, v2, rfl⟩
      obtain ⟨p, hpi, hpa⟩ := paired_get hp hx
      obtain ⟨q, b, rfl, hq, hb⟩ := hpa.same sm
      have il : i < ps.length := (List.getElem?_eq_some_iff.mp hpi).1
      obtain ⟨_, gl, _, _⟩ := gath_facts (ps.take i).length (ps.take i) rfl
      rw [List.length_take] at gl
      refine ⟨_, _, rfl, hq, rfl, _, _, rfl, _, _, rfl, rfl, ?_⟩
      refine ⟨_, rfl, _, rfl, _, rfl, d, b, _, p.1, p.2, rfl, hd', hb, by omega, fun H2 s2 hd2 => ?_⟩
      refine ⟨fun c o hc => s2 c o (fun z => by rw [z, hd] at hc; cases hc) (sm c o hc), ?_, _, _, rfl⟩
      rw [List.take_succ, hpi]
      show H2 d = some (encD (gath (ps.take i ++ [p])))
      rw [gath_snoc]
      exact hd2
    · rintro σ H' ⟨sm, hd', v1, v2, rfl⟩
      rw [hxl, List.take_length] at hd'
      obtain ⟨g1, g2, g3, g4⟩ := gath_facts ps.length ps rfl
      have kok : ∀ k ∈ (gath ps).map (·.1), ∀ x ∈ k, PyData.strOk x = true := fun k' hk x hx => by
        obtain ⟨p, hpm, e⟩ := List.mem_map.mp ((g3 k').mp hk)
        refine hok p hpm x ?_
        have : x ∈ Tim.srt strLt p.1 := by rw [show Tim.srt strLt p.1 = k' from e]; exact hx
        exact (Tim.srt_perm strLt p.1).mem_iff.mp this
      refine ⟨_, rfl, d, gath ps, rfl, hd', g1, by omega, fun kv hkv => kok _ (List.mem_map.mpr ⟨kv, hkv, rfl⟩), fun l zs H2 s2 hl2 hln hz => k l zs H2 (sm.trans s2) hl2 (sm.free hln) hz⟩
end
end Wy
namespace Wy
open PySem L2
def fur : Str := "abcdefghijklmnopqrstuvwxyz0123456789"
theorem len_fur : fur.length = 36 := by decide +kernel
theorem fur_lt : ∀ c ∈ fur.cps.toList, c < 0x110000 := by decide +kernel
def Wz (n : Nat) (z : Str) : Prop := z.length ≤ n ∧ ∀ c ∈ z.cps.toList, c ∈ fur.cps.toList
theorem Wz.ok {n : Nat} {z : Str} (h : Wz n z) : PyData.strOk z = true := strOk_of fun c hc => fur_lt c (h.2 c hc)
theorem Wz.cut {n : Nat} {z : Str} (h : Wz n z) (lo hi : Option Int) : Wz n (cutS z lo hi) := ⟨Nat.le_trans (cutS_length z lo hi) h.1, fun c hc => h.2 c (cut_mem hc)⟩
theorem Wz.app {n m : Nat} {z y : Str} (h : Wz n z) (k : Wz m y) : Wz (n + m) (z ++ y) := ⟨by rw [len_app]; exact Nat.add_le_add h.1 k.1, fun c hc => by
  rw [app_list] at hc
  exact (List.mem_append.mp hc).elim (h.2 c) (k.2 c)⟩
theorem Wz.one {c : Nat} (h : c ∈ fur.cps.toList) : Wz 1 ⟨#[c]⟩ := ⟨Nat.le_refl _, fun d hd => by
  have : d = c := by simpa using hd
  subst this
  exact h⟩
theorem Wz.le {n m : Nat} {z : Str} (h : Wz n z) (k : n ≤ m) : Wz m z := ⟨Nat.le_trans h.1 k, h.2⟩
theorem Wz.size {n : Nat} {z : Str} (h : Wz n z) (k : n ≤ 1000) : z.length ≤ sizeLine := Nat.le_trans (Nat.le_trans h.1 k) (by decide)
theorem one_len (d : Nat) : (⟨#[d]⟩ : Str).length ≤ 1 := Nat.le_refl _
theorem fur_at (c : Int) {m : Int} (h0 : 0 < m) (h1 : m ≤ 36) : ∃ d, atI fur.cps.toList (c % m) = some d ∧ d ∈ fur.cps.toList :=
  atI_in (Int.emod_nonneg _ (by omega)) (by rw [len_list, len_fur]; have := Int.emod_lt_of_pos c h0; omega)
theorem fur_size : fur.length ≤ sizeLine := by rw [len_fur]; decide
theorem cut_drop (xs : List V) (n : Nat) (h : n ≤ xs.length) : cutV xs (some (n : Int)) none = xs.drop n := by
  unfold cutV
  rw [HT.sIx_nat, HT.sIx_none, Nat.min_eq_left h, List.take_of_length_le (by rw [List.length_drop]; exact Nat.le_refl _)]
section
variable {P : Program} {w : World} {K : PySem.W.Frag} {mg : Str → Option Value} {base : Heap}
def sp_stream : Sp := fun vs H Q _ => ∃ c m : Int, vs = [.int c, .int m] ∧ 0 ≤ m ∧ m ≤ 100 ∧ ∀ p (ns : List Int) H', Same H H' → H' p = some (.lst (ns.map V.int)) → ns.length = m.toNat → H p = none → (∀ n ∈ ns, 0 ≤ n ∧ n < 2147483647) → Q (.ref p) H'
theorem ok__law_stream (T : Txt K mg) : Def P w K mg base 1 "_law_stream" ["_law_cell", "_law_many"] sp_stream := by
  refine T.t__law_stream.ok sc__law_stream (fun vs H Q E h => ?_) fun f cdv A outer s H vs Q E hr h => ?_
  · obtain ⟨c, m, rfl, _⟩ := h
    rfl
  · obtain ⟨c, m, rfl, m0, m1, k⟩ := h
    refine ⟨_, (pss_4
      (ps_set (i := 2) sc__law_stream.nd rfl (Or.inl rfl) (pe_op op_add pe_int (pe_op op_mod (pv 0) pe_int)))
      (ps_set (i := 3) sc__law_stream.nd rfl (Or.inl rfl) (pe_lst pa_nil))
      (ps_for PassesOwn.never rfl (pi_range1 rfl T.b_range (pa_1 (pe_op op_add (pv 1) pe_int))) (pg_name (i := 4) sc__law_stream.nd rfl (Or.inl rfl)) (pss_2
      (ps_set (i := 2) sc__law_stream.nd rfl (Or.inl rfl) (pe_op op_mod (pe_op op_mul (pv 2) pe_int) pe_int))
      (ps_expr (pe_bm PySem.F.plainAttrs_list PySem.F.slot_list_append PySem.F.type_list_append mt_append (pv 3) (pa_1 (pv 2))))))
      (ps_ret (pe_slice (sl_listK K) (pv 3) (po_some pe_int) po_none))), ?_⟩
    refine ⟨_, rfl, _, _, rfl, rfl, (by show (0 : Int) < 2147483646; decide), _, _, rfl, rfl, ?_⟩
    refine ⟨by decide, fun p hp => ?_⟩
    refine ⟨_, rfl, _, _, rfl, rfl, _, rfl, by omega, by omega, for_range (lo := 0) (n := (m + 2).toNat) (fun i σ H' => ∃ (kk : Option V) (n : Int) (ns : List Int), σ = [some (.int c), some (.int m), some (.int n), some (.ref p), kk] ∧ H' = upd H p (.lst (ns.map V.int)) ∧ ns.length = i ∧ ∀ x ∈ ns, 0 ≤ x ∧ x < 2147483647)
      ⟨none, _, [], rfl, rfl, rfl, fun _ z => nomatch z⟩ ?_ ?_⟩
    · rintro i σ H' hi ⟨kk, n, ns, rfl, rfl, hl, hn⟩
      refine ⟨_, rfl, _, _, rfl, rfl, .inr ⟨by decide, by decide⟩, _, _, rfl, rfl, (by show (0 : Int) < 2147483647; decide), ?_⟩
      refine ⟨_, rfl, .inl ⟨rfl, _, SqL.of upd_same⟩, _, rfl, _, _, _, rfl, rfl, upd_same, by rw [List.length_map, hl]; exact small1000 (by omega), ?_⟩
      refine ⟨_, _, ns ++ [n * 48271 % 2147483647], rfl, ?_, by rw [List.length_append, hl]; rfl, fun x hx => ?_⟩
      · rw [upd_upd, List.map_append]
        rfl
      · rcases List.mem_append.mp hx with hx | hx
        · exact hn x hx
        · rw [List.mem_singleton.mp hx]
          exact ⟨Int.emod_nonneg _ (by decide), Int.emod_lt_of_pos _ (by decide)⟩
    · rintro σ H' ⟨kk, n, ns, rfl, rfl, hl, hn⟩
      refine ⟨_, rfl, _, rfl, _, _, rfl, SqL.of upd_same, fun q hq => ?_⟩
      have e : cutV (ns.map V.int) (some 2) none = (ns.drop 2).map V.int := by
        have := cut_drop (ns.map V.int) 2 (by rw [List.length_map]; omega)
        rw [List.map_drop]
        exact this
      rw [e]
      have s1 := same_upd (o := HO.lst (ns.map V.int)) hp
      exact k q (ns.drop 2) _ (s1.trans (same_upd hq)) upd_same (by rw [List.length_drop]; omega) (s1.free hq) fun x hx => hn x (List.mem_of_mem_drop hx)
def sp_gword : Sp := fun vs H Q _ => ∃ c m : Int, vs = [.int c, .int m] ∧ 1 ≤ m ∧ m ≤ 40 ∧ ∀ z H', Same H H' → Wz m.toNat z → z.length = m.toNat → Q (.str z) H'
theorem ok__law_word (T : Txt K mg) : Def P w K mg base 2 "_law_word" ["_law_cell", "_law_size"] sp_gword := by
  refine T.t__law_word.ok sc__law_word (fun vs H Q E h => ?_) fun f cdv A outer s H vs Q E hr h => ?_
  · obtain ⟨c, m, rfl, _⟩ := h
    rfl
  · obtain ⟨c, m, rfl, m0, m1, k⟩ := h
    refine ⟨_, (pss_4
      (ps_set (i := 2) sc__law_word.nd rfl (Or.inl rfl) pe_str)
      (ps_set (i := 3) sc__law_word.nd rfl (Or.inl rfl) pe_str)
      (ps_for PassesOwn.never rfl (pi_listK K (pe_def (ok__law_stream T) hr rfl (pa_2 (pv 0) (pv 1)))) (pg_name (i := 4) sc__law_word.nd rfl (Or.inl rfl)) (pss_one (ps_if (pt_cmpR op_eq (pv 3) pe_str (nomark _)) (pss_one (ps_set (i := 3) sc__law_word.nd rfl (Or.inl rfl) (pe_ix ix_str (pv 2) (pe_op op_mod (pv 4) pe_int) (fun _ _ => rfl)))) (pss_one (ps_set (i := 3) sc__law_word.nd rfl (Or.inl rfl) (pe_op op_add_str (pv 3) (pe_ix ix_str (pv 2) (pe_op op_mod (pv 4) pe_int) (fun _ _ => rfl))))))))
      (ps_ret (pv 3))), ?_⟩
    refine ⟨_, rfl, _, rfl, c, m, rfl, by omega, by omega, fun p ns H1 s1 hp hl _ hn => ?_⟩
    refine ⟨p, rfl, ⟨_, SqL.of hp⟩, for_list (xs := ns.map V.int) (fun i σ H' => H' = H1 ∧ ∃ (v : Option V) (z : Str), σ = [some (.int c), some (.int m), some (.str fur), some (.str z), v] ∧ Wz i z ∧ z.length = i) ⟨rfl, _, "", rfl, ⟨Nat.le_refl _, fun c hc => nomatch hc⟩, rfl⟩ (fun i σ H' _ z => by rw [z.1]; exact SqL.of hp) ?_ ?_⟩
    · rintro i x σ H' hx ⟨rfl, v, z, rfl, hw, hz⟩
      rw [List.getElem?_map] at hx
      obtain ⟨n, hni, rfl⟩ := Option.map_eq_some_iff.mp hx
      have il : i < ns.length := (List.getElem?_eq_some_iff.mp hni).1
      refine ⟨_, rfl, rfl, _, rfl, ite2 (fun h1 => ?_) (fun h1 => ?_)⟩
      · obtain ⟨d, hd, hds⟩ := fur_at n (m := 26) (by decide) (by decide)
        have e : z = "" := by
          have := of_decide_eq_true h1
          injection this
        have i0 : i = 0 := by rw [← hz, e]; rfl
        refine ⟨_, rfl, _, rfl, _, _, rfl, rfl, (by show (0 : Int) < 26; decide), _, _, d, rfl, rfl, fur_size, hd, ?_⟩
        exact ⟨rfl, _, _, rfl, (Wz.one hds).le (by omega), by rw [i0]; rfl⟩
      · obtain ⟨d, hd, hds⟩ := fur_at n (m := 36) (by decide) (by decide)
        refine ⟨_, rfl, _, rfl, _, rfl, _, _, rfl, rfl, (by show (0 : Int) < 36; decide), _, _, d, rfl, rfl, fur_size, hd, _, _, rfl, rfl, ?_, ?_⟩
        · exact Nat.le_trans (Nat.add_le_add (Nat.le_of_eq hz) (one_len d)) (Nat.le_trans (show i + 1 ≤ 1000 by omega) (by decide))
        · exact ⟨rfl, _, _, rfl, hw.app (Wz.one hds), by rw [len_app, hz]; rfl⟩
    · rintro σ H' ⟨rfl, v, z, rfl, hw, hz⟩
      rw [List.length_map, hl] at hw hz
      exact ⟨_, rfl, k z _ s1 hw hz⟩
end
end Wy
namespace Wy
open PySem L2
theorem at_ints {ns : List Int} {k : Nat} (h : k < ns.length) : atI (ns.map V.int) (k : Int) = some (V.int (ns.getD k 0)) := by
  rw [getD_lt h]
  exact atI_nat (by rw [List.getElem?_map, List.getElem?_eq_getElem h]; rfl)
section
variable {P : Program} {w : World} {K : PySem.W.Frag} {mg : Str → Option Value} {base : Heap}
def sp_words : Sp := fun vs H Q _ => ∃ c m : Int, vs = [.int c, .int m] ∧ 0 ≤ m ∧ m ≤ 20 ∧ ∀ p (ws : List Str) H', Same H H' → H' p = some (.lst (ws.map V.str)) → ws.length = m.toNat → H p = none → (∀ z ∈ ws, Wz 40 z) → Q (.ref p) H'
theorem ok__law_words (T : Txt K mg) : Def P w K mg base 3 "_law_words" ["_law_cell", "_law_many"] sp_words := by
  refine T.t__law_words.ok sc__law_words (fun vs H Q E h => ?_) fun f cdv A outer s H vs Q E hr h => ?_
  · obtain ⟨c, m, rfl, _⟩ := h
    rfl
  · obtain ⟨c, m, rfl, m0, m1, k⟩ := h
    refine ⟨_, (pss_8
      (ps_set (i := 2) sc__law_words.nd rfl (Or.inl rfl) pe_str)
      (ps_set (i := 3) sc__law_words.nd rfl (Or.inl rfl) (pe_def (ok__law_stream T) hr rfl (pa_2 (pv 0) pe_int)))
      (ps_set (i := 4) sc__law_words.nd rfl (Or.inl rfl) (pe_def (ok__law_word T) hr rfl (pa_2 (pv 0) pe_int)))
      (ps_set (i := 5) sc__law_words.nd rfl (Or.inl rfl) (pe_op op_add pe_int (pe_op op_mod (pe_ix (ix_listK K) (pv 3) pe_int (fun _ _ => rfl)) pe_int)))
      (ps_set (i := 6) sc__law_words.nd rfl (Or.inl rfl) (pe_op op_mod (pe_ix (ix_listK K) (pv 3) pe_int (fun _ _ => rfl)) (pv 5)))
      (ps_set (i := 7) sc__law_words.nd rfl (Or.inl rfl) (pe_lst pa_nil))
      (ps_for PassesOwn.never rfl (pi_range1 rfl T.b_range (pa_1 (pv 1))) (pg_name (i := 8) sc__law_words.nd rfl (Or.inl rfl)) (pss_one (ps_if (pt_cmpR op_eq (pe_op op_mod (pe_ix (ix_listK K) (pv 3) pe_int (fun _ _ => rfl)) pe_int) pe_int (nomark _)) (pss_2
      (ps_set (i := 9) sc__law_words.nd rfl (Or.inl rfl) (pe_def (ok__law_word T) hr rfl (pa_2 (pe_op op_add (pe_ix (ix_listK K) (pv 3) pe_int (fun _ _ => rfl)) (pe_op op_mul pe_int (pv 8))) (pe_op op_add pe_int (pe_op op_mod (pe_op op_add (pe_ix (ix_listK K) (pv 3) pe_int (fun _ _ => rfl)) (pe_op op_mul pe_int (pv 8))) pe_int)))))
      (ps_expr (pe_bm PySem.F.plainAttrs_list PySem.F.slot_list_append PySem.F.type_list_append mt_append (pv 7) (pa_1 (pe_op op_add_str (pe_slice sl_str (pv 9) po_none (po_some (pe_un un_neg pe_int))) (pe_ix ix_str (pv 2) (pe_op op_mod (pe_op op_add (pe_ix (ix_listK K) (pv 3) pe_int (fun _ _ => rfl)) (pv 8)) pe_int) (fun _ _ => rfl))))))) (pss_one (ps_if (pt_cmpR op_eq (pe_op op_mod (pe_ix (ix_listK K) (pv 3) pe_int (fun _ _ => rfl)) pe_int) pe_int (nomark _)) (pss_one (ps_expr (pe_bm PySem.F.plainAttrs_list PySem.F.slot_list_append PySem.F.type_list_append mt_append (pv 7) (pa_1 (pe_slice sl_str (pv 4) po_none (po_some (pe_op op_add pe_int (pe_op op_mod (pe_op op_add (pe_ix (ix_listK K) (pv 3) pe_int (fun _ _ => rfl)) (pv 8)) pe_int)))))))) (pss_3
      (ps_set (i := 10) sc__law_words.nd rfl (Or.inl rfl) (pe_ix ix_str (pv 2) (pe_op op_mod (pe_op op_add (pe_ix (ix_listK K) (pv 3) pe_int (fun _ _ => rfl)) (pv 8)) pe_int) (fun _ _ => rfl)))
      (ps_if (pt_cmpR op_eq (pv 6) pe_int (nomark _)) (pss_one (ps_set (i := 10) sc__law_words.nd rfl (Or.inl rfl) (pe_ix ix_str (pv 2) (pe_op op_mod (pe_op op_add (pe_ix (ix_listK K) (pv 3) pe_int (fun _ _ => rfl)) (pv 8)) pe_int) (fun _ _ => rfl)))) pss_nil)
      (ps_expr (pe_bm PySem.F.plainAttrs_list PySem.F.slot_list_append PySem.F.type_list_append mt_append (pv 7) (pa_1 (pe_op op_add_str (pe_op op_add_str (pe_slice sl_str (pv 4) po_none (po_some (pv 6))) (pv 10)) (pe_slice sl_str (pv 4) (po_some (pe_op op_add (pv 6) pe_int)) (po_some (pv 5)))))))))))))
      (ps_ret (pv 7))), ?_⟩
    refine ⟨_, rfl, c, 4, rfl, by decide, by decide, fun p ns H1 s1 hp hl _ hn => ?_⟩
    refine ⟨_, rfl, c, 12, rfl, by decide, by decide, fun z H2 s2 hz hzl => ?_⟩
    have hp2 := s2 _ _ hp
    have hl4 : ns.length = 4 := hl
    have a0 : atI (ns.map V.int) 0 = some (V.int (ns.getD 0 0)) := at_ints (k := 0) (by omega)
    have a1 : atI (ns.map V.int) 1 = some (V.int (ns.getD 1 0)) := at_ints (k := 1) (by omega)
    have a2 : atI (ns.map V.int) 2 = some (V.int (ns.getD 2 0)) := at_ints (k := 2) (by omega)
    have a3 : atI (ns.map V.int) 3 = some (V.int (ns.getD 3 0)) := at_ints (k := 3) (by omega)
    generalize ns.getD 0 0 = n0 at *
    generalize ns.getD 1 0 = n1 at *
    generalize ns.getD 2 0 = n2 at *
    generalize ns.getD 3 0 = n3 at *
    refine ⟨_, rfl, _, _, _, _, rfl, rfl, SqL.of hp2, a0, _, _, rfl, rfl, (by show (0 : Int) < 12; decide), _, _, rfl, rfl, ?_⟩
    refine ⟨_, rfl, _, _, _, _, rfl, rfl, SqL.of hp2, a1, _, rfl, _, _, rfl, rfl, (by show (0 : Int) < 1 + n0 % 12; omega), ?_⟩
    refine ⟨by decide, fun q hq => ?_⟩
    have s3 := same_upd (o := HO.lst []) hq
    have sz : z.length ≤ sizeLine := hz.size (by decide)
    refine ⟨_, rfl, _, rfl, by omega, by omega, for_range (lo := 0) (n := m.toNat) (fun i σ H' => Same H2 H' ∧ (∃ ws : List Str, H' q = some (.lst (ws.map V.str)) ∧ ws.length = i ∧ ∀ y ∈ ws, Wz 40 y) ∧ ∃ (v1 v2 v3 : Option V), σ = [some (.int c), some (.int m), some (.str fur), some (.ref p), some (.str z), some (.int (1 + n0 % 12)), some (.int (n1 % (1 + n0 % 12))), some (.ref q), v1, v2, v3])
      ⟨s3, ⟨[], upd_same, rfl, fun _ z => nomatch z⟩, _, _, _, rfl⟩ ?_ ?_⟩
    · rintro i σ H' hi ⟨sm, ⟨ws, hw, wl, hwz⟩, v1, v2, v3, rfl⟩
      have hp3 := sm _ _ hp2
      have lw : ws.length < sizeLine := by rw [wl]; exact small1000 (by omega)
      have fin : ∀ (y : Str) (H3 : Hp), Same H' H3 → Wz 40 y → Same H2 (upd H3 q (.lst (ws.map V.str ++ [V.str y]))) ∧ ∃ ws' : List Str, upd H3 q (.lst (ws.map V.str ++ [V.str y])) q = some (.lst (ws'.map V.str)) ∧ ws'.length = i + 1 ∧ ∀ x ∈ ws', Wz 40 x := fun y H3 s4 hy => by
        refine ⟨(sm.trans s4).set hq, ws ++ [y], by rw [upd_same, List.map_append]; rfl, by rw [List.length_append, wl]; rfl, fun x hx => ?_⟩
        rcases List.mem_append.mp hx with hx | hx
        · exact hwz x hx
        · rw [List.mem_singleton.mp hx]
          exact hy
      refine ⟨_, rfl, _, _, _, _, rfl, rfl, SqL.of hp3, a2, _, _, rfl, rfl, (by show (0 : Int) < 4; decide), rfl, _, rfl, ite2 (fun h1 => ?_) (fun h1 => ?_)⟩
      · refine ⟨_, rfl, _, _, _, _, rfl, rfl, SqL.of hp3, a3, _, rfl, _, _, rfl, rfl, .inl ⟨by decide, by decide⟩, _, _, rfl, rfl, _, rfl, _, _, _, _, rfl, rfl, SqL.of hp3, a1, _, rfl, _, _, rfl, rfl, .inl ⟨by decide, by decide⟩, _, _, rfl, rfl, _, _, rfl, rfl, (by show (0 : Int) < 12; decide), _, _, rfl, rfl, _, _, rfl, by omega, by omega, fun y H3 s4 hy hyl => ?_⟩
        obtain ⟨d, hd, hds⟩ := fur_at (n0 + (0 + (i : Int))) (m := 26) (by decide) (by decide)
        have hy12 : Wz 12 y := hy.le (by omega)
        have yz : y.length ≤ sizeLine := hy12.size (by decide)
        have cy := hy12.cut none (some (-1))
        refine ⟨_, rfl, .inl ⟨rfl, _, SqL.of (s4 _ _ hw)⟩, _, rfl, _, rfl, _, rfl, _, rfl, yz, _, rfl, _, rfl, _, _, _, _, rfl, rfl, SqL.of (s4 _ _ hp3), a0, _, rfl, _, _, rfl, rfl, _, _, rfl, rfl, (by show (0 : Int) < 26; decide), _, _, d, rfl, rfl, fur_size, hd, _, _, rfl, rfl, Nat.le_trans (Nat.add_le_add cy.1 (one_len d)) (by decide), ?_⟩
        refine ⟨_, _, _, rfl, rfl, s4 _ _ hw, by rw [List.length_map]; exact lw, ?_⟩
        obtain ⟨f1, f2⟩ := fin _ H3 s4 ((cy.app (Wz.one hds)).le (by decide))
        exact ⟨f1, f2, _, _, _, rfl⟩
      · refine ⟨_, rfl, _, _, _, _, rfl, rfl, SqL.of hp3, a2, _, _, rfl, rfl, (by show (0 : Int) < 4; decide), rfl, _, rfl, ite2 (fun h2 => ?_) (fun h2 => ?_)⟩
        · have cz := hz.cut none (some (1 + (n0 + (0 + (i : Int))) % 12))
          refine ⟨_, rfl, .inl ⟨rfl, _, SqL.of hw⟩, _, rfl, _, rfl, _, _, _, _, rfl, rfl, SqL.of hp3, a0, _, rfl, _, _, rfl, rfl, _, _, rfl, rfl, (by show (0 : Int) < 12; decide), _, _, rfl, rfl, _, rfl, _, rfl, sz, ?_⟩
          refine ⟨_, _, _, rfl, rfl, hw, by rw [List.length_map]; exact lw, ?_⟩
          obtain ⟨f1, f2⟩ := fin _ H' (Same.refl _) (cz.le (by decide))
          exact ⟨f1, f2, _, _, _, rfl⟩
        · obtain ⟨d, hd, hds⟩ := fur_at (n3 + (0 + (i : Int))) (m := 36) (by decide) (by decide)
          obtain ⟨d', hd', hds'⟩ := fur_at (n3 + (0 + (i : Int))) (m := 26) (by decide) (by decide)
          have c1 := hz.cut none (some (n1 % (1 + n0 % 12)))
          have c2 := hz.cut (some (n1 % (1 + n0 % 12) + 1)) (some (1 + n0 % 12))
          refine ⟨_, rfl, _, rfl, _, _, _, _, rfl, rfl, SqL.of hp3, a3, _, rfl, _, _, rfl, rfl, _, _, rfl, rfl, (by show (0 : Int) < 36; decide), _, _, d, rfl, rfl, fur_size, hd, ?_⟩
          refine ⟨_, rfl, rfl, _, rfl, ite2 (fun h3 => ?_) (fun h3 => ?_)⟩
          · refine ⟨_, rfl, _, rfl, _, _, _, _, rfl, rfl, SqL.of hp3, a3, _, rfl, _, _, rfl, rfl, _, _, rfl, rfl, (by show (0 : Int) < 26; decide), _, _, d', rfl, rfl, fur_size, hd', ?_⟩
            have ca := c1.app (Wz.one hds')
            refine ⟨_, rfl, .inl ⟨rfl, _, SqL.of hw⟩, _, rfl, _, rfl, _, rfl, _, rfl, sz, _, rfl, _, _, rfl, rfl, Nat.le_trans (Nat.add_le_add c1.1 (one_len d')) (by decide), ?_⟩
            refine ⟨_, rfl, _, rfl, _, _, rfl, rfl, _, rfl, _, rfl, _, rfl, _, rfl, sz, _, _, rfl, rfl, Nat.le_trans (Nat.add_le_add ca.1 c2.1) (by decide), ?_⟩
            refine ⟨_, _, _, rfl, rfl, hw, by rw [List.length_map]; exact lw, ?_⟩
            obtain ⟨f1, f2⟩ := fin _ H' (Same.refl _) ((ca.app c2).le (by decide))
            exact ⟨f1, f2, _, _, _, rfl⟩
          · have ca := c1.app (Wz.one hds)
            refine ⟨_, rfl, .inl ⟨rfl, _, SqL.of hw⟩, _, rfl, _, rfl, _, rfl, _, rfl, sz, _, rfl, _, _, rfl, rfl, Nat.le_trans (Nat.add_le_add c1.1 (one_len d)) (by decide), ?_⟩
            refine ⟨_, rfl, _, rfl, _, _, rfl, rfl, _, rfl, _, rfl, _, rfl, _, rfl, sz, _, _, rfl, rfl, Nat.le_trans (Nat.add_le_add ca.1 c2.1) (by decide), ?_⟩
            refine ⟨_, _, _, rfl, rfl, hw, by rw [List.length_map]; exact lw, ?_⟩
            obtain ⟨f1, f2⟩ := fin _ H' (Same.refl _) ((ca.app c2).le (by decide))
            exact ⟨f1, f2, _, _, _, rfl⟩
    · rintro σ H' ⟨sm, ⟨ws, hw, wl, hwz⟩, v1, v2, v3, rfl⟩
      exact ⟨_, rfl, k q ws H' ((s1.trans s2).trans sm) hw wl ((s1.trans s2).free hq) hwz⟩
end
end Wy
namespace Wy
open PySem L2
section
variable {P : Program} {w : World} {K : PySem.W.Frag} {mg : Str → Option Value} {base : Heap}
def sp_cell (K : PySem.W.Frag) : Sp := fun vs H Q _ => ∃ (a : Addr) (ns : List Int) (k : Int), vs = [.ref a, .int k] ∧ SqL K H a (ns.map V.int) ∧ 0 ≤ k ∧ Q (.int (ns.getD k.toNat 0)) H
theorem ok__law_cell_at (T : Txt K mg) : Def P w K mg base 1 "_law_cell_at" ["_law_script", "_law_k"] (sp_cell K) := by
  refine T.t__law_cell_at.ok sc__law_cell_at (fun vs H Q E h => ?_) fun f cdv A outer s H vs Q E hr h => ?_
  · obtain ⟨a, ns, k, rfl, _⟩ := h
    rfl
  · obtain ⟨a, ns, k, rfl, hS, h0, q⟩ := h
    refine ⟨_, (pss_2
      (ps_if (pt_cmpR op_lt (pv 1) (pe_callB (call_lenK K) rfl T.b_len bt_len (pa_1 (pv 0))) (nomark _)) (pss_one (ps_ret (pe_ix (ix_listK K) (pv 0) (pv 1) (fun _ _ => rfl)))) pss_nil)
      (ps_ret pe_int)), ?_⟩
    refine ⟨_, rfl, _, rfl, _, _, rfl, .inl ⟨_, hS, rfl⟩, _, _, rfl, rfl, _, rfl, ?_⟩
    rw [List.length_map]
    refine ite2 (fun h1 => ?_) (fun h1 => ?_)
    · have h1' : k < ns.length := by simpa using h1
      have hk : k.toNat < ns.length := by omega
      refine ⟨_, rfl, _, rfl, _, _, _, V.int (ns.getD k.toNat 0), rfl, rfl, hS, ?_, q⟩
      rw [atI_lt h0 (by rw [List.length_map]; exact h1'), List.getElem?_map, List.getElem?_eq_getElem hk, getD_lt hk]
      rfl
    · have h1' : ¬ k < ns.length := by simpa using h1
      have e : ns.getD k.toNat 0 = 0 := by
        exact getD_ge (by omega)
      rw [e] at q
      exact q
end
end Wy
namespace Wy
open PySem L2
theorem eqv_str (a b : Str) : PyData.eqv (.str a) (.str b) = decide (a = b) := by
  show (a == b) = _
  by_cases h : a = b <;> simp [h]
theorem lex_strs : ∀ p q : List Str, lexD? (p.map .str) (q.map .str) = some (prodLt p q)
  | [], [] => by rw [List.map_nil, lexD?]; rfl
  | [], _ :: _ => by rw [List.map_nil, List.map_cons, lexD?]; rfl
  | _ :: _, [] => by rw [List.map_nil, List.map_cons, lexD?]; rfl
  | x :: p, y :: q => by
    rw [List.map_cons, List.map_cons, lexD?, eqv_str, prodLt_cons]
    by_cases h : x = y
    · subst h
      rw [if_pos (by simp), if_pos rfl]
      exact lex_strs p q
    · rw [if_neg (by simpa using h), if_neg h]
      rfl
theorem depth_strs (p : List Str) : PyData.depthAll (p.map .str) = 0 := by
  induction p with
  | nil => rfl
  | cons x p ih =>
    show max (PyData.depth (.str x)) (PyData.depthAll (p.map .str)) = 0
    rw [ih]
    rfl
theorem depth_prod (p : List Str) : PyData.depth (.tuple (p.map .str)) = 1 := by
  show PyData.depthAll (p.map .str) + 1 = 1
  rw [depth_strs]
theorem dats_strs {K : PySem.W.Frag} {H : Hp} : ∀ {p : List Str} {xs : List V}, Dats K H (p.map .str) xs → xs = p.map V.str
  | [], _, .nil => rfl
  | _ :: p, _, .cons (.str _ _) r => by rw [dats_strs r]; rfl
theorem dat_pair {K : PySem.W.Frag} {H : Hp} {kv : List Str × Int} {x : V} (h : Dat K H (pairD kv) x) : ∃ q b, x = .ref q ∧ SqT K H q [.ref b, .int kv.2] ∧ SqT K H b (kv.1.map V.str) ∧ Dat K H (.tuple (kv.1.map .str)) (.ref b) := by
  unfold pairD at h
  cases h with
  | tup hq r =>
    cases r with
    | cons r1 r2 =>
      cases r2 with
      | cons r3 r4 =>
        cases r4
        cases r3
        have r1' := r1
        cases r1 with
        | tup hb rs =>
          rw [dats_strs rs] at hb
          exact ⟨_, _, rfl, hq, hb, r1'⟩
def Asc (p : List Str) : Prop := p.Pairwise fun a b => strLt b a = false
def Rise (W : Tab) : Prop := (W.map (·.1)).Pairwise fun a b => prodLt a b = true
theorem pw_at {α : Type} {R : α → α → Prop} {l : List α} {i j : Nat} {a b : α} (h : l.Pairwise R) (ij : i < j) (ha : l[i]? = some a) (hb : l[j]? = some b) : R a b := by
  obtain ⟨hi, rfl⟩ := List.getElem?_eq_some_iff.mp ha
  obtain ⟨hj, rfl⟩ := List.getElem?_eq_some_iff.mp hb
  exact List.pairwise_iff_getElem.mp h i j hi hj ij
end Wy
namespace Wy
open PySem L2
section
variable {P : Program} {w : World} {K : PySem.W.Frag} {mg : Str → Option Value} {base : Heap}
def sp_isprod (K : PySem.W.Frag) : Sp := fun vs H Q _ => ∃ (b : Addr) (p : List Str), vs = [.ref b] ∧ SqT K H b (p.map V.str) ∧ Dat K H (.tuple (p.map .str)) (.ref b) ∧ Asc p ∧ p.length ≤ 1000 ∧ Q (.bl true) H
theorem ok__law_is_product (T : Txt K mg) : Def P w K mg base 1 "_law_is_product" ["_law_thing"] (sp_isprod K) := by
  refine T.t__law_is_product.ok sc__law_is_product (fun vs H Q E h => ?_) fun f cdv A outer s H vs Q E hr h => ?_
  · obtain ⟨b, p, rfl, _⟩ := h
    rfl
  · obtain ⟨b, p, rfl, hT, hD, ha, hl, k⟩ := h
    refine ⟨_, (pss_3
      (ps_if (pt_not (pt_val (pe_callB (call_isiD K) rfl T.b_isinstance bt_isinstance (pa_2 (pv 0) (pe_ty rfl T.b_tuple bt_tuple))))) (pss_one (ps_ret pe_bl)) pss_nil)
      (ps_for PassesOwn.never rfl (pi_range1 rfl T.b_range (pa_1 (pe_callB (call_lenK K) rfl T.b_len bt_len (pa_1 (pv 0))))) (pg_name (i := 1) sc__law_is_product.nd rfl (Or.inl rfl)) (pss_one (ps_if (PW.pt (pw_or (pt_not (pt_val (pe_callB (call_isi K) rfl T.b_isinstance bt_isinstance (pa_2 (pe_ix (ix_tupK K) (pv 0) (pv 1) (fun _ _ => rfl)) (pe_ty rfl T.b_str bt_str))))) (pw_or1 (PW.pt (pw_and (pt_cmpR op_gt (pv 1) pe_int (nomark _)) (pw_and1 (pt_cmpR op_lt_str (pe_ix (ix_tupK K) (pv 0) (pv 1) (fun _ _ => rfl)) (pe_ix (ix_tupK K) (pv 0) (pe_op op_sub (pv 1) pe_int) (fun _ _ => rfl)) (nomark _)))))))) (pss_one (ps_ret pe_bl)) pss_nil)))
      (ps_ret pe_bl)), ?_⟩
    refine ⟨_, rfl, _, _, _, rfl, hD, by decide, _, rfl, iteFb (show (!tyIs "tuple" "tuple") = false by decide) ?_⟩
    refine ⟨_, rfl, _, _, rfl, .inr ⟨_, hT, rfl⟩, _, rfl, by omega, by rw [List.length_map]; omega, for_range (lo := 0) (n := (((p.map V.str).length : Nat) : Int).toNat) (fun i σ H' => H' = H ∧ ∃ v, σ = [some (.ref b), v]) ⟨rfl, _, rfl⟩ ?_ ?_⟩
    · rintro i σ H' hi ⟨rfl, v, rfl⟩
      rw [List.length_map] at hi
      have hi' : i < p.length := by omega
      have gi : (p.map V.str)[i]? = some (V.str p[i]) := by rw [List.getElem?_map, List.getElem?_eq_getElem hi']; rfl
      have e0 : (0 : Int) + (i : Int) = (i : Int) := by omega
      refine ⟨_, rfl, _, rfl, _, _, _, _, rfl, rfl, hT, by rw [e0]; exact atI_nat gi, _, _, "str", rfl, .str _, by decide, by decide, _, rfl, iteFb (show (!tyIs "str" "str") = false by decide) ?_⟩
      refine ⟨_, rfl, _, _, rfl, rfl, _, rfl, ite2 (fun h1 => ?_) (fun h1 => ?_)⟩
      · have h1' : 0 < i := by simp at h1; omega
        have gj : (p.map V.str)[i - 1]? = some (V.str p[i - 1]) := by rw [List.getElem?_map, List.getElem?_eq_getElem (by omega)]; rfl
        have e1 : (0 : Int) + (i : Int) - 1 = ((i - 1 : Nat) : Int) := by omega
        refine ⟨_, rfl, _, rfl, _, _, _, _, rfl, rfl, hT, by rw [e0]; exact atI_nat gi, _, rfl, _, rfl, _, _, rfl, rfl, _, _, _, _, rfl, rfl, hT, by rw [e1]; exact atI_nat gj, _, _, rfl, rfl, _, rfl, iteFb ?_ ⟨rfl, _, rfl⟩⟩
        exact pw_at (R := fun a b => strLt b a = false) (l := p) (i := i - 1) (j := i) ha (by omega) (List.getElem?_eq_getElem (by omega)) (List.getElem?_eq_getElem hi')
      · exact iteF ⟨rfl, _, rfl⟩
    · rintro σ H' ⟨rfl, v, rfl⟩
      exact k
def sp_iswhy (K : PySem.W.Frag) : Sp := fun vs H Q _ => ∃ (l : Addr) (W : Tab) (zs : List V), vs = [.ref l] ∧ SqL K H l zs ∧ Dats K H (whyD W) zs ∧ W.length ≤ 100000 ∧ Rise W ∧ (∀ kv ∈ W, 1 ≤ kv.2 ∧ Asc kv.1 ∧ kv.1.length ≤ 1000) ∧ Q (.bl true) H
theorem ok__law_is_why (T : Txt K mg) : Def P w K mg base 2 "_law_is_why" ["_law_thing"] (sp_iswhy K) := by
  refine T.t__law_is_why.ok sc__law_is_why (fun vs H Q E h => ?_) fun f cdv A outer s H vs Q E hr h => ?_
  · obtain ⟨l, W, zs, rfl, _⟩ := h
    rfl
  · obtain ⟨l, W, zs, rfl, hl, hz, hW, hr2, hk, k⟩ := h
    have lz : zs.length = W.length := by rw [← dats_len hz]; unfold whyD; rw [List.length_map]
    have get : ∀ {i : Nat} {x : V}, zs[i]? = some x → ∃ kv, W[i]? = some kv ∧ ∃ q b, x = .ref q ∧ SqT K H q [.ref b, .int kv.2] ∧ SqT K H b (kv.1.map V.str) ∧ Dat K H (.tuple (kv.1.map .str)) (.ref b) ∧ Dat K H (pairD kv) x := fun {i x} hx => by
      obtain ⟨d, hd, hx2⟩ := dats_get hz hx
      unfold whyD at hd
      rw [List.getElem?_map] at hd
      obtain ⟨kv, hkv, rfl⟩ := Option.map_eq_some_iff.mp hd
      obtain ⟨q, b, e, h1, h2, h3⟩ := dat_pair hx2
      exact ⟨kv, hkv, q, b, e, h1, h2, h3, hx2⟩
    refine ⟨_, (pss_4
      (ps_if (pt_not (pt_val (pe_callB (call_isiD K) rfl T.b_isinstance bt_isinstance (pa_2 (pv 0) (pe_ty rfl T.b_list bt_list))))) (pss_one (ps_ret pe_bl)) pss_nil)
      (ps_for PassesOwn.never rfl (pi_listK K (pv 0)) (pg_name (i := 1) sc__law_is_why.nd rfl (Or.inl rfl)) (pss_2
      (ps_if (PW.pt (pw_or (pt_not (pt_val (pe_callB (call_isiD K) rfl T.b_isinstance bt_isinstance (pa_2 (pv 1) (pe_ty rfl T.b_tuple bt_tuple))))) (pw_or (pt_cmpR op_ne (pe_callB (call_lenK K) rfl T.b_len bt_len (pa_1 (pv 1))) pe_int (nomark _)) (pw_or1 (pt_not (pt_val (pe_def (ok__law_is_product T) hr rfl (pa_1 (pe_ix (ix_tupK K) (pv 1) pe_int (fun _ _ => rfl)))))))))) (pss_one (ps_ret pe_bl)) pss_nil)
      (ps_if (PW.pt (pw_or (pt_not (pt_val (pe_callB (call_isi K) rfl T.b_isinstance bt_isinstance (pa_2 (pe_ix (ix_tupK K) (pv 1) pe_int (fun _ _ => rfl)) (pe_ty rfl T.b_int bt_int))))) (pw_or (pt_val (pe_callB (call_isi K) rfl T.b_isinstance bt_isinstance (pa_2 (pe_ix (ix_tupK K) (pv 1) pe_int (fun _ _ => rfl)) (pe_ty rfl T.b_bool bt_bool)))) (pw_or1 (pt_cmpR op_lt (pe_ix (ix_tupK K) (pv 1) pe_int (fun _ _ => rfl)) pe_int (nomark _)))))) (pss_one (ps_ret pe_bl)) pss_nil)))
      (ps_for PassesOwn.never rfl (pi_range2 rfl T.b_range (pa_2 pe_int (pe_callB (call_lenK K) rfl T.b_len bt_len (pa_1 (pv 0))))) (pg_name (i := 2) sc__law_is_why.nd rfl (Or.inl rfl)) (pss_one (ps_if (pt_not (pt_cmpR (op_ltD hr.units K) (pe_ix (ix_tupK K) (pe_ix (ix_listK K) (pv 0) (pe_op op_sub (pv 2) pe_int) (fun _ _ => rfl)) pe_int (fun _ _ => rfl)) (pe_ix (ix_tupK K) (pe_ix (ix_listK K) (pv 0) (pv 2) (fun _ _ => rfl)) pe_int (fun _ _ => rfl)) (nomark _))) (pss_one (ps_ret pe_bl)) pss_nil)))
      (ps_ret pe_bl)), ?_⟩
    refine ⟨_, rfl, _, _, _, rfl, .lst hl hz, by decide, _, rfl, iteFb (show (!tyIs "list" "list") = false by decide) ?_⟩
    refine ⟨_, rfl, l, rfl, ⟨_, hl⟩, for_list (xs := zs) (fun i σ H' => H' = H ∧ ∃ v v2, σ = [some (.ref l), v, v2]) ⟨rfl, _, _, rfl⟩ (fun i σ H' _ z => by rw [z.1]; exact hl) ?_ ?_⟩
    · rintro i x σ H' hx ⟨rfl, v, v2, rfl⟩
      obtain ⟨kv, hkv, q, b, rfl, hq, hb, hbd, hxd⟩ := get hx
      obtain ⟨k1, k2, k3⟩ := hk kv (List.mem_of_getElem? hkv)
      refine ⟨_, rfl, _, _, _, rfl, hxd, by decide, _, rfl, iteFb (show (!tyIs "tuple" "tuple") = false by decide) ?_⟩
      refine ⟨_, rfl, _, _, rfl, .inr ⟨_, hq, rfl⟩, rfl, _, rfl, iteFb (by simp) ?_⟩
      refine ⟨_, rfl, _, _, _, _, rfl, rfl, hq, rfl, _, _, rfl, hb, hbd, k2, k3, _, rfl, iteF ?_⟩
      refine ⟨_, rfl, _, _, _, _, rfl, rfl, hq, rfl, _, _, "int", rfl, .int _, by decide, by decide, _, rfl, iteFb (show (!tyIs "int" "int") = false by decide) ?_⟩
      refine ⟨_, rfl, _, _, _, _, rfl, rfl, hq, rfl, _, _, "int", rfl, .int _, by decide, by decide, _, rfl, iteFb (show tyIs "int" "bool" = false by decide) ?_⟩
      exact ⟨_, rfl, _, _, _, _, rfl, rfl, hq, rfl, _, _, rfl, rfl, _, rfl, iteFb (decide_eq_false (by omega)) ⟨rfl, _, _, rfl⟩⟩
    · rintro σ H' ⟨rfl, v, v2, rfl⟩
      refine ⟨_, rfl, _, _, rfl, .inl ⟨_, hl, rfl⟩, _, _, rfl, ⟨by decide, by decide, by omega, by omega⟩, for_range (lo := 1) (n := ((zs.length : Int) - 1).toNat) (fun i σ H2 => H2 = H' ∧ ∃ v v2, σ = [some (.ref l), v, v2]) ⟨rfl, _, _, rfl⟩ ?_ ?_⟩
      · rintro i σ H2 hi ⟨rfl, v, v2, rfl⟩
        have i1 : i < zs.length := by omega
        have i2 : i + 1 < zs.length := by omega
        have g1 := List.getElem?_eq_getElem i1
        have g2 := List.getElem?_eq_getElem i2
        obtain ⟨kv1, w1, q1, b1, x1, hq1, hb1, hd1, _⟩ := get g1
        obtain ⟨kv2, w2, q2, b2, x2, hq2, hb2, hd2, _⟩ := get g2
        rw [x1] at g1
        rw [x2] at g2
        have e1 : (1 : Int) + (i : Int) - 1 = ((i : Nat) : Int) := by omega
        have e2 : (1 : Int) + (i : Int) = ((i + 1 : Nat) : Int) := by omega
        refine ⟨_, rfl, _, rfl, _, _, rfl, rfl, _, _, _, _, rfl, rfl, hl, by rw [e1]; exact atI_nat g1, _, _, _, _, rfl, rfl, hq1, rfl, _, rfl, _, rfl, _, _, _, _, rfl, rfl, hl, by rw [e2]; exact atI_nat g2, _, _, _, _, rfl, rfl, hq2, rfl, ?_⟩
        have lt : prodLt kv1.1 kv2.1 = true := pw_at (R := fun a b => prodLt a b = true) (l := W.map (·.1)) (i := i) (j := i + 1) hr2 (by omega) (by rw [List.getElem?_map, w1]; rfl) (by rw [List.getElem?_map, w2]; rfl)
        refine ⟨_, _, true, hd1, hd2, by rw [depth_prod]; decide, by rw [ltD?, lex_strs, lt], _, rfl, iteF ⟨rfl, _, _, rfl⟩⟩
      · rintro σ H2 ⟨rfl, v, v2, rfl⟩
        exact k
end
end Wy
namespace Wy
open PySem L2
theorem pw_strict {α : Type} {lt : α → α → Bool} (h : Tim.STO lt) : ∀ {l : List α}, l.Pairwise (fun a b => lt b a = false) → l.Nodup → l.Pairwise fun a b => lt a b = true
  | [], _, _ => .nil
  | a :: l, h1, h2 => by
    obtain ⟨a1, a2⟩ := List.pairwise_cons.mp h1
    obtain ⟨b1, b2⟩ := List.nodup_cons.mp h2
    refine List.pairwise_cons.mpr ⟨fun b hb => ?_, pw_strict h a2 b2⟩
    cases e : lt a b with
    | true => rfl
    | false => exact absurd (h.tri a b e (a1 b hb)) fun z => b1 (z ▸ hb)
theorem told_keys (W : Tab) : ((told W).map (·.1)).Sublist (Tim.srt prodLt (W.map (·.1))) := by
  unfold told
  have : ((Tim.srt prodLt (W.map (·.1))).map fun k => (k, (getA W k).getD 0)).map (·.1) = Tim.srt prodLt (W.map (·.1)) := by
    rw [List.map_map]
    exact List.map_id _
  have h2 := (List.filter_sublist (l := (Tim.srt prodLt (W.map (·.1))).map fun k => (k, (getA W k).getD 0)) (p := fun kv => decide (0 < kv.2))).map (·.1)
  rw [this] at h2
  exact h2
theorem told_rise {W : Tab} (h : (W.map (·.1)).Nodup) : Rise (told W) :=
  (pw_strict sto_prod (Tim.srt_asc sto_prod _) ((Tim.srt_perm prodLt _).nodup_iff.mpr h)).sublist (told_keys W)
theorem told_len (W : Tab) : (told W).length ≤ W.length := by
  have := (told_keys W).length_le
  rw [List.length_map, (Tim.srt_perm prodLt _).length_eq, List.length_map] at this
  exact this
theorem mem_told {W : Tab} {kv : List Str × Int} : kv ∈ told W ↔ kv.1 ∈ W.map (·.1) ∧ kv.2 = (getA W kv.1).getD 0 ∧ 0 < kv.2 := by
  unfold told
  rw [List.mem_filter, List.mem_map]
  constructor
  · rintro ⟨⟨k, hk, rfl⟩, h⟩
    exact ⟨(Tim.srt_perm prodLt _).mem_iff.mp hk, rfl, of_decide_eq_true h⟩
  · rintro ⟨h1, h2, h3⟩
    refine ⟨⟨kv.1, (Tim.srt_perm prodLt _).mem_iff.mpr h1, ?_⟩, decide_eq_true h3⟩
    rw [← h2]
theorem sum_ge : ∀ {l : List Int} {n : Int}, (∀ x ∈ l, 0 ≤ x) → n ∈ l → n ≤ l.sum
  | [], _, _, h => nomatch h
  | x :: l, n, hp, h => by
    have hs : 0 ≤ l.sum := by
      clear h
      have : ∀ y ∈ l, 0 ≤ y := fun y hy => hp y (List.mem_cons_of_mem _ hy)
      clear hp
      induction l with
      | nil => exact Int.le_refl _
      | cons y l ih =>
        rw [List.sum_cons]
        have h1 := this y (List.mem_cons_self ..)
        have h2 := ih fun z hz => this z (List.mem_cons_of_mem _ hz)
        omega
    rw [List.sum_cons]
    rcases List.mem_cons.mp h with rfl | h
    · omega
    · have h1 := hp x (List.mem_cons_self ..)
      have h2 := sum_ge (fun y hy => hp y (List.mem_cons_of_mem _ hy)) h
      omega
def nf (p : List Str × Int) : List Str × Int := (Tim.srt strLt p.1, p.2)
theorem gath_why {ps : Tab} (hl : ∀ p ∈ ps, p.1.length ≤ 1000) : Rise (told (gath ps)) ∧ (told (gath ps)).length ≤ ps.length ∧ ∀ kv ∈ told (gath ps), 1 ≤ kv.2 ∧ Asc kv.1 ∧ kv.1.length ≤ 1000 := by
  obtain ⟨h1, h2, h3, h4⟩ := gath_facts ps.length ps rfl
  refine ⟨told_rise h1, Nat.le_trans (told_len _) h2, fun kv hkv => ?_⟩
  obtain ⟨m1, m2, m3⟩ := mem_told.mp hkv
  obtain ⟨p, hp, e⟩ := List.mem_map.mp ((h3 kv.1).mp m1)
  refine ⟨by omega, ?_, ?_⟩
  · rw [← e]
    exact Tim.srt_asc sto_str _
  · rw [← e, show (Tim.srt strLt p.1).length = p.1.length from (Tim.srt_perm strLt _).length_eq]
    exact hl p hp
end Wy
namespace Wy
open PySem L2
theorem cut_ints (ns : List Int) (lo hi : Option Int) : ∃ ms : List Int, cutV (ns.map V.int) lo hi = ms.map V.int ∧ ms.length ≤ ns.length := by
  refine ⟨(ns.drop (HT.sIx ns.length 0 lo)).take (HT.sIx ns.length ns.length hi - HT.sIx ns.length 0 lo), ?_, ?_⟩
  · unfold cutV
    rw [List.length_map, List.map_take, List.map_drop]
  · rw [List.length_take, List.length_drop]
    omega
theorem mem_putA {W : Tab} {k : List Str} {v : Int} {kv : List Str × Int} (h : kv ∈ putA W k v) : kv ∈ W ∨ kv = (k, v) := by
  unfold putA at h
  split at h
  · obtain ⟨x, hx, e⟩ := List.mem_map.mp h
    by_cases q : x.1 = k
    · rw [if_pos q] at e
      exact .inr (by rw [← e, q])
    · rw [if_neg q] at e
      exact .inl (e ▸ hx)
  · rcases List.mem_append.mp h with h | h
    · exact .inl h
    · exact .inr (List.mem_singleton.mp h)
theorem get_mem {W : Tab} {k : List Str} {n : Int} (h : getA W k = some n) : (k, n) ∈ W := by
  unfold getA at h
  obtain ⟨x, hx, rfl⟩ := Option.map_eq_some_iff.mp h
  have h1 := List.find?_some hx
  have : x.1 = k := by simpa using h1
  rw [← this]
  exact List.mem_of_find?_eq_some hx
def WOk (W : Tab) : Prop := Rise W ∧ ∀ kv ∈ W, 1 ≤ kv.2 ∧ Asc kv.1 ∧ kv.1.length ≤ 50 ∧ (∀ z ∈ kv.1, Wz 40 z) ∧ kv.2 < 2 ^ 200
end Wy
namespace Wy
open PySem L2
theorem paired_app {α β : Type} {F : α → β → Prop} : ∀ {xs xs2 : List α} {ys ys2 : List β}, Paired F xs ys → Paired F xs2 ys2 → Paired F (xs ++ xs2) (ys ++ ys2)
  | _, _, _, _, .nil, h => h
  | _, _, _, _, .cons a b, h => .cons a (paired_app b h)
theorem WOk.take {W : Tab} (h : WOk W) (j : Nat) : WOk (W.take j) := by
  refine ⟨?_, fun kv hkv => h.2 kv (List.mem_of_mem_take hkv)⟩
  unfold Rise
  rw [List.map_take]
  exact h.1.sublist (List.take_sublist _ _)
theorem pls_pairs {K : PySem.W.Frag} {H : Hp} : ∀ {xs : List V} {W : Tab}, Paired (PlAt H) xs W → Paired (PairAt K H) xs W
  | _, _, .nil => .nil
  | _, _, .cons ⟨q, b, e, h1, h2⟩ r => .cons ⟨q, b, e, SqT.of h1, .inr (SqT.of h2)⟩ (pls_pairs r)
theorem WOk.str {W : Tab} (h : WOk W) : ∀ kv ∈ W, ∀ z ∈ kv.1, PyData.strOk z = true := fun kv hkv z hz => ((h.2 kv hkv).2.2.2.1 z hz).ok
theorem depth_whys (W : Tab) : PyData.depthAll (whyD W) ≤ 2 := by
  induction W with
  | nil => exact Nat.zero_le _
  | cons p W ih =>
    refine Nat.max_le.mpr ⟨?_, ih⟩
    show max (PyData.depthAll (p.1.map .str) + 1) (max 0 0) + 1 ≤ 2
    rw [depth_strs]
    decide
theorem depth_why (W : Tab) : PyData.depth (.list (whyD W)) ≤ 60 := Nat.le_trans (Nat.succ_le_succ (depth_whys W)) (by decide)
theorem Rise.nd {W : Tab} (h : Rise W) : (W.map (·.1)).Nodup := by
  refine List.Pairwise.imp (fun {a b} hab e => ?_) h
  rw [e, sto_prod.irr] at hab
  cases hab
theorem Asc.srt {p : List Str} (h : Asc p) : Tim.srt strLt p = p := (Tim.srt_eq sto_str (List.Perm.refl p) h).symm
end Wy
namespace Wy
open PySem L2
def mulP (p q : List Str × Int) : List Str × Int := (p.1 ++ q.1, p.2 * q.2)
def prods (A B : Tab) : Tab := A.flatMap fun p => B.map (mulP p)
theorem prods_take {A B : Tab} {i : Nat} {p : List Str × Int} (h : A[i]? = some p) : prods (A.take (i + 1)) B = prods (A.take i) B ++ B.map (mulP p) := by
  unfold prods
  rw [List.take_succ, h, List.flatMap_append]
  congr 1
  simp
theorem prods_len (A B : Tab) : (prods A B).length = A.length * B.length := by
  induction A with
  | nil => simp [prods]
  | cons p A ih =>
    have e : prods (p :: A) B = B.map (mulP p) ++ prods A B := rfl
    rw [e, List.length_append, List.length_map, ih, List.length_cons, Nat.add_mul]
    omega
theorem prods_mem {A B : Tab} {r : List Str × Int} (h : r ∈ prods A B) : ∃ p ∈ A, ∃ q ∈ B, r = mulP p q := by
  obtain ⟨p, hp, h⟩ := List.mem_flatMap.mp h
  obtain ⟨q, hq, e⟩ := List.mem_map.mp h
  exact ⟨p, hp, q, hq, e.symm⟩
end Wy
namespace Wy
open PySem L2
section
variable {P : Program} {w : World} {K : PySem.W.Frag} {mg : Str → Option Value} {base : Heap}
def sp_times (K : PySem.W.Frag) : Sp := fun vs H Q _ => ∃ (a b : Addr) (xs ys : List V) (A B : Tab), vs = [.ref a, .ref b] ∧ H a = some (.lst xs) ∧ H b = some (.lst ys) ∧ Paired (PlAt H) xs A ∧ Paired (PlAt H) ys B ∧ A.length ≤ 200 ∧ B.length ≤ 200 ∧ (∀ p ∈ A ++ B, (∀ x ∈ p.1, PyData.strOk x = true) ∧ p.1.length ≤ 1000 ∧ 0 ≤ p.2 ∧ p.2 < 2 ^ 600) ∧
  ∀ l zs H', Same H H' → H' l = some (.lst zs) → H l = none → (∀ H2, KeepT H' H2 → Paired (PlAt H2) zs (told (gath (prods A B)))) → Q (.ref l) H'
theorem ok_times (T : Txt K mg) : Def P w K mg base 2 "times" ["one", "other"] (sp_times K) := by
  refine T.t_times.ok sc_times (fun vs H Q E h => ?_) fun f cdv A outer s H vs Q E hr h => ?_
  · obtain ⟨a, b, xs, ys, A, B, rfl, _⟩ := h
    rfl
  · obtain ⟨a, b, xs, ys, A, B, rfl, ha, hb, hA, hB, la, lb, hok, k⟩ := h
    refine ⟨_, (pss_3
      (ps_set (i := 2) sc_times.nd rfl (Or.inl rfl) pe_dnewT)
      (ps_for PassesOwn.never rfl (pi_listK K (pv 0)) (pg_tup rfl (pgs_cons (pg_name (i := 3) sc_times.nd rfl (Or.inl rfl)) (pgs_cons (pg_name (i := 4) sc_times.nd rfl (Or.inl rfl)) pgs_nil))) (pss_one (ps_for PassesOwn.never rfl (pi_listK K (pv 1)) (pg_tup rfl (pgs_cons (pg_name (i := 5) sc_times.nd rfl (Or.inl rfl)) (pgs_cons (pg_name (i := 6) sc_times.nd rfl (Or.inl rfl)) pgs_nil))) (pss_one (ps_expr (pe_def (ok_count_in T) hr rfl (pa_3 (pv 2) (pe_op (op_catA K) (pv 3) (pv 5)) (pe_op op_mulB (pv 4) (pv 6)))))))))
      (ps_ret (pe_def (ok_told_as_why T) hr rfl (pa_1 (pv 2))))), ?_⟩
    have l1 := Paired.length hA
    have l2 := Paired.length hB
    have bound : ∀ i j : Nat, i ≤ 200 → j ≤ 200 → i * j ≤ 40000 := fun i j hi hj => Nat.le_trans (Nat.mul_le_mul hi hj) (by decide)
    refine fun d hd => ?_
    have s1 := same_upd (o := HO.dT []) hd
    refine ⟨_, rfl, a, rfl, ⟨_, SqL.of (s1 _ _ ha)⟩, for_list (xs := xs) (fun i σ G => Same H G ∧ (∃ v1 v2 v3 v4, σ = [some (.ref a), some (.ref b), some (.ref d), v1, v2, v3, v4]) ∧ G d = some (encD (gath (prods (A.take i) B)))) ⟨s1, ⟨_, _, _, _, rfl⟩, upd_same⟩ (fun i σ G _ z => SqL.of (z.1 _ _ ha)) ?_ ?_⟩
    · rintro i x σ G hx ⟨sg, ⟨v1, v2, v3, v4, rfl⟩, hW⟩
      obtain ⟨p, hpi, hpa⟩ := paired_get hA hx
      obtain ⟨q, b1, rfl, hq, hb1⟩ := hpa.keep (Same.keepT sg)
      have hp := hok p (List.mem_append_left _ (List.mem_of_getElem? hpi))
      have il : i < A.length := (List.getElem?_eq_some_iff.mp hpi).1
      refine ⟨_, _, rfl, SqT.of hq, rfl, _, _, rfl, _, _, rfl, rfl, ?_⟩
      refine ⟨_, rfl, b, rfl, ⟨_, SqL.of (sg _ _ hb)⟩, for_list (xs := ys) (fun j σ F => Same H F ∧ F b1 = some (.tup (p.1.map V.str)) ∧ (∃ v3 v4, σ = [some (.ref a), some (.ref b), some (.ref d), some (.ref b1), some (.int p.2), v3, v4]) ∧ F d = some (encD (gath (prods (A.take i) B ++ (B.take j).map (mulP p))))) ⟨sg, hb1, ⟨_, _, rfl⟩, by rw [List.take_zero, List.map_nil, List.append_nil]; exact hW⟩ (fun j σ F _ z => SqL.of (z.1 _ _ hb)) ?_ ?_⟩
      · rintro j y σ F hy ⟨sf, fb1, ⟨v3, v4, rfl⟩, hWf⟩
        obtain ⟨r, hrj, hra⟩ := paired_get hB hy
        obtain ⟨q2, b2, rfl, hq2, hb2⟩ := hra.keep (Same.keepT sf)
        have hr := hok r (List.mem_append_right _ (List.mem_of_getElem? hrj))
        have jl : j < B.length := (List.getElem?_eq_some_iff.mp hrj).1
        refine ⟨_, _, rfl, SqT.of hq2, rfl, _, _, rfl, _, _, rfl, rfl, ?_⟩
        refine ⟨_, rfl, _, rfl, _, rfl, b1, b2, _, _, rfl, rfl, SqT.of fb1, SqT.of hb2, ?_, fun t F2 sf2 ht => ?_⟩
        · rw [List.length_map, List.length_map]
          exact Nat.le_trans (show p.1.length + r.1.length ≤ 1000000 by have := hp.2.1; have := hr.2.1; omega) (by decide)
        · rw [← List.map_append] at ht
          have hWf2 := sf2 _ _ hWf
          obtain ⟨_, gl, _, _⟩ := gath_facts _ (prods (A.take i) B ++ (B.take j).map (mulP p)) rfl
          rw [List.length_append, List.length_map, prods_len, List.length_take, List.length_take] at gl
          have g2 := bound (min i A.length) B.length (by omega) lb
          refine ⟨_, rfl, _, rfl, _, _, rfl, rfl, ⟨⟨hp.2.2.1, hp.2.2.2⟩, ⟨hr.2.2.1, hr.2.2.2⟩⟩, d, t, _, p.1 ++ r.1, p.2 * r.2, rfl, hWf2, .inr ht, by omega, fun F3 s3 hd3 => ?_⟩
          refine ⟨fun c o hc => s3 c o (fun z => by rw [z, hd] at hc; cases hc) (sf2 _ _ (sf c o hc)), s3 b1 _ (fun z => by rw [z, hWf] at fb1; cases fb1) (sf2 _ _ fb1), ⟨_, _, rfl⟩, ?_⟩
          rw [List.take_succ, hrj, List.map_append, ← List.append_assoc]
          show F3 d = some (encD (gath ((prods (A.take i) B ++ (B.take j).map (mulP p)) ++ [mulP p r])))
          rw [gath_snoc]
          exact hd3
      · rintro σ F ⟨sf, fb1, ⟨v3, v4, rfl⟩, hWf⟩
        rw [l2, List.take_length, ← prods_take hpi] at hWf
        exact ⟨sf, ⟨_, _, _, _, rfl⟩, hWf⟩
    · rintro σ G ⟨sg, ⟨v1, v2, v3, v4, rfl⟩, hW⟩
      rw [l1, List.take_length] at hW
      obtain ⟨g1, g2, g3, g4⟩ := gath_facts (prods A B).length (prods A B) rfl
      have gl := prods_len A B
      have g5 := bound A.length B.length la lb
      refine ⟨_, rfl, d, gath (prods A B), rfl, hW, g1, by omega, fun kv hkv x hx => ?_, fun l zs H2 s2 hl2 hln hz => k l zs H2 (sg.trans s2) hl2 (sg.free hln) hz⟩
      obtain ⟨p, hpm, e⟩ := List.mem_map.mp ((g3 kv.1).mp (List.mem_map.mpr ⟨kv, hkv, rfl⟩))
      have hx2 : x ∈ p.1 := by
        have : x ∈ Tim.srt strLt p.1 := by rw [show Tim.srt strLt p.1 = kv.1 from e]; exact hx
        exact (Tim.srt_perm strLt p.1).mem_iff.mp this
      obtain ⟨p1, h1, p2, h2, rfl⟩ := prods_mem hpm
      rcases List.mem_append.mp hx2 with h | h
      · exact (hok p1 (List.mem_append_left _ h1)).1 x h
      · exact (hok p2 (List.mem_append_right _ h2)).1 x h
end
end Wy
namespace Wy
open PySem L2
theorem told_form (W : Tab) : told W = ((told W).map (·.1)).map fun k => (k, (getA W k).getD 0) := by
  rw [List.map_map]
  refine ((List.map_congr_left fun kv hkv => ?_).trans (List.map_id _)).symm
  show (kv.1, (getA W kv.1).getD 0) = kv
  rw [← (mem_told.mp hkv).2.1]
theorem told_key {W : Tab} {k : List Str} : k ∈ (told W).map (·.1) ↔ 0 < (getA W k).getD 0 := by
  constructor
  · intro h
    obtain ⟨kv, hkv, rfl⟩ := List.mem_map.mp h
    obtain ⟨_, h2, h3⟩ := mem_told.mp hkv
    rw [← h2]
    exact h3
  · intro h
    refine List.mem_map.mpr ⟨(k, (getA W k).getD 0), mem_told.mpr ⟨?_, rfl, h⟩, rfl⟩
    cases hg : getA W k with
    | none =>
      rw [hg] at h
      exact absurd h (by show ¬ (0 : Int) < 0; omega)
    | some n => exact List.mem_map.mpr ⟨_, get_mem hg, rfl⟩
theorem told_eq {W1 W2 : Tab} (h1 : (W1.map (·.1)).Nodup) (h2 : (W2.map (·.1)).Nodup) (h : ∀ k, (getA W1 k).getD 0 = (getA W2 k).getD 0) : told W1 = told W2 := by
  have asc : ∀ {W : Tab}, (W.map (·.1)).Nodup → ((told W).map (·.1)).Pairwise fun a b => prodLt b a = false := fun {W} hn => List.Pairwise.imp (fun {a b} hab => sto_prod.asym hab) (told_rise hn)
  have keys : (told W1).map (·.1) = (told W2).map (·.1) := by
    refine sto_prod.uniq ?_ (asc h1) (asc h2)
    refine (List.perm_ext_iff_of_nodup (told_rise h1).nd (told_rise h2).nd).mpr fun k => ?_
    rw [told_key, told_key, h]
  rw [told_form W1, told_form W2, keys]
  exact List.map_congr_left fun k _ => by rw [h]
def lin (F : List Str → Int) (ps : Tab) : Int := (ps.map fun p => p.2 * F p.1).sum
theorem lin_app (F : List Str → Int) (ps qs : Tab) : lin F (ps ++ qs) = lin F ps + lin F qs := by
  unfold lin
  rw [List.map_append, List.sum_append]
theorem lin_cons (F : List Str → Int) (p : List Str × Int) (ps : Tab) : lin F (p :: ps) = p.2 * F p.1 + lin F ps := rfl
theorem gath_lin (ps : Tab) (k : List Str) : (getA (gath ps) k).getD 0 = lin (fun n => if Tim.srt strLt n = k then 1 else 0) ps := by
  rw [(gath_facts ps.length ps rfl).2.2.2]
  induction ps with
  | nil => rfl
  | cons p ps ih =>
    rw [lin_cons]
    by_cases e : Tim.srt strLt p.1 = k
    · rw [List.filter_cons_of_pos (by simpa using e), List.map_cons, List.sum_cons, ih, if_pos e, Int.mul_one]
    · rw [List.filter_cons_of_neg (by simpa using e), ih, if_neg e, Int.mul_zero, Int.zero_add]
theorem lin_prods (F : List Str → Int) (A B : Tab) : lin F (prods A B) = lin (fun n => lin (fun m => F (n ++ m)) B) A := by
  induction A with
  | nil => rfl
  | cons p A ih =>
    have e : prods (p :: A) B = B.map (mulP p) ++ prods A B := rfl
    rw [e, lin_app, lin_cons, ih]
    congr 1
    clear ih e
    induction B with
    | nil => show (0 : Int) = p.2 * 0; rw [Int.mul_zero]
    | cons q B ih =>
      rw [List.map_cons, lin_cons, lin_cons, Int.mul_add, ih]
      congr 1
      show p.2 * q.2 * F (p.1 ++ q.1) = p.2 * (q.2 * F (p.1 ++ q.1))
      rw [Int.mul_assoc]
theorem lin_add (F G : List Str → Int) (ps : Tab) : lin (fun n => F n + G n) ps = lin F ps + lin G ps := by
  induction ps with
  | nil => rfl
  | cons p ps ih =>
    rw [lin_cons, lin_cons, lin_cons, ih, Int.mul_add]
    omega
theorem lin_mul (c : Int) (F : List Str → Int) (ps : Tab) : lin (fun n => c * F n) ps = c * lin F ps := by
  induction ps with
  | nil => show (0 : Int) = c * 0; rw [Int.mul_zero]
  | cons p ps ih =>
    rw [lin_cons, lin_cons, ih, Int.mul_add]
    congr 1
    rw [← Int.mul_assoc, Int.mul_comm p.2 c, Int.mul_assoc]
theorem lin_swap (F : List Str → List Str → Int) (A B : Tab) : lin (fun n => lin (fun m => F n m) B) A = lin (fun m => lin (fun n => F n m) A) B := by
  induction A with
  | nil =>
    show (0 : Int) = lin (fun m => 0) B
    induction B with
    | nil => rfl
    | cons q B ih => rw [lin_cons, ← ih, Int.mul_zero]; rfl
  | cons p A ih =>
    rw [lin_cons, ih]
    show _ = lin (fun m => p.2 * F p.1 m + lin (fun n => F n m) A) B
    rw [lin_add, lin_mul]
end Wy
namespace Wy
open PySem L2
def tg (ps : Tab) : Tab := told (gath ps)
def PI (F : List Str → Int) : Prop := ∀ n m : List Str, n.Perm m → F n = F m
theorem srt_perm_eq {n m : List Str} (p : n.Perm m) : Tim.srt strLt n = Tim.srt strLt m := Tim.srt_eq sto_str ((Tim.srt_perm strLt n).trans p) (Tim.srt_asc sto_str n)
theorem pi_ind (k : List Str) : PI fun n => if Tim.srt strLt n = k then 1 else 0 := fun n m p => by simp only [srt_perm_eq p]
theorem sum_add {α : Type} (f g : α → Int) : ∀ l : List α, (l.map fun x => f x + g x).sum = (l.map f).sum + (l.map g).sum
  | [] => rfl
  | x :: l => by
    rw [List.map_cons, List.map_cons, List.map_cons, List.sum_cons, List.sum_cons, List.sum_cons, sum_add f g l]
    omega
theorem sum_zero {α : Type} (f : α → Int) (h : ∀ x, f x = 0) : ∀ l : List α, (l.map f).sum = 0
  | [] => rfl
  | x :: l => by rw [List.map_cons, List.sum_cons, h, sum_zero f h l]; rfl
theorem sum_nn : ∀ {l : List Int}, (∀ x ∈ l, 0 ≤ x) → 0 ≤ l.sum
  | [], _ => Int.le_refl _
  | x :: l, h => by
    rw [List.sum_cons]
    have h1 := h x (List.mem_cons_self ..)
    have h2 := sum_nn fun y hy => h y (List.mem_cons_of_mem _ hy)
    omega
theorem sum_pick (F : List Str → Int) (c : Int) (a : List Str) : ∀ {S : List (List Str)}, S.Nodup → (S.map fun k => (c * if a = k then 1 else 0) * F k).sum = if a ∈ S then c * F a else 0
  | [], _ => rfl
  | k :: S, h => by
    obtain ⟨h1, h2⟩ := List.nodup_cons.mp h
    rw [List.map_cons, List.sum_cons, sum_pick F c a h2]
    by_cases e : a = k
    · subst e
      rw [if_pos rfl, if_neg h1, if_pos (List.mem_cons_self ..), Int.mul_one, Int.add_zero]
    · rw [if_neg e, Int.mul_zero, Int.zero_mul, Int.zero_add]
      by_cases h3 : a ∈ S
      · rw [if_pos h3, if_pos (List.mem_cons_of_mem _ h3)]
      · rw [if_neg h3, if_neg (fun z => (List.mem_cons.mp z).elim e h3)]
theorem sum_all (F : List Str → Int) {S : List (List Str)} (hS : S.Nodup) : ∀ {ps : Tab}, (∀ p ∈ ps, Tim.srt strLt p.1 ∈ S) → (S.map fun k => lin (fun n => if Tim.srt strLt n = k then 1 else 0) ps * F k).sum = lin (fun n => F (Tim.srt strLt n)) ps
  | [], _ => sum_zero _ (fun k => Int.zero_mul _) S
  | p :: ps, h => by
    have e : (S.map fun k => lin (fun n => if Tim.srt strLt n = k then 1 else 0) (p :: ps) * F k) = S.map fun k => (p.2 * if Tim.srt strLt p.1 = k then 1 else 0) * F k + lin (fun n => if Tim.srt strLt n = k then 1 else 0) ps * F k := List.map_congr_left fun k _ => by rw [lin_cons, Int.add_mul]
    rw [e, sum_add, sum_pick F p.2 _ hS, if_pos (h p (List.mem_cons_self ..)), sum_all F hS fun q hq => h q (List.mem_cons_of_mem _ hq)]
    rfl
theorem lin_pos (F : List Str → Int) : ∀ {W : Tab}, (∀ p ∈ W, 0 ≤ p.2) → lin F (W.filter fun kv => decide (0 < kv.2)) = lin F W
  | [], _ => rfl
  | p :: W, h => by
    have ih := lin_pos F fun q hq => h q (List.mem_cons_of_mem _ hq)
    by_cases e : 0 < p.2
    · rw [List.filter_cons_of_pos (by simpa using e), lin_cons, lin_cons, ih]
    · have e0 : p.2 = 0 := by have := h p (List.mem_cons_self ..); omega
      rw [List.filter_cons_of_neg (by simpa using e), lin_cons, e0, Int.zero_mul, Int.zero_add, ih]
theorem lin_congr {F G : List Str → Int} (h : ∀ n, F n = G n) (ps : Tab) : lin F ps = lin G ps := by
  have : F = G := funext h
  rw [this]
abbrev NN (ps : Tab) : Prop := ∀ p ∈ ps, 0 ≤ p.2
theorem lin_tg {F : List Str → Int} (hF : PI F) {ps : Tab} (h : NN ps) : lin F (tg ps) = lin F ps := by
  obtain ⟨h1, h2, h3, h4⟩ := gath_facts ps.length ps rfl
  unfold tg told
  rw [lin_pos]
  · have e : lin F ((Tim.srt prodLt ((gath ps).map (·.1))).map fun k => (k, (getA (gath ps) k).getD 0)) = ((Tim.srt prodLt ((gath ps).map (·.1))).map fun k => lin (fun n => if Tim.srt strLt n = k then 1 else 0) ps * F k).sum := by
      unfold lin
      rw [List.map_map]
      congr 1
      refine List.map_congr_left fun k _ => ?_
      show (getA (gath ps) k).getD 0 * F k = _
      rw [gath_lin]
      rfl
    rw [e, sum_all F ((Tim.srt_perm prodLt _).nodup_iff.mpr h1) fun p hp => (Tim.srt_perm prodLt _).mem_iff.mpr ((h3 _).mpr (List.mem_map.mpr ⟨p, hp, rfl⟩))]
    exact lin_congr (fun n => hF _ _ (Tim.srt_perm strLt n)) ps
  · intro p hp
    obtain ⟨k, _, rfl⟩ := List.mem_map.mp hp
    show 0 ≤ (getA (gath ps) k).getD 0
    rw [h4]
    refine sum_nn fun x hx => ?_
    obtain ⟨q, hq, rfl⟩ := List.mem_map.mp hx
    exact h q (List.mem_filter.mp hq).1
theorem tg_eq {ps qs : Tab} (h : ∀ F, PI F → lin F ps = lin F qs) : tg ps = tg qs :=
  told_eq (gath_facts ps.length ps rfl).1 (gath_facts qs.length qs rfl).1 fun k => by rw [gath_lin, gath_lin]; exact h _ (pi_ind k)
theorem tg_one {ps : Tab} : ∀ p ∈ tg ps, 1 ≤ p.2 := fun p hp => (mem_told.mp hp).2.2
theorem tg_nn (ps : Tab) : NN (tg ps) := fun p hp => Int.le_trans (by decide) (tg_one p hp)
theorem nn_prods {A B : Tab} (hA : NN A) (hB : NN B) : NN (prods A B) := fun r hr => by
  obtain ⟨p, hp, q, hq, rfl⟩ := prods_mem hr
  exact Int.mul_nonneg (hA p hp) (hB q hq)
theorem PI.left {F : List Str → Int} (h : PI F) (n : List Str) : PI fun m => F (n ++ m) := fun _ _ p => h _ _ (p.append_left n)
theorem PI.right {F : List Str → Int} (h : PI F) (B : Tab) : PI fun n => lin (fun m => F (n ++ m)) B := fun _ _ p => lin_congr (fun m => h _ _ (p.append_right m)) B
theorem prods_tg1 {F : List Str → Int} (hF : PI F) {ps : Tab} (h : NN ps) (C : Tab) : lin F (prods (tg ps) C) = lin F (prods ps C) := by
  rw [lin_prods, lin_prods, lin_tg (hF.right C) h]
theorem prods_tg2 {F : List Str → Int} (hF : PI F) {ps : Tab} (h : NN ps) (A : Tab) : lin F (prods A (tg ps)) = lin F (prods A ps) := by
  rw [lin_prods, lin_prods]
  exact lin_congr (fun n => lin_tg (hF.left n) h) A
def wsum (W : Tab) : Int := (W.map (·.2)).sum
theorem wsum_lin (W : Tab) : wsum W = lin (fun _ => 1) W := by
  unfold wsum lin
  congr 1
  exact List.map_congr_left fun p _ => (Int.mul_one p.2).symm
theorem pi_const (c : Int) : PI fun _ => c := fun _ _ _ => rfl
def Bd (n L : Nat) (b : Int) (W : Tab) : Prop := W.length ≤ n ∧ ∀ p ∈ W, (∀ x ∈ p.1, PyData.strOk x = true) ∧ p.1.length ≤ L ∧ 0 ≤ p.2 ∧ p.2 ≤ b
theorem Bd.nn {n L : Nat} {b : Int} {W : Tab} (h : Bd n L b W) : NN W := fun p hp => (h.2 p hp).2.2.1
theorem Bd.le {n L n' L' : Nat} {b b' : Int} {W : Tab} (h : Bd n L b W) (h1 : n ≤ n') (h2 : L ≤ L') (h3 : b ≤ b') : Bd n' L' b' W :=
  ⟨Nat.le_trans h.1 h1, fun p hp => let ⟨a, b, c, d⟩ := h.2 p hp; ⟨a, Nat.le_trans b h2, c, Int.le_trans d h3⟩⟩
theorem sum_le {b : Int} (h0 : 0 ≤ b) : ∀ {l : List Int}, (∀ x ∈ l, x ≤ b) → l.sum ≤ l.length * b
  | [], _ => by simp
  | x :: l, h => by
    rw [List.sum_cons, List.length_cons, Int.natCast_add, Int.add_mul]
    have h1 := h x (List.mem_cons_self ..)
    have h2 := sum_le h0 fun y hy => h y (List.mem_cons_of_mem _ hy)
    have : ((1 : Nat) : Int) * b = b := Int.one_mul b
    omega
theorem Bd.tg {n L : Nat} {b : Int} {W : Tab} (h : Bd n L b W) (h0 : 0 ≤ b) : Bd n L (n * b) (tg W) := by
  obtain ⟨g1, g2, g3, g4⟩ := gath_facts W.length W rfl
  refine ⟨Nat.le_trans (told_len _) (Nat.le_trans g2 h.1), fun p hp => ?_⟩
  obtain ⟨m1, m2, m3⟩ := mem_told.mp hp
  obtain ⟨q, hq, e⟩ := List.mem_map.mp ((g3 p.1).mp m1)
  have e' : Tim.srt strLt q.1 = p.1 := e
  obtain ⟨c1, c2, c3, c4⟩ := h.2 q hq
  refine ⟨fun x hx => c1 x ((Tim.srt_perm strLt _).mem_iff.mp (e' ▸ hx)), ?_, by omega, ?_⟩
  · rw [← e', (Tim.srt_perm strLt _).length_eq]
    exact c2
  · rw [m2, g4]
    refine Int.le_trans (sum_le h0 fun x hx => ?_) (Int.mul_le_mul_of_nonneg_right ?_ h0)
    · obtain ⟨r, hr, rfl⟩ := List.mem_map.mp hx
      exact (h.2 r (List.mem_filter.mp hr).1).2.2.2
    · rw [List.length_map]
      have := List.length_filter_le (fun p' : List Str × Int => decide (Tim.srt strLt p'.1 = p.1)) W
      have := h.1
      omega
theorem Bd.app {n m L : Nat} {b : Int} {A B : Tab} (hA : Bd n L b A) (hB : Bd m L b B) : Bd (n + m) L b (A ++ B) :=
  ⟨by rw [List.length_append]; exact Nat.add_le_add hA.1 hB.1, fun p hp => (List.mem_append.mp hp).elim (hA.2 p) (hB.2 p)⟩
theorem Bd.prods {n m L M : Nat} {b c : Int} {A B : Tab} (hA : Bd n L b A) (hB : Bd m M c B) (h0 : 0 ≤ b) : Bd (n * m) (L + M) (b * c) (prods A B) :=
  ⟨by rw [prods_len]; exact Nat.mul_le_mul hA.1 hB.1, fun r hr => by
    obtain ⟨p, hp, q, hq, rfl⟩ := prods_mem hr
    obtain ⟨a1, a2, a3, a4⟩ := hA.2 p hp
    obtain ⟨b1, b2, b3, b4⟩ := hB.2 q hq
    refine ⟨fun x hx => (List.mem_append.mp hx).elim (a1 x) (b1 x), ?_, Int.mul_nonneg a3 b3, Int.mul_le_mul a4 b4 b3 h0⟩
    show (p.1 ++ q.1).length ≤ _
    rw [List.length_append]
    exact Nat.add_le_add a2 b2⟩
theorem wsum_nn {W : Tab} (h : NN W) : 0 ≤ wsum W := sum_nn fun x hx => by
  obtain ⟨p, hp, rfl⟩ := List.mem_map.mp hx
  exact h p hp
theorem Bd.wsum {n L : Nat} {b : Int} {W : Tab} (h : Bd n L b W) (h0 : 0 ≤ b) : wsum W ≤ n * b := by
  refine Int.le_trans (sum_le h0 fun x hx => ?_) (Int.mul_le_mul_of_nonneg_right ?_ h0)
  · obtain ⟨r, hr, rfl⟩ := List.mem_map.mp hx
    exact (h.2 r hr).2.2.2
  · rw [List.length_map]
    have := h.1
    omega
end Wy
namespace Wy
open PySem L2
abbrev BW (W : Tab) : Prop := Bd 200 1000 (2 ^ 599) W
def WA (H : Hp) (l : Addr) (W : Tab) : Prop := ∃ xs, H l = some (.lst xs) ∧ Paired (PlAt H) xs W ∧ BW W
theorem WA.same {H H' : Hp} {l : Addr} {W : Tab} (h : WA H l W) (s : Same H H') : WA H' l W := by
  obtain ⟨xs, h1, h2, h3⟩ := h
  exact ⟨xs, s _ _ h1, pl_keep (Same.keepT s) h2, h3⟩
theorem WA.bd {H : Hp} {l : Addr} {W : Tab} (h : WA H l W) : BW W := by
  obtain ⟨xs, h1, h2, h3⟩ := h
  exact h3
theorem WA.dat {K : PySem.W.Frag} {H : Hp} {l : Addr} {W : Tab} (h : WA H l W) : Dat K H (.list (whyD W)) (.ref l) := by
  obtain ⟨xs, h1, h2, h3⟩ := h
  exact .lst (SqL.of h1) (pls_dats h2 fun p hp => (h3.2 p hp).1)
noncomputable def WA.xs {H : Hp} {l : Addr} {W : Tab} (h : WA H l W) : List V := Classical.choose h
theorem WA.lst {H : Hp} {l : Addr} {W : Tab} (h : WA H l W) : H l = some (.lst h.xs) := (Classical.choose_spec h).1
theorem WA.prd {H : Hp} {l : Addr} {W : Tab} (h : WA H l W) : Paired (PlAt H) h.xs W := (Classical.choose_spec h).2.1
theorem WA.copy {H : Hp} {l q : Addr} {W : Tab} (h : WA H l W) (hq : H q = none) : WA (upd H q (.lst h.xs)) q W := ⟨h.xs, upd_same, pl_keep (Same.keepT (same_upd hq)) h.prd, h.bd⟩
theorem WA.ok2 {H G : Hp} {a b : Addr} {A B : Tab} (wa : WA H a A) (wb : WA G b B) : ∀ p ∈ A ++ B, (∀ x ∈ p.1, PyData.strOk x = true) ∧ p.1.length ≤ 1000 ∧ 0 ≤ p.2 ∧ p.2 < 2 ^ 600 := fun p hp => by
  have h : (∀ x ∈ p.1, PyData.strOk x = true) ∧ p.1.length ≤ 1000 ∧ 0 ≤ p.2 ∧ p.2 ≤ 2 ^ 599 := (List.mem_append.mp hp).elim (wa.bd.2 p) (wb.bd.2 p)
  exact ⟨h.1, h.2.1, h.2.2.1, Int.lt_of_le_of_lt h.2.2.2 (by decide)⟩
theorem WA.few {H : Hp} {a : Addr} {A : Tab} (wa : WA H a A) : A.length ≤ 10000 := Nat.le_trans wa.bd.1 (by decide)
theorem WA.res {H : Hp} {l : Addr} {zs : List V} {ps : Tab} (hl : H l = some (.lst zs)) (hz : ∀ H2, KeepT H H2 → Paired (PlAt H2) zs (told (gath ps))) (bd : BW (tg ps)) : WA H l (tg ps) := ⟨zs, hl, hz H fun _ _ z => z, bd⟩
end Wy
namespace Wy
open PySem L2
theorem WOk.bw {W : Tab} (h : WOk W) (l : W.length ≤ 200) : BW W := ⟨l, fun p hp => by
  obtain ⟨h1, h2, h3, h4, h5⟩ := h.2 p hp
  refine ⟨fun x hx => (h4 x hx).ok, Nat.le_trans h3 (by decide), by omega, Int.le_of_lt (Int.lt_trans h5 (by decide))⟩⟩
theorem eqv_why {K : PySem.W.Frag} {H : Hp} {l : Addr} {W : Tab} (w : WA H l W) : PyData.eqv (.list (whyD W)) (.list (whyD W)) = true := SeqAt.eqv_refl _ (Dat.lay _ _ (w.dat (K := K)))
theorem BW.filter {W : Tab} (h : BW W) (f : List Str × Int → Bool) : BW (W.filter f) := ⟨Nat.le_trans (List.length_filter_le _ _) h.1, fun p hp => h.2 p (List.mem_filter.mp hp).1⟩
theorem cut_butlast (xs : List V) : cutV xs none (some (-1)) = xs.take (xs.length - 1) := by
  unfold cutV
  rw [HT.sIx_none, List.drop_zero]
  congr 1
  have e : HT.sIx xs.length xs.length (some (-1)) = (-1 + (xs.length : Int)).toNat := by
    show (if (-1 : Int) < 0 then (-1 + (xs.length : Int)).toNat else min (-1 : Int).toNat xs.length) = _
    rw [if_pos (by decide)]
  rw [e]
  omega
end Wy
namespace Wy
open PySem L2
theorem fact_at {H : Hp} {l t t0 : Addr} {z : Str} (hz : PyData.strOk z = true) (h0 : H t0 = none) (h1 : upd H t0 (.tup [.str z]) t = none) (h2 : upd (upd H t0 (.tup [.str z])) t (.tup [.ref t0, .int 1]) l = none) : WA (upd (upd (upd H t0 (.tup [.str z])) t (.tup [.ref t0, .int 1])) l (.lst [.ref t])) l [([z], 1)] := by
  refine ⟨_, upd_same, .cons ⟨t, t0, rfl, (same_upd h2) _ _ upd_same, (same_upd h2) _ _ ((same_upd h1) _ _ upd_same)⟩ .nil, (by show 1 ≤ 200; decide), fun p hp => ?_⟩
  rw [List.mem_singleton.mp hp]
  refine ⟨fun x hx => ?_, by show 1 ≤ 1000; decide, ?_, ?_⟩
  · rw [List.mem_singleton.mp hx]
    exact hz
  · show (0 : Int) ≤ 1
    decide
  · show (1 : Int) ≤ 2 ^ 599
    decide
section
variable {P : Program} {w : World} {K : PySem.W.Frag} {mg : Str → Option Value} {base : Heap}
def sp_fact : Sp := fun vs H Q _ => ∃ (z : Str), vs = [.str z] ∧ PyData.strOk z = true ∧ ∀ l H', Same H H' → H l = none → WA H' l [([z], 1)] → Q (.ref l) H'
theorem ok_of_fact (T : Txt K mg) : Def P w K mg base 1 "of_fact" ["name"] sp_fact := by
  refine T.t_of_fact.ok sc_of_fact (fun vs H Q E h => ?_) fun f cdv A outer s H vs Q E hr h => ?_
  · obtain ⟨z, rfl, _⟩ := h
    rfl
  · obtain ⟨z, rfl, hz, k⟩ := h
    refine ⟨_, (pss_one (ps_ret (pe_lst (pa_1 (pe_tup (pa_2 (pe_tup (pa_1 (pv 0))) pe_int)))))), ?_⟩
    refine ⟨_, rfl, by show 1 ≤ sizeLine; decide, fun t0 h0 => ⟨by show 2 ≤ sizeLine; decide, fun t h1 => ⟨by show 1 ≤ sizeLine; decide, fun l h2 => ?_⟩⟩⟩
    have sm := (same_upd (o := HO.tup [.str z]) h0).trans ((same_upd (o := HO.tup [.ref t0, .int 1]) h1).trans (same_upd (o := HO.lst [.ref t]) h2))
    exact k l _ sm (((same_upd h0).trans (same_upd h1)).free h2) (fact_at hz h0 h1 h2)
end
end Wy
namespace Wy
open PySem L2
abbrev Sub := Str → Tab
def NS (D : Sub) : Prop := ∀ x, NN (D x)
def Phi (D : Sub) : List Str → (List Str → Int) → Int
  | [], F => F []
  | x :: p, F => lin (fun m => Phi D p (fun n => F (m ++ n))) (D x)
theorem phi_congr (D : Sub) (p : List Str) {F G : List Str → Int} (h : ∀ n, F n = G n) : Phi D p F = Phi D p G := by
  have : F = G := funext h
  rw [this]
theorem phi_swap (D : Sub) (B : Tab) : ∀ (p : List Str) (F : List Str → List Str → Int), Phi D p (fun n => lin (fun m => F n m) B) = lin (fun m => Phi D p (fun n => F n m)) B
  | [], F => rfl
  | x :: p, F => by
    show lin (fun k => Phi D p (fun n => lin (fun m => F (k ++ n) m) B)) (D x) = lin (fun m => lin (fun k => Phi D p (fun n => F (k ++ n) m)) (D x)) B
    rw [← lin_swap]
    exact lin_congr (fun k => phi_swap D B p fun n m => F (k ++ n) m) _
theorem phi_app (D : Sub) (q : List Str) : ∀ (p : List Str) (F : List Str → Int), Phi D (p ++ q) F = Phi D p (fun n => Phi D q (fun m => F (n ++ m)))
  | [], F => rfl
  | x :: p, F => by
    show lin (fun k => Phi D (p ++ q) (fun n => F (k ++ n))) (D x) = lin (fun k => Phi D p (fun n => Phi D q (fun m => F ((k ++ n) ++ m)))) (D x)
    refine lin_congr (fun k => ?_) _
    rw [phi_app D q p]
    exact phi_congr D p fun n => phi_congr D q fun m => by rw [List.append_assoc]
theorem phi_right (D : Sub) (p : List Str) {F : List Str → Int} (h : PI F) : PI fun n => Phi D p (fun m => F (n ++ m)) := fun _ _ z => phi_congr D p fun m => h _ _ (z.append_right m)
theorem phi_perm (D : Sub) {p q : List Str} (h : p.Perm q) : ∀ {F : List Str → Int}, PI F → Phi D p F = Phi D q F := by
  induction h with
  | nil => exact fun _ => rfl
  | cons x _ ih => exact fun hF => lin_congr (fun m => ih (hF.left m)) _
  | swap x y l =>
    intro F hF
    show lin (fun m => lin (fun k => Phi D l (fun n => F (m ++ (k ++ n)))) (D x)) (D y) = lin (fun m => lin (fun k => Phi D l (fun n => F (m ++ (k ++ n)))) (D y)) (D x)
    rw [lin_swap]
    refine lin_congr (fun m => lin_congr (fun k => phi_congr D l fun n => hF _ _ ?_) _) _
    rw [← List.append_assoc, ← List.append_assoc]
    exact List.perm_append_comm.append_right n
  | trans _ _ ih1 ih2 => exact fun hF => (ih1 hF).trans (ih2 hF)
theorem phi_pi (D : Sub) {F : List Str → Int} (h : PI F) : PI fun p => Phi D p F := fun _ _ z => phi_perm D z h
def fillP (D : Sub) (S : Tab) : List Str → Tab
  | [] => S
  | x :: p => fillP D (tg (prods S (D x))) p
theorem fillP_snoc (D : Sub) (x : Str) : ∀ (p : List Str) (S : Tab), fillP D S (p ++ [x]) = tg (prods (fillP D S p) (D x))
  | [], S => rfl
  | y :: p, S => fillP_snoc D x p _
theorem fillP_nn {D : Sub} : ∀ (p : List Str) {S : Tab}, NN S → NN (fillP D S p)
  | [], _, h => h
  | _ :: p, _, _ => fillP_nn p (tg_nn _)
theorem fillP_lin {D : Sub} (hD : NS D) {G : List Str → Int} (hG : PI G) : ∀ (p : List Str) {S : Tab}, NN S → lin G (fillP D S p) = lin (fun n => Phi D p (fun m => G (n ++ m))) S
  | [], S, _ => lin_congr (fun n => by show G n = G (n ++ []); rw [List.append_nil]) S
  | x :: p, S, h => by
    show lin G (fillP D (tg (prods S (D x))) p) = _
    rw [fillP_lin hD hG p (tg_nn _), lin_tg (phi_right D p hG) (nn_prods h (hD x)), lin_prods]
    refine lin_congr (fun n => ?_) S
    show lin (fun k => Phi D p (fun m => G ((n ++ k) ++ m))) (D x) = lin (fun k => Phi D p (fun m => G (n ++ (k ++ m)))) (D x)
    exact lin_congr (fun k => phi_congr D p fun m => by rw [List.append_assoc]) _
def flatF (D : Sub) (W : Tab) : Tab := W.flatMap fun p => fillP D [([], p.2)] p.1
theorem one_nn {w : Int} (h : 0 ≤ w) : NN [(([] : List Str), w)] := fun p hp => by
  rw [List.mem_singleton.mp hp]
  exact h
theorem flat_nn {D : Sub} {W : Tab} (h : NN W) : NN (flatF D W) := fun r hr => by
  obtain ⟨p, hp, hr⟩ := List.mem_flatMap.mp hr
  exact fillP_nn p.1 (one_nn (h p hp)) r hr
theorem flat_lin {D : Sub} (hD : NS D) {F : List Str → Int} (hF : PI F) : ∀ {W : Tab}, NN W → lin F (flatF D W) = lin (fun p => Phi D p F) W
  | [], _ => rfl
  | p :: W, h => by
    have e : flatF D (p :: W) = fillP D [([], p.2)] p.1 ++ flatF D W := rfl
    rw [e, lin_app, lin_cons, flat_lin hD hF fun q hq => h q (List.mem_cons_of_mem _ hq), fillP_lin hD hF p.1 (one_nn (h p (List.mem_cons_self ..)))]
    congr 1
    show p.2 * Phi D p.1 (fun m => F ([] ++ m)) + 0 = _
    rw [Int.add_zero]
    rfl
theorem f_times {D : Sub} (hD : NS D) {A B : Tab} (hA : NN A) (hB : NN B) : tg (flatF D (tg (prods A B))) = tg (prods (tg (flatF D A)) (tg (flatF D B))) := tg_eq fun F hF => by
  rw [flat_lin hD hF (tg_nn _), lin_tg (phi_pi D hF) (nn_prods hA hB), prods_tg1 hF (flat_nn hA), prods_tg2 hF (flat_nn hB), lin_prods, lin_prods]
  have e : ∀ n, lin (fun m => F (n ++ m)) (flatF D B) = lin (fun b => Phi D b (fun m => F (n ++ m))) B := fun n => flat_lin hD (hF.left n) hB
  rw [lin_congr e, flat_lin hD (fun n m z => lin_congr (fun b => phi_congr D b fun k => hF _ _ (z.append_right k)) B) hA]
  refine lin_congr (fun a => ?_) A
  show lin (fun b => Phi D (a ++ b) F) B = Phi D a (fun n => lin (fun b => Phi D b (fun m => F (n ++ m))) B)
  rw [phi_swap]
  exact lin_congr (fun b => phi_app D b a F) B
def factT (x : Str) : Tab := [([x], 1)]
theorem fact_nn (x : Str) : NN (factT x) := fun p hp => by
  rw [List.mem_singleton.mp hp]
  show (0 : Int) ≤ 1
  decide
def Bs (n L : Nat) (c : Int) (W : Tab) : Prop := W.length ≤ n ∧ (∀ p ∈ W, (∀ x ∈ p.1, PyData.strOk x = true) ∧ p.1.length ≤ L ∧ 0 ≤ p.2) ∧ wsum W ≤ c
theorem Bs.nn {n L : Nat} {c : Int} {W : Tab} (h : Bs n L c W) : NN W := fun p hp => (h.2.1 p hp).2.2
theorem Bs.bw {n L : Nat} {c : Int} {W : Tab} (h : Bs n L c W) (h1 : n ≤ 200) (h2 : L ≤ 1000) (h3 : c ≤ 2 ^ 599) : BW W := ⟨Nat.le_trans h.1 h1, fun p hp => by
  obtain ⟨a, b, d⟩ := h.2.1 p hp
  refine ⟨a, Nat.le_trans b h2, d, Int.le_trans (Int.le_trans ?_ h.2.2) h3⟩
  exact sum_ge (fun x hx => by obtain ⟨q, hq, rfl⟩ := List.mem_map.mp hx; exact h.nn q hq) (List.mem_map.mpr ⟨p, hp, rfl⟩)⟩
theorem Bs.le {n L n' L' : Nat} {c c' : Int} {W : Tab} (h : Bs n L c W) (h1 : n ≤ n') (h2 : L ≤ L') (h3 : c ≤ c') : Bs n' L' c' W :=
  ⟨Nat.le_trans h.1 h1, fun p hp => let ⟨a, b, d⟩ := h.2.1 p hp; ⟨a, Nat.le_trans b h2, d⟩, Int.le_trans h.2.2 h3⟩
theorem Bs.tg {n L : Nat} {c : Int} {W : Tab} (h : Bs n L c W) : Bs n L c (tg W) := by
  obtain ⟨g1, g2, g3, g4⟩ := gath_facts W.length W rfl
  refine ⟨Nat.le_trans (told_len _) (Nat.le_trans g2 h.1), fun p hp => ?_, ?_⟩
  · obtain ⟨m1, m2, m3⟩ := mem_told.mp hp
    obtain ⟨q, hq, e⟩ := List.mem_map.mp ((g3 p.1).mp m1)
    have e' : Tim.srt strLt q.1 = p.1 := e
    obtain ⟨c1, c2, c3⟩ := h.2.1 q hq
    refine ⟨fun x hx => c1 x ((Tim.srt_perm strLt _).mem_iff.mp (e' ▸ hx)), ?_, by omega⟩
    rw [← e', (Tim.srt_perm strLt _).length_eq]
    exact c2
  · rw [wsum_lin, lin_tg (pi_const 1) h.nn, ← wsum_lin]
    exact h.2.2
theorem Bs.app {n m L : Nat} {c d : Int} {A B : Tab} (hA : Bs n L c A) (hB : Bs m L d B) : Bs (n + m) L (c + d) (A ++ B) :=
  ⟨by rw [List.length_append]; exact Nat.add_le_add hA.1 hB.1, fun p hp => (List.mem_append.mp hp).elim (hA.2.1 p) (hB.2.1 p), by rw [wsum_lin, lin_app, ← wsum_lin, ← wsum_lin]; have := hA.2.2; have := hB.2.2; omega⟩
theorem wsum_prods (A B : Tab) : wsum (prods A B) = wsum A * wsum B := by
  rw [wsum_lin, lin_prods, wsum_lin A, wsum_lin B]
  have : ∀ c : Int, lin (fun _ => c) A = lin (fun _ => 1) A * c := fun c => by
    have := lin_mul c (fun _ => 1) A
    rw [Int.mul_one] at this
    rw [this, Int.mul_comm]
  exact this _
theorem Bs.prods {n m L M : Nat} {c d : Int} {A B : Tab} (hA : Bs n L c A) (hB : Bs m M d B) (h0 : 0 ≤ c) : Bs (n * m) (L + M) (c * d) (prods A B) :=
  ⟨by rw [prods_len]; exact Nat.mul_le_mul hA.1 hB.1, fun r hr => by
    obtain ⟨p, hp, q, hq, rfl⟩ := prods_mem hr
    obtain ⟨a1, a2, a3⟩ := hA.2.1 p hp
    obtain ⟨b1, b2, b3⟩ := hB.2.1 q hq
    refine ⟨fun x hx => (List.mem_append.mp hx).elim (a1 x) (b1 x), ?_, Int.mul_nonneg a3 b3⟩
    show (p.1 ++ q.1).length ≤ _
    rw [List.length_append]
    exact Nat.add_le_add a2 b2, by
    rw [wsum_prods]
    exact Int.mul_le_mul hA.2.2 hB.2.2 (wsum_nn hB.nn) h0⟩
theorem ipow_le {d : Int} (h : 1 ≤ d) {a b : Nat} (hab : a ≤ b) : d ^ a ≤ d ^ b := by
  obtain ⟨k, rfl⟩ := Nat.exists_eq_add_of_le hab
  clear hab
  induction k with
  | zero => exact Int.le_refl _
  | succ k ih =>
    rw [← Nat.add_assoc, Int.pow_succ]
    have h1 := Int.mul_le_mul_of_nonneg_left h (Int.pow_nonneg (m := a + k) (show (0 : Int) ≤ d by omega))
    rw [Int.mul_one] at h1
    exact Int.le_trans ih h1
theorem Bs.fillP {m M : Nat} {d : Int} {D : Sub} (hd : 0 ≤ d) : ∀ (p : List Str) (_ : ∀ x ∈ p, Bs m M d (D x)) {n L : Nat} {c : Int} {S : Tab}, Bs n L c S → 0 ≤ c → Bs (n * m ^ p.length) (L + p.length * M) (c * d ^ p.length) (fillP D S p)
  | [], _, n, L, c, S, h, _ => by
    refine h.le ?_ ?_ ?_ <;> simp
  | x :: p, hD, n, L, c, S, h, h0 => by
    have ih := Bs.fillP hd p (fun y hy => hD y (List.mem_cons_of_mem _ hy)) (h.prods (hD x (List.mem_cons_self ..)) h0).tg (Int.mul_nonneg h0 hd)
    refine ih.le ?_ ?_ ?_
    · rw [List.length_cons, Nat.pow_succ, Nat.mul_assoc, Nat.mul_comm m]
      exact Nat.le_refl _
    · rw [List.length_cons, Nat.add_mul]
      omega
    · rw [List.length_cons, Int.pow_succ, Int.mul_assoc, Int.mul_comm d]
      exact Int.le_refl _
theorem Bs.flat {m M : Nat} {d : Int} {D : Sub} (hD : ∀ x, PyData.strOk x = true → Bs m M d (D x)) (hm : 1 ≤ m) (hd : 1 ≤ d) {L : Nat} : ∀ {W : Tab} {n : Nat} {c : Int}, Bs n L c W → Bs (n * m ^ L) (L * M) (c * d ^ L) (flatF D W)
  | [], n, c, h => ⟨Nat.zero_le _, fun _ z => (nomatch z), by
    have : (0 : Int) ≤ c := h.2.2
    exact Int.mul_nonneg this (Int.pow_nonneg (by omega))⟩
  | p :: W, n, c, h => by
    obtain ⟨hl, hp, hc⟩ := h
    obtain ⟨n, rfl⟩ : ∃ k, n = k + 1 := ⟨n - 1, by rw [List.length_cons] at hl; omega⟩
    obtain ⟨a1, a2, a3⟩ := hp p (List.mem_cons_self ..)
    have hW : Bs n L (c - p.2) W := ⟨by rw [List.length_cons] at hl; omega, fun q hq => hp q (List.mem_cons_of_mem _ hq), by
      have e : wsum (p :: W) = p.2 + wsum W := rfl
      omega⟩
    have ih := Bs.flat hD hm hd hW
    have h1 : Bs 1 0 p.2 [([], p.2)] := ⟨Nat.le_refl _, fun q hq => by
      rw [List.mem_singleton.mp hq]
      exact ⟨fun _ z => (nomatch z), Nat.le_refl _, a3⟩, by show p.2 + 0 ≤ p.2; omega⟩
    have f1 := (Bs.fillP (by omega) p.1 (fun x hx => hD x (a1 x hx)) h1 a3).le (n' := m ^ L) (L' := L * M) (c' := p.2 * d ^ L) (by rw [Nat.one_mul]; exact Nat.pow_le_pow_right hm a2) (by rw [Nat.zero_add]; exact Nat.mul_le_mul_right M a2) (Int.mul_le_mul_of_nonneg_left (ipow_le hd a2) a3)
    have e : flatF D (p :: W) = Wy.fillP D [([], p.2)] p.1 ++ flatF D W := rfl
    rw [e]
    refine (f1.app ih).le ?_ (Nat.le_refl _) ?_
    · rw [Nat.add_mul, Nat.one_mul]
      omega
    · rw [← Int.add_mul]
      exact Int.le_of_eq (by congr 1; omega)
end Wy
namespace Wy
open PySem L2
def FP (H : Hp) (kv : Key × V) (p : Str × Tab) : Prop := kv.1 = Sum.inr p.1 ∧ ∃ l, kv.2 = .ref l ∧ WA H l p.2
abbrev Fill := List (Str × Tab)
def FD (H : Hp) (d : Addr) (D : Fill) : Prop := ∃ kvs, Rd H d (.dK kvs) ∧ Paired (FP H) kvs D
def fget (D : Fill) (x : Str) : Option Tab := (D.find? fun p => decide (p.1 = x)).map (·.2)
def sb (D : Fill) : Sub := fun x => (fget D x).getD (factT x)
theorem fp_same {H H' : Hp} (s : Same H H') : ∀ {kvs : List (Key × V)} {D : Fill}, Paired (FP H) kvs D → Paired (FP H') kvs D
  | _, _, .nil => .nil
  | _, _, .cons ⟨e, l, e2, w⟩ r => .cons ⟨e, l, e2, w.same s⟩ (fp_same s r)
theorem Rd.same {H H' : Hp} {d : Addr} {o : HO} (h : Rd H d o) (s : Same H H') : Rd H' d o := h.imp (s _ _) fun ⟨ob, e⟩ => ⟨ob, s _ _ e⟩
theorem FD.same {H H' : Hp} {d : Addr} {D : Fill} (h : FD H d D) (s : Same H H') : FD H' d D := by
  obtain ⟨kvs, h1, h2⟩ := h
  exact ⟨kvs, Wy.Rd.same h1 s, fp_same s h2⟩
theorem fp_get (x : Str) {H : Hp} : ∀ {kvs : List (Key × V)} {D : Fill}, Paired (FP H) kvs D → (valV kvs (Sum.inr x) = none ∧ fget D x = none) ∨ ∃ l W, valV kvs (Sum.inr x) = some (.ref l) ∧ fget D x = some W ∧ WA H l W
  | _, _, .nil => .inl ⟨rfl, rfl⟩
  | kv :: kvs, p :: D, .cons ⟨e, l, e2, w⟩ r => by
    by_cases h : p.1 = x
    · refine .inr ⟨l, p.2, ?_, ?_, w⟩
      · unfold valV
        rw [List.find?_cons_of_pos (by rw [e, h]; simp), ← e2]
        rfl
      · unfold fget
        rw [List.find?_cons_of_pos (by simpa using h)]
        rfl
    · have hk : ¬ kv.1 = Sum.inr x := fun z => h (by rw [e] at z; injection z)
      have e1 : valV (kv :: kvs) (Sum.inr x) = valV kvs (Sum.inr x) := by
        unfold valV
        rw [List.find?_cons_of_neg (by simpa using hk)]
      have e3 : fget (p :: D) x = fget D x := by
        unfold fget
        rw [List.find?_cons_of_neg (by simpa using h)]
      rw [e1, e3]
      exact fp_get x r
theorem way_at {H : Hp} {l t t0 : Addr} {w : Int} (hb : BW [([], w)]) (h0 : H t0 = none) (h1 : upd H t0 (.tup []) t = none) (h2 : upd (upd H t0 (.tup [])) t (.tup [.ref t0, .int w]) l = none) : WA (upd (upd (upd H t0 (.tup [])) t (.tup [.ref t0, .int w])) l (.lst [.ref t])) l [([], w)] :=
  ⟨_, upd_same, .cons ⟨t, t0, rfl, (same_upd h2) _ _ upd_same, (same_upd h2) _ _ ((same_upd h1) _ _ upd_same)⟩ .nil, hb⟩
section
variable {P : Program} {w : World} {K : PySem.W.Frag} {mg : Str → Option Value} {base : Heap}
def sp_pfilled : Sp := fun vs H Q _ => ∃ (b d : Addr) (p : List Str) (n : Int) (D : Fill), vs = [.ref b, .int n, .ref d] ∧ H b = some (.tup (p.map V.str)) ∧ FD H d D ∧ (∀ x ∈ p, PyData.strOk x = true) ∧ (∀ i, BW (fillP (sb D) [([], n)] (p.take i))) ∧
  ∀ l H', Same H H' → H l = none → WA H' l (fillP (sb D) [([], n)] p) → Q (.ref l) H'
theorem ok_product_filled (T : Txt K mg) : Def P w K mg base 3 "product_filled" ["product", "ways", "whys"] sp_pfilled := by
  refine T.t_product_filled.ok sc_product_filled (fun vs H Q E h => ?_) fun f cdv A outer s H vs Q E hr h => ?_
  · obtain ⟨b, d, p, n, D, rfl, _⟩ := h
    rfl
  · obtain ⟨b, d, p, n, D, rfl, hb, hD, hok, hbw, k⟩ := h
    refine ⟨_, (pss_3
      (ps_set (i := 3) sc_product_filled.nd rfl (Or.inl rfl) (pe_lst (pa_1 (pe_tup (pa_2 (pe_tup pa_nil) (pv 1))))))
      (ps_for PassesOwn.never rfl (pi_tupK K (pv 0)) (pg_name (i := 4) sc_product_filled.nd rfl (Or.inl rfl)) (pss_one (ps_set (i := 3) sc_product_filled.nd rfl (Or.inl rfl) (pe_def (ok_times T) hr rfl (pa_2 (pv 3) (pe_dget2 (hu_of hr) (pv 2) (pv 4) (pe_def (ok_of_fact T) hr rfl (pa_1 (pv 4))) ⟨rfl, rfl, rfl, rfl⟩))))))
      (ps_ret (pv 3))), ?_⟩
    refine ⟨by show 0 ≤ sizeLine; decide, fun t0 h0 => ⟨_, rfl, by show 2 ≤ sizeLine; decide, fun t h1 => ⟨by show 1 ≤ sizeLine; decide, fun l h2 => ?_⟩⟩⟩
    have s1 := (same_upd (o := HO.tup []) h0).trans ((same_upd (o := HO.tup [.ref t0, .int n]) h1).trans (same_upd (o := HO.lst [.ref t]) h2))
    have hln : H l = none := ((same_upd h0).trans (same_upd h1)).free h2
    have w1 := way_at (show BW [([], n)] from hbw 0) h0 h1 h2
    generalize upd (upd (upd H t0 (.tup [])) t (.tup [.ref t0, .int n])) l (.lst [.ref t]) = H1 at *
    refine ⟨_, rfl, b, rfl, ⟨_, SqT.of (s1 _ _ hb)⟩, for_tup (xs := p.map V.str) (fun i σ G => Same H G ∧ ∃ l v, σ = [some (.ref b), some (.int n), some (.ref d), some (.ref l), v] ∧ H l = none ∧ WA G l (fillP (sb D) [([], n)] (p.take i))) ⟨s1, l, _, rfl, hln, w1⟩ (fun i σ G _ z => SqT.of (z.1 _ _ hb)) ?_ ?_⟩
    · rintro i x σ G hx ⟨sg, l, v, rfl, hln, wl⟩
      rw [List.getElem?_map] at hx
      obtain ⟨z, hz, rfl⟩ := Option.map_eq_some_iff.mp hx
      have hzm := List.mem_of_getElem? hz
      have hDg := hD.same sg
      obtain ⟨kvs, hrd, hpr⟩ := hDg
      have bi := hbw (i + 1)
      have est : p.take (i + 1) = p.take i ++ [z] := by
        rw [List.take_succ, hz]
        rfl
      rw [est, fillP_snoc] at bi
      refine ⟨_, rfl, _, rfl, d, rfl, .inl ⟨_, hrd⟩, _, rfl, _, rfl, z, rfl, hok z hzm, fun lf G2 s2 _ wf => ?_⟩
      have hpr2 := fp_same s2 hpr
      have hrd2 := Wy.Rd.same hrd s2
      have hget : DGet G2 d (.str z) (valV kvs (Sum.inr z)) := .inl ⟨kvs, Sum.inr z, hrd2, rfl, rfl⟩
      obtain ⟨lw, hlw, ww⟩ : ∃ lw, (valV kvs (Sum.inr z)).getD (.ref lf) = .ref lw ∧ WA G2 lw (sb D z) := by
        rcases fp_get z hpr2 with ⟨e1, e2⟩ | ⟨l2, W2, e1, e2, w2⟩
        · exact ⟨lf, by rw [e1]; rfl, by unfold sb; rw [e2]; exact wf⟩
        · exact ⟨l2, by rw [e1]; rfl, by unfold sb; rw [e2]; exact w2⟩
      refine ⟨_, hget, ?_⟩
      rw [hlw]
      have wl2 := wl.same s2
      refine ⟨_, _, _, _, _, _, rfl, wl2.lst, ww.lst, wl2.prd, ww.prd, wl2.bd.1, ww.bd.1, wl2.ok2 ww, fun o zs G3 s3 hl3 hn3 hz3 => ?_⟩
      refine ⟨sg.trans (s2.trans s3), o, _, rfl, (sg.trans s2).free hn3, ?_⟩
      rw [est, fillP_snoc]
      exact WA.res hl3 hz3 bi
    · rintro σ G ⟨sg, l, v, rfl, hln, wl⟩
      rw [List.length_map, List.take_length] at wl
      exact ⟨_, rfl, k l G sg hln wl⟩
def FillOk (D : Fill) (W : Tab) : Prop := (∀ p ∈ W, ∀ i, BW (fillP (sb D) [([], p.2)] (p.1.take i))) ∧ (flatF (sb D) W).length ≤ 10000 ∧ BW (tg (flatF (sb D) W))
def sp_filled : Sp := fun vs H Q _ => ∃ (l d : Addr) (W : Tab) (D : Fill), vs = [.ref l, .ref d] ∧ WA H l W ∧ FD H d D ∧ FillOk D W ∧ ∀ q H', Same H H' → H q = none → WA H' q (tg (flatF (sb D) W)) → Q (.ref q) H'
theorem flat_take {D : Sub} {W : Tab} {i : Nat} {p : List Str × Int} (h : W[i]? = some p) : flatF D (W.take (i + 1)) = flatF D (W.take i) ++ fillP D [([], p.2)] p.1 := by
  unfold flatF
  rw [List.take_succ, h, List.flatMap_append]
  congr 1
  simp
theorem flat_len_take {D : Sub} (W : Tab) (i : Nat) : (flatF D (W.take i)).length ≤ (flatF D W).length := by
  have : flatF D W = flatF D (W.take i) ++ flatF D (W.drop i) := by
    unfold flatF
    rw [← List.flatMap_append, List.take_append_drop]
  rw [this, List.length_append]
  omega
theorem ok_filled (T : Txt K mg) : Def P w K mg base 4 "filled" ["why", "whys"] sp_filled := by
  refine T.t_filled.ok sc_filled (fun vs H Q E h => ?_) fun f cdv A outer s H vs Q E hr h => ?_
  · obtain ⟨l, d, W, D, rfl, _⟩ := h
    rfl
  · obtain ⟨l, d, W, D, rfl, ⟨xs, hl, hp, hb⟩, hD, ⟨f1, f2, f3⟩, k⟩ := h
    have xl := Paired.length hp
    refine ⟨_, (pss_3
      (ps_set (i := 2) sc_filled.nd rfl (Or.inl rfl) (pe_lst pa_nil))
      (ps_for PassesOwn.never rfl (pi_listK K (pv 0)) (pg_tup rfl (pgs_cons (pg_name (i := 3) sc_filled.nd rfl (Or.inl rfl)) (pgs_cons (pg_name (i := 4) sc_filled.nd rfl (Or.inl rfl)) pgs_nil))) (pss_one (ps_expr (pe_bm PySem.F.plainAttrs_list PySem.F.slot_list_extend PySem.F.type_list_extend mt_extend (pv 2) (pa_1 (pe_def (ok_product_filled T) hr rfl (pa_3 (pv 3) (pv 4) (pv 1))))))))
      (ps_ret (pe_def (ok_gathered T) hr rfl (pa_1 (pv 2))))), ?_⟩
    refine ⟨by decide, fun pr hpr => ?_⟩
    have s0 := same_upd (o := HO.lst []) hpr
    refine ⟨_, rfl, l, rfl, ⟨_, SqL.of (s0 _ _ hl)⟩, for_list (xs := xs) (fun i σ G => Same H G ∧ (∃ v1 v2, σ = [some (.ref l), some (.ref d), some (.ref pr), v1, v2]) ∧ ∃ ys, G pr = some (.lst ys) ∧ ∀ H2, KeepT G H2 → Paired (PlAt H2) ys (flatF (sb D) (W.take i))) ⟨s0, ⟨_, _, rfl⟩, [], upd_same, fun _ _ => .nil⟩ (fun i σ G _ z => SqL.of (z.1 _ _ hl)) ?_ ?_⟩
    · rintro i x σ G hx ⟨sg, ⟨v1, v2, rfl⟩, ys, hy, hpy⟩
      obtain ⟨kv, hkv, hpa⟩ := paired_get hp hx
      obtain ⟨q, b, rfl, hq, hb2⟩ := hpa.keep (Same.keepT sg)
      have hm := List.mem_of_getElem? hkv
      refine ⟨_, _, rfl, SqT.of hq, rfl, _, _, rfl, _, _, rfl, rfl, ?_⟩
      refine ⟨_, rfl, .inl ⟨rfl, _, SqL.of hy⟩, _, rfl, _, rfl, _, rfl, b, d, kv.1, kv.2, D, rfl, hb2, hD.same sg, (hb.2 kv hm).1, f1 kv hm, fun lp G2 s2 hlp wp => ?_⟩
      have hy2 := s2 _ _ hy
      have yl : ys.length = (flatF (sb D) (W.take i)).length := Paired.length (hpy G fun _ _ z => z)
      have zl := Paired.length wp.prd
      have fl := flat_len_take (D := sb D) W (i + 1)
      rw [flat_take hkv, List.length_append] at fl
      refine ⟨_, _, _, _, rfl, rfl, hy2, wp.lst, Nat.le_trans (show ys.length + wp.xs.length ≤ 1000000 by omega) (by decide), ?_⟩
      refine ⟨(sg.trans s2).set hpr, ⟨_, _, rfl⟩, ys ++ wp.xs, upd_same, fun H5 h5 => ?_⟩
      rw [flat_take hkv]
      have kk : KeepT G2 H5 := (KeepT.upd (fun b ys e => e) hy2).trans h5
      exact paired_app (hpy H5 ((Same.keepT s2).trans kk)) (pl_keep kk wp.prd)
    · rintro σ G ⟨sg, ⟨v1, v2, rfl⟩, ys, hy, hpy⟩
      rw [xl, List.take_length] at hpy
      have hpy1 := hpy G fun _ _ z => z
      refine ⟨_, rfl, pr, ys, flatF (sb D) W, rfl, SqL.of hy, pls_pairs hpy1, by omega, fun p hp' x hx => ?_, fun q zs G2 s2 hq hqn hz => ?_⟩
      · obtain ⟨r, hr1, hr2⟩ := List.mem_flatMap.mp hp'
        have := f1 r hr1 r.1.length
        rw [List.take_length] at this
        exact (this.2 p hr2).1 x hx
      · exact k q G2 (sg.trans s2) (sg.free hqn) (WA.res hq hz f3)
end
end Wy
namespace Wy
open PySem L2
theorem bs_ge {n L : Nat} {c : Int} {W : Tab} (h : Bs n L c W) {p : List Str × Int} (hp : p ∈ W) : p.2 ≤ c :=
  Int.le_trans (sum_ge (fun x hx => by obtain ⟨q, hq, rfl⟩ := List.mem_map.mp hx; exact h.nn q hq) (List.mem_map.mpr ⟨p, hp, rfl⟩)) h.2.2
theorem fill_ok {D : Fill} {W : Tab} {n L m M : Nat} {c d : Int} (hW : Bs n L c W) (hD : ∀ x, PyData.strOk x = true → Bs m M d (sb D x)) (hm : 1 ≤ m) (hd : 1 ≤ d) (h1 : n * m ^ L ≤ 200) (h2 : L * M ≤ 1000) (h3 : c * d ^ L ≤ 2 ^ 599) (h4 : m ^ L ≤ 200) : FillOk D W ∧ Bs (n * m ^ L) (L * M) (c * d ^ L) (tg (flatF (sb D) W)) := by
  have hf := Bs.flat hD hm hd hW
  refine ⟨⟨fun p hp i => ?_, Nat.le_trans hf.1 (Nat.le_trans h1 (by decide)), hf.tg.bw h1 h2 h3⟩, hf.tg⟩
  obtain ⟨a1, a2, a3⟩ := hW.2.1 p hp
  have hl : (p.1.take i).length ≤ L := Nat.le_trans (by rw [List.length_take]; omega) a2
  have hs : Bs 1 0 p.2 [([], p.2)] := ⟨Nat.le_refl _, fun q hq => by
    rw [List.mem_singleton.mp hq]
    exact ⟨fun _ z => (nomatch z), Nat.le_refl _, a3⟩, by show p.2 + 0 ≤ p.2; omega⟩
  refine (Bs.fillP (by omega) (p.1.take i) (fun x hx => hD x (a1 x (List.mem_of_mem_take hx))) hs a3).bw ?_ ?_ ?_
  · rw [Nat.one_mul]
    exact Nat.le_trans (Nat.pow_le_pow_right hm hl) h4
  · rw [Nat.zero_add]
    exact Nat.le_trans (Nat.mul_le_mul_right M hl) h2
  · refine Int.le_trans (Int.mul_le_mul (bs_ge hW hp) (ipow_le hd hl) (Int.pow_nonneg (by omega)) ?_) h3
    exact Int.le_trans a3 (bs_ge hW hp)
theorem fact_bs {x : Str} (h : PyData.strOk x = true) : Bs 1 1 1 (factT x) := ⟨Nat.le_refl _, fun p hp => by
  rw [List.mem_singleton.mp hp]
  refine ⟨fun y hy => by rw [List.mem_singleton.mp hy]; exact h, Nat.le_refl _, ?_⟩
  show (0 : Int) ≤ 1
  decide, by show (1 : Int) + 0 ≤ 1; decide⟩
theorem sb_nn {D : Fill} (h : ∀ p ∈ D, NN p.2) : NS (sb D) := fun x => by
  unfold sb
  cases e : fget D x with
  | none => exact fact_nn x
  | some W =>
    unfold fget at e
    obtain ⟨p, hp, rfl⟩ := Option.map_eq_some_iff.mp e
    exact h p (List.mem_of_find?_eq_some hp)
end Wy
namespace Wy
open PySem L2
def KeepS (H G : Hp) : Prop := (∀ b ys, H b = some (.tup ys) → G b = some (.tup ys)) ∧ ∀ b ys, H b = some (.lst ys) → G b = some (.lst ys)
theorem Same.keepS {H G : Hp} (s : Same H G) : KeepS H G := ⟨fun b ys e => s b _ e, fun b ys e => s b _ e⟩
theorem KeepS.trans {H G F : Hp} (a : KeepS H G) (b : KeepS G F) : KeepS H F := ⟨fun c ys e => b.1 c ys (a.1 c ys e), fun c ys e => b.2 c ys (a.2 c ys e)⟩
theorem KeepS.upd {H G : Hp} {d : Addr} {kvs : List (Key × V)} {o : HO} (k : KeepS H G) (e : G d = some (.dK kvs)) : KeepS H (upd G d o) :=
  ⟨fun b ys h => by rw [upd_ne (fun z => by have := k.1 _ _ h; rw [z, e] at this; cases this)]; exact k.1 b ys h, fun b ys h => by rw [upd_ne (fun z => by have := k.2 _ _ h; rw [z, e] at this; cases this)]; exact k.2 b ys h⟩
theorem KeepS.refl (H : Hp) : KeepS H H := ⟨fun _ _ e => e, fun _ _ e => e⟩
theorem WA.keepS {H G : Hp} {l : Addr} {W : Tab} (w : WA H l W) (k : KeepS H G) : WA G l W := ⟨w.xs, k.2 _ _ w.lst, pl_keep k.1 w.prd, w.bd⟩
theorem fp_keepS {H G : Hp} (k : KeepS H G) : ∀ {kvs : List (Key × V)} {D : Fill}, Paired (FP H) kvs D → Paired (FP G) kvs D
  | _, _, .nil => .nil
  | _, _, .cons ⟨e, l, e2, w⟩ r => .cons ⟨e, l, e2, w.keepS k⟩ (fp_keepS k r)
def fput (D : Fill) (x : Str) (W : Tab) : Fill := if (D.any fun p => decide (p.1 = x)) = true then D.map (fun p => if p.1 = x then (p.1, W) else p) else D ++ [(x, W)]
theorem fp_any {H : Hp} (x : Str) : ∀ {kvs : List (Key × V)} {D : Fill}, Paired (FP H) kvs D → (kvs.any fun kv => decide (kv.1 = Sum.inr x)) = D.any fun p => decide (p.1 = x)
  | _, _, .nil => rfl
  | kv :: kvs, p :: D, .cons ⟨e, _⟩ r => by
    rw [List.any_cons, List.any_cons, fp_any x r]
    congr 1
    rw [e]
    exact decide_eq_decide.mpr ⟨fun z => by injection z, fun z => by rw [z]⟩
theorem fp_put {H : Hp} {x : Str} {l : Addr} {W : Tab} (w : WA H l W) {kvs : List (Key × V)} {D : Fill} (h : Paired (FP H) kvs D) : Paired (FP H) (putK kvs (Sum.inr x) (.ref l)) (fput D x W) := by
  unfold putK fput
  rw [fp_any x h]
  split
  · rename_i hx
    clear hx
    induction h with
    | nil => exact .nil
    | @cons kv p kvs D a r ih =>
      rw [List.map_cons, List.map_cons]
      refine .cons ?_ ih
      obtain ⟨e, l2, e2, w2⟩ := a
      by_cases z : p.1 = x
      · rw [if_pos (by rw [e, z]), if_pos z]
        exact ⟨e, l, rfl, w⟩
      · rw [if_neg (fun q => z (by rw [e] at q; injection q)), if_neg z]
        exact ⟨e, l2, e2, w2⟩
  · exact paired_app h (.cons ⟨rfl, l, rfl, w⟩ .nil)
theorem fput_len (D : Fill) (x : Str) (W : Tab) : (fput D x W).length ≤ D.length + 1 := by
  unfold fput
  split
  · rw [List.length_map]
    omega
  · rw [List.length_append]
    exact Nat.le_refl _
theorem mem_fput {D : Fill} {x : Str} {W : Tab} {p : Str × Tab} (h : p ∈ fput D x W) : p ∈ D ∨ p = (x, W) := by
  unfold fput at h
  split at h
  · obtain ⟨q, hq, e⟩ := List.mem_map.mp h
    by_cases z : q.1 = x
    · rw [if_pos z] at e
      exact .inr (by rw [← e, z])
    · rw [if_neg z] at e
      exact .inl (e ▸ hq)
  · rcases List.mem_append.mp h with h | h
    · exact .inl h
    · exact .inr (List.mem_singleton.mp h)
theorem fget_mem {D : Fill} {x : Str} {W : Tab} (h : fget D x = some W) : (x, W) ∈ D := by
  unfold fget at h
  obtain ⟨p, hp, rfl⟩ := Option.map_eq_some_iff.mp h
  have h1 := List.find?_some hp
  have : p.1 = x := by simpa using h1
  rw [← this]
  exact List.mem_of_find?_eq_some hp
theorem cut_nat (ns : List Int) (lo hi : Nat) : ∃ ms : List Int, cutV (ns.map V.int) (some (lo : Int)) (some (hi : Int)) = ms.map V.int ∧ ms.length ≤ hi - lo := by
  refine ⟨(ns.drop (HT.sIx ns.length 0 (some lo))).take (HT.sIx ns.length ns.length (some hi) - HT.sIx ns.length 0 (some lo)), ?_, ?_⟩
  · unfold cutV
    rw [List.length_map, List.map_take, List.map_drop]
  · rw [List.length_take, List.length_drop, HT.sIx_nat, HT.sIx_nat]
    omega
theorem cut_nat0 (ns : List Int) (hi : Nat) : ∃ ms : List Int, cutV (ns.map V.int) none (some (hi : Int)) = ms.map V.int ∧ ms.length ≤ hi := by
  refine ⟨(ns.drop 0).take (HT.sIx ns.length ns.length (some hi) - 0), ?_, ?_⟩
  · unfold cutV
    rw [List.length_map, List.map_take, List.map_drop]
    rfl
  · rw [List.length_take, List.length_drop, HT.sIx_nat]
    omega
end Wy
namespace Wy
open PySem L2
theorem gath_pos {ps : Tab} (h : ∀ p ∈ ps, 1 ≤ p.2) : ∀ k ∈ (gath ps).map (·.1), 0 < (getA (gath ps) k).getD 0 := fun k hk => by
  obtain ⟨_, _, h3, h4⟩ := gath_facts ps.length ps rfl
  obtain ⟨p, hp, e⟩ := List.mem_map.mp ((h3 k).mp hk)
  rw [h4]
  have h5 : p.2 ≤ ((ps.filter fun q => decide (Tim.srt strLt q.1 = k)).map (·.2)).sum := sum_ge (fun x hx => by
    obtain ⟨q, hq, rfl⟩ := List.mem_map.mp hx
    have := h q (List.mem_filter.mp hq).1
    omega) (List.mem_map.mpr ⟨p, List.mem_filter.mpr ⟨hp, decide_eq_true e⟩, rfl⟩)
  have := h p hp
  omega
theorem told_full {W : Tab} (h : ∀ k ∈ W.map (·.1), 0 < (getA W k).getD 0) : (told W).length = W.length := by
  unfold told
  rw [List.filter_eq_self.mpr, List.length_map, (Tim.srt_perm prodLt _).length_eq, List.length_map]
  intro kv hkv
  obtain ⟨k, hk, rfl⟩ := List.mem_map.mp hkv
  exact decide_eq_true (h k ((Tim.srt_perm prodLt _).mem_iff.mp hk))
def rawP (D : Sub) (S : Tab) : List Str → Tab
  | [] => S
  | x :: p => rawP D (prods S (D x)) p
theorem rawP_snoc (D : Sub) (x : Str) : ∀ (p : List Str) (S : Tab), rawP D S (p ++ [x]) = prods (rawP D S p) (D x)
  | [], S => rfl
  | y :: p, S => rawP_snoc D x p _
theorem rawP_lin (D : Sub) (G : List Str → Int) : ∀ (p : List Str) (S : Tab), lin G (rawP D S p) = lin (fun n => Phi D p (fun m => G (n ++ m))) S
  | [], S => lin_congr (fun n => by show G n = G (n ++ []); rw [List.append_nil]) S
  | x :: p, S => by
    show lin G (rawP D (prods S (D x)) p) = _
    rw [rawP_lin D G p, lin_prods]
    refine lin_congr (fun n => ?_) S
    show lin (fun k => Phi D p (fun m => G ((n ++ k) ++ m))) (D x) = lin (fun k => Phi D p (fun m => G (n ++ (k ++ m)))) (D x)
    exact lin_congr (fun k => phi_congr D p fun m => by rw [List.append_assoc]) _
def rawF (D : Sub) (W : Tab) : Tab := W.flatMap fun p => rawP D [([], p.2)] p.1
theorem rawF_lin (D : Sub) (F : List Str → Int) : ∀ (W : Tab), lin F (rawF D W) = lin (fun p => Phi D p F) W
  | [] => rfl
  | p :: W => by
    have e : rawF D (p :: W) = rawP D [([], p.2)] p.1 ++ rawF D W := rfl
    rw [e, lin_app, lin_cons, rawF_lin D F W, rawP_lin D F p.1]
    congr 1
    show p.2 * Phi D p.1 (fun m => F ([] ++ m)) + 0 = _
    rw [Int.add_zero]
    rfl
theorem raw_tg {D : Sub} (hD : NS D) {W : Tab} (hW : NN W) : tg (rawF D W) = tg (flatF D W) := tg_eq fun F hF => by rw [rawF_lin, flat_lin hD hF hW]
theorem rawP_pos {D : Sub} : ∀ (p : List Str) (_ : ∀ x ∈ p, ∀ q ∈ D x, 1 ≤ q.2) {S : Tab}, (∀ q ∈ S, 1 ≤ q.2) → ∀ q ∈ rawP D S p, 1 ≤ q.2
  | [], _, _, h => h
  | x :: p, hD, S, h => rawP_pos p (fun y hy => hD y (List.mem_cons_of_mem _ hy)) fun q hq => by
    obtain ⟨a, ha, b, hb, rfl⟩ := prods_mem hq
    have h1 := h a ha
    have h2 := hD x (List.mem_cons_self ..) b hb
    have := Int.mul_pos (show 0 < a.2 by omega) (show 0 < b.2 by omega)
    show 1 ≤ a.2 * b.2
    omega
theorem Bs.rawP {m M : Nat} {d : Int} {D : Sub} (hd : 0 ≤ d) : ∀ (p : List Str) (_ : ∀ x ∈ p, Bs m M d (D x)) {n L : Nat} {c : Int} {S : Tab}, Bs n L c S → 0 ≤ c → Bs (n * m ^ p.length) (L + p.length * M) (c * d ^ p.length) (rawP D S p)
  | [], _, n, L, c, S, h, _ => by
    refine h.le ?_ ?_ ?_ <;> simp
  | x :: p, hD, n, L, c, S, h, h0 => by
    have ih := Bs.rawP hd p (fun y hy => hD y (List.mem_cons_of_mem _ hy)) (h.prods (hD x (List.mem_cons_self ..)) h0) (Int.mul_nonneg h0 hd)
    refine ih.le ?_ ?_ ?_
    · rw [List.length_cons, Nat.pow_succ, Nat.mul_assoc, Nat.mul_comm m]
      exact Nat.le_refl _
    · rw [List.length_cons, Nat.add_mul]
      omega
    · rw [List.length_cons, Int.pow_succ, Int.mul_assoc, Int.mul_comm d]
      exact Int.le_refl _
theorem raw_ok {D : Fill} {W : Tab} {n L m M : Nat} {c d : Int} (hW : Bs n L c W) (hD : ∀ x, PyData.strOk x = true → Bs m M d (sb D x)) (hm : 1 ≤ m) (hd : 1 ≤ d) (h2 : L * M ≤ 1000) (h3 : c * d ^ L ≤ 2 ^ 599) (h4 : m ^ L ≤ 200) : ∀ p ∈ W, ∀ i, BW (Wy.rawP (sb D) [([], p.2)] (p.1.take i)) := fun p hp i => by
  obtain ⟨a1, a2, a3⟩ := hW.2.1 p hp
  have hl : (p.1.take i).length ≤ L := Nat.le_trans (by rw [List.length_take]; omega) a2
  have hs : Bs 1 0 p.2 [([], p.2)] := ⟨Nat.le_refl _, fun q hq => by
    rw [List.mem_singleton.mp hq]
    exact ⟨fun _ z => (nomatch z), Nat.le_refl _, a3⟩, by show p.2 + 0 ≤ p.2; omega⟩
  refine (Bs.rawP (by omega) (p.1.take i) (fun x hx => hD x (a1 x (List.mem_of_mem_take hx))) hs a3).bw ?_ ?_ ?_
  · rw [Nat.one_mul]
    exact Nat.le_trans (Nat.pow_le_pow_right hm hl) h4
  · rw [Nat.zero_add]
    exact Nat.le_trans (Nat.mul_le_mul_right M hl) h2
  · refine Int.le_trans (Int.mul_le_mul (bs_ge hW hp) (ipow_le hd hl) (Int.pow_nonneg (by omega)) ?_) h3
    exact Int.le_trans a3 (bs_ge hW hp)
theorem nodup_le {α : Type} [DecidableEq α] : ∀ {l m : List α}, l.Nodup → (∀ x ∈ l, x ∈ m) → l.length ≤ m.length
  | [], _, _, _ => Nat.zero_le _
  | x :: l, m, h, hs => by
    obtain ⟨h1, h2⟩ := List.nodup_cons.mp h
    have hx := hs x (List.mem_cons_self ..)
    have ih := nodup_le (m := m.erase x) h2 fun y hy => (List.mem_erase_of_ne (fun e : y = x => h1 (e ▸ hy))).mpr (hs y (List.mem_cons_of_mem _ hy))
    rw [List.length_erase_of_mem hx] at ih
    have : 0 < m.length := List.length_pos_of_mem hx
    rw [List.length_cons]
    omega
end Wy
namespace Wy
open PySem L2
section
variable {P : Program} {w : World} {K : PySem.W.Frag} {mg : Str → Option Value} {base : Heap}
def WS (n : Nat) (m : Nat) (ws : List Str) (W : Tab) : Prop := Rise W ∧ W.length ≤ n ∧ ∀ kv ∈ W, 1 ≤ kv.2 ∧ Asc kv.1 ∧ kv.1.length ≤ m ∧ (∀ z ∈ kv.1, z ∈ ws) ∧ kv.2 ≤ (n : Int) * 10 ^ 30
def sp_why : Sp := fun vs H Q _ => ∃ (ca wa : Addr) (cs : List Int) (ws : List Str) (m : Int), vs = [.ref ca, .ref wa, .int m] ∧ H ca = some (.lst (cs.map V.int)) ∧ cs.length ≤ 90 ∧ H wa = some (.lst (ws.map V.str)) ∧ 1 ≤ ws.length ∧ (∀ z ∈ ws, Wz 40 z) ∧ 0 ≤ m ∧ m ≤ 3 ∧
  ∀ l ys W H', Same H H' → H l = none → H' l = some (.lst ys) → (∀ H2, KeepT H' H2 → Paired (PlAt H2) ys W) → WS cs.length m.toNat ws W → Q (.ref l) H'
theorem ok__law_why (T : Txt K mg) : Def P w K mg base 2 "_law_why" ["_law_cells", "_law_words_here", "_law_most"] sp_why := by
  refine T.t__law_why.ok sc__law_why (fun vs H Q E h => ?_) fun f cdv A outer s H vs Q E hr h => ?_
  · obtain ⟨ca, wa, cs, ws, m, rfl, _⟩ := h
    rfl
  · obtain ⟨ca, wa, cs, ws, m, rfl, hca, cl, hwa, wl, hwz, m0, m1, k⟩ := h
    refine ⟨_, (pss_3
      (ps_set (i := 3) sc__law_why.nd rfl (Or.inr rfl) pe_dnewT)
      (ps_for PassesOwn.never rfl (pi_listK K (pv 0)) (pg_name (i := 4) sc__law_why.nd rfl (Or.inl rfl)) (pss_6
      (ps_set (i := 5) sc__law_why.nd rfl (Or.inl rfl) (pe_def (ok__law_stream T) hr rfl (pa_2 (pv 4) (pe_op op_add (pv 2) pe_int))))
      (ps_set (i := 6) sc__law_why.nd rfl (Or.inl rfl) (pe_op op_mod (pe_ix (ix_listK K) (pv 5) pe_int (fun _ _ => rfl)) (pe_op op_add (pv 2) pe_int)))
      (ps_set (i := 7) sc__law_why.nd rfl (Or.inl rfl) (pe_callTy (call_tupleK K) rfl T.b_tuple bt_tuple (pa_1 (pe_callB (call_sortedS K) rfl T.b_sorted bt_sorted (pa_1 (pe_comp (N := ["_law_number", "_law_words_here"]) (caps := [none, some 1]) rfl (by with_unfolding_all rfl) (pi_listK K (pe_slice (sl_listK K) (pv 5) (po_some pe_int) (po_some (pe_op op_add pe_int (pv 6))))) (fun _ _ _ _ _ => (pg_name (i := 0) (show (["_law_number", "_law_words_here"] : List Str).Nodup by decide +kernel) rfl (Or.inl rfl))) (fun _ _ _ _ _ => pf_nil) (fun _ _ _ _ _ => (pe_ix (ix_listK K) (pv 1) (pe_op op_mod (pv 0) (pe_callB (call_lenK K) rfl T.b_len bt_len (pa_1 (pv 1)))) (fun _ _ => rfl)))))))))
      (ps_set (i := 8) sc__law_why.nd rfl (Or.inl rfl) (pe_op op_add pe_int (pe_op op_mod (pe_ix (ix_listK K) (pv 5) pe_int (fun _ _ => rfl)) pe_int)))
      (ps_if (pt_cmpR op_eq (pe_op op_mod (pe_ix (ix_listK K) (pv 5) pe_int (fun _ _ => rfl)) pe_int) pe_int (nomark _)) (pss_one (ps_set (i := 8) sc__law_why.nd rfl (Or.inl rfl) (pe_op op_add pe_int (pe_op op_mod (pv 4) (pe_op op_pow pe_int pe_int))))) pss_nil)
      (ps_dput (hu_of hr) (pv 3) (pv 7) (pe_op op_add (pe_dget2 (hu_of hr) (pv 3) (pv 7) pe_int ⟨rfl, rfl, rfl, rfl⟩) (pv 8)) rfl)))
      (ps_ret (pe_comp (N := ["_law_product", "_law_ways"]) (caps := [none, some 3]) rfl (by with_unfolding_all rfl) (pi_listK K (pe_callB (call_sortedD hr.units rfl K) rfl T.b_sorted bt_sorted (pa_1 (pv 3)))) (fun _ _ _ _ _ => (pg_name (i := 0) (show (["_law_product", "_law_ways"] : List Str).Nodup by decide +kernel) rfl (Or.inl rfl))) (fun _ _ _ _ _ => pf_nil) (fun _ _ _ _ _ => (pe_tup (pa_2 (pv 0) (pe_dget (hu_of hr) (pv 1) (pv 0) (fun _ _ => rfl)))))))), ?_⟩
    refine fun d hd => ?_
    have s1 := same_upd (o := HO.dT []) hd
    refine ⟨_, rfl, ca, rfl, ⟨_, SqL.of (s1 _ _ hca)⟩, for_list (xs := cs.map V.int) (fun i σ G => Same H G ∧ (∃ v1 v2 v3 v4 v5, σ = [some (.ref ca), some (.ref wa), some (.int m), some (.ref d), v1, v2, v3, v4, v5]) ∧ ∃ W : Tab, G d = some (encD W) ∧ (W.map (·.1)).Nodup ∧ W.length ≤ i ∧ ∀ kv ∈ W, 1 ≤ kv.2 ∧ Asc kv.1 ∧ kv.1.length ≤ m.toNat ∧ (∀ z ∈ kv.1, z ∈ ws) ∧ kv.2 ≤ (i : Int) * 10 ^ 30) ⟨s1, ⟨_, _, _, _, _, rfl⟩, [], upd_same, List.nodup_nil, Nat.le_refl _, fun _ z => nomatch z⟩ (fun i σ G _ z => SqL.of (z.1 _ _ hca)) ?_ ?_⟩
    · rintro i x σ G hx ⟨sg, ⟨v1, v2, v3, v4, v5, rfl⟩, W, hW, hnd, hWl, hWk⟩
      rw [List.getElem?_map] at hx
      obtain ⟨c, hci, rfl⟩ := Option.map_eq_some_iff.mp hx
      have icl : i < cs.length := (List.getElem?_eq_some_iff.mp hci).1
      refine ⟨_, rfl, _, rfl, _, _, rfl, rfl, c, m + 3, rfl, by omega, by omega, fun p ns H1 t1 hp hl _ hn => ?_⟩
      have a0 : atI (ns.map V.int) 0 = some (V.int (ns.getD 0 0)) := at_ints (k := 0) (by omega)
      have a1 : atI (ns.map V.int) 1 = some (V.int (ns.getD 1 0)) := at_ints (k := 1) (by omega)
      have a2 : atI (ns.map V.int) 2 = some (V.int (ns.getD 2 0)) := at_ints (k := 2) (by omega)
      refine ⟨_, rfl, _, _, _, _, rfl, rfl, SqL.of hp, a0, _, rfl, _, _, rfl, rfl, _, _, rfl, rfl, (by show (0 : Int) < m + 1; omega), ?_⟩
      refine ⟨_, rfl, _, rfl, _, rfl, _, _, rfl, rfl, _, rfl, _, _, rfl, SqL.of hp, fun q hq => ?_⟩
      obtain ⟨ms, em, lm⟩ : ∃ ms : List Int, cutV (ns.map V.int) (some 3) (some (3 + ns.getD 0 0 % (m + 1))) = ms.map V.int ∧ ms.length ≤ m.toNat := by
        have g0 := Int.emod_nonneg (ns.getD 0 0) (show m + 1 ≠ 0 by omega)
        have g1 := Int.emod_lt_of_pos (ns.getD 0 0) (show 0 < m + 1 by omega)
        have e : (3 + ns.getD 0 0 % (m + 1) : Int) = ((3 + ns.getD 0 0 % (m + 1)).toNat : Int) := by omega
        rw [e]
        obtain ⟨ms, h1, h2⟩ := cut_nat ns 3 (3 + ns.getD 0 0 % (m + 1)).toNat
        exact ⟨ms, h1, by omega⟩
      rw [em]
      have t2 := same_upd (o := HO.lst (ms.map V.int)) hq
      refine ⟨q, rfl, ⟨_, SqL.of upd_same⟩, fun D hD => ?_⟩
      have t3 := same_upd (o := HO.lst []) hD
      refine comp_by (ms.map V.int).length (fun i σ' H' => (∃ v, σ' = [v, some (.ref wa)]) ∧ Same (upd H1 q (.lst (ms.map V.int))) H' ∧ ∃ ys : List Str, H' D = some (.lst (ys.map V.str)) ∧ ys.length = i ∧ ∀ y ∈ ys, y ∈ ws) ⟨⟨_, rfl⟩, t3, [], upd_same, rfl, fun _ z => nomatch z⟩ (fun i σ' H' hi p => ?_) (fun σ' H' p => ⟨?_, ?_⟩) (fun i σ' H' hi p x H2 y => ?_)
      · obtain ⟨_, sm, _⟩ := p
        exact ⟨_, (ms.map V.int)[i], SqL.of (sm _ _ upd_same), List.getElem?_eq_getElem hi⟩
      · obtain ⟨_, sm, _⟩ := p
        exact ⟨_, SqL.of (sm _ _ upd_same), Nat.le_refl _⟩
      · obtain ⟨_, sm, ys, e, yl, hy⟩ := p
        rw [List.length_map] at yl
        have hp' := sm _ _ (t2 _ _ hp)
        refine ⟨_, ys, rfl, .inl (SqL.of e), fun l hl' => ?_⟩
        have u1 := same_upd (o := HO.lst ((Tim.srt strLt ys).map V.str)) hl'
        refine ⟨_, _, rfl, .inl ⟨SqL.of upd_same, fun t ht => ?_⟩⟩
        have u2 := same_upd (o := HO.tup ((Tim.srt strLt ys).map V.str)) ht
        have uA := t1.trans (t2.trans (sm.trans (u1.trans u2)))
        have hp2 := u2 _ _ (u1 _ _ hp')
        have hd2 := uA _ _ hW
        have ht2 : upd (upd H' l (.lst ((Tim.srt strLt ys).map V.str))) t (.tup ((Tim.srt strLt ys).map V.str)) t = some (.tup (((Tim.srt strLt ys).map (Sum.inr : Str → Key)).map kV)) := by
          rw [upd_same, kV_strs]
        generalize upd (upd H' l (.lst ((Tim.srt strLt ys).map V.str))) t (.tup ((Tim.srt strLt ys).map V.str)) = H6 at *
        have slen : (Tim.srt strLt ys).length = ys.length := (Tim.srt_perm strLt _).length_eq
        have fin : ∀ n : Int, 1 ≤ n → n ≤ 10 ^ 30 → (Same H (upd H6 d (.dT (putK ((encI W).map fun kv => (kv.1.map Sum.inr, kv.2)) ((Tim.srt strLt ys).map Sum.inr) (V.int ((getA W (Tim.srt strLt ys)).getD 0 + n))))) ∧ ∃ W' : Tab, upd H6 d (.dT (putK ((encI W).map fun kv => (kv.1.map Sum.inr, kv.2)) ((Tim.srt strLt ys).map Sum.inr) (V.int ((getA W (Tim.srt strLt ys)).getD 0 + n)))) d = some (encD W') ∧ (W'.map (·.1)).Nodup ∧ W'.length ≤ i + 1 ∧ ∀ kv ∈ W', 1 ≤ kv.2 ∧ Asc kv.1 ∧ kv.1.length ≤ m.toNat ∧ (∀ z ∈ kv.1, z ∈ ws) ∧ kv.2 ≤ ((i + 1 : Nat) : Int) * 10 ^ 30) := fun n hn1 hn2 => by
          have ei : ((i + 1 : Nat) : Int) * 10 ^ 30 = (i : Int) * 10 ^ 30 + 10 ^ 30 := by rw [Int.natCast_add, Int.add_mul]; rfl
          refine ⟨(sg.trans uA).set hd, addA W (Tim.srt strLt ys) n, by rw [upd_same, putK_enc]; rfl, nd_put hnd _ _, Nat.le_trans (len_put _ _ _) (Nat.succ_le_succ hWl), fun kv hkv => ?_⟩
          rcases mem_putA hkv with h | h
          · obtain ⟨b1, b2, b3, b4, b5⟩ := hWk kv h
            exact ⟨b1, b2, b3, b4, by rw [ei]; omega⟩
          · rw [h]
            have bb : 1 ≤ (getA W (Tim.srt strLt ys)).getD 0 + n ∧ (getA W (Tim.srt strLt ys)).getD 0 + n ≤ (i : Int) * 10 ^ 30 + 10 ^ 30 := by
              cases hg : getA W (Tim.srt strLt ys) with
              | none => show 1 ≤ 0 + n ∧ 0 + n ≤ _; omega
              | some v =>
                obtain ⟨b1, _, _, _, b5⟩ := hWk _ (get_mem hg)
                have b1' : 1 ≤ v := b1
                have b5' : v ≤ (i : Int) * 10 ^ 30 := b5
                show 1 ≤ v + n ∧ v + n ≤ _
                omega
            exact ⟨bb.1, Tim.srt_asc sto_str _, by rw [slen]; omega, fun z hz => hy z ((Tim.srt_perm strLt _).mem_iff.mp hz), by rw [ei]; exact bb.2⟩
        have hget : DGet H6 d (.ref t) ((getA W (Tim.srt strLt ys)).map V.int) := by
          rw [← valV_enc]
          exact DGet.t hd2 ht2
        have hlen : ((encI W).map fun kv => (kv.1.map (Sum.inr : Str → Key), kv.2)).length < sizeLine := by rw [List.length_map]; unfold encI; rw [List.length_map]; exact small1000 (by omega)
        refine ⟨_, rfl, _, _, _, _, rfl, rfl, SqL.of hp2, a1, _, _, rfl, rfl, (by show (0 : Int) < 3; decide), _, _, rfl, rfl, ?_⟩
        refine ⟨_, rfl, _, _, _, _, rfl, rfl, SqL.of hp2, a2, _, _, rfl, rfl, (by show (0 : Int) < 3; decide), rfl, _, rfl, ite2 (fun h1 => ?_) (fun h1 => ?_)⟩
        · refine ⟨_, rfl, _, _, rfl, rfl, ⟨by decide, by decide, by decide⟩, _, _, rfl, rfl, (by show (0 : Int) < 10 ^ 30; decide), _, _, rfl, rfl, ?_⟩
          refine ⟨_, rfl, _, rfl, .inr ⟨_, .inl hd2⟩, _, rfl, _, hget, _, rfl, (getA W (Tim.srt strLt ys)).getD 0, _, opt_int _, rfl, ?_⟩
          refine ⟨_, rfl, _, rfl, d, _, rfl, DPut.t hd2 ht2 hlen, ?_⟩
          have hc0 := Int.emod_nonneg c (show (10 ^ 30 : Int) ≠ 0 by decide)
          have hc1 := Int.emod_lt_of_pos c (show (0 : Int) < 10 ^ 30 by decide)
          obtain ⟨f1, f2⟩ := fin (1 + c % 10 ^ 30) (by omega) (by omega)
          exact ⟨f1, ⟨_, _, _, _, _, rfl⟩, f2⟩
        · refine ⟨_, rfl, _, rfl, .inr ⟨_, .inl hd2⟩, _, rfl, _, hget, _, rfl, (getA W (Tim.srt strLt ys)).getD 0, _, opt_int _, rfl, ?_⟩
          refine ⟨_, rfl, _, rfl, d, _, rfl, DPut.t hd2 ht2 hlen, ?_⟩
          obtain ⟨f1, f2⟩ := fin (1 + ns.getD 1 0 % 3) (by omega) (by omega)
          exact ⟨f1, ⟨_, _, _, _, _, rfl⟩, f2⟩
      · obtain ⟨⟨v, rfl⟩, sm, ys, e, yl, hy⟩ := p
        obtain ⟨rfl, hx⟩ := y
        have hx' := hx _ (SqL.of (sm _ _ upd_same))
        rw [List.getElem?_map] at hx'
        obtain ⟨n, hni, rfl⟩ := Option.map_eq_some_iff.mp hx'
        have hw' := sm _ _ (t2 _ _ (t1 _ _ (sg _ _ hwa)))
        have wp : (0 : Int) < ((ws.map V.str).length : Int) := by rw [List.length_map]; omega
        have hr0 := Int.emod_nonneg n (show ((ws.map V.str).length : Int) ≠ 0 by omega)
        have hr1 := Int.emod_lt_of_pos n wp
        obtain ⟨v2, hv2, hm2⟩ := atI_in (xs := ws.map V.str) (i := n % ((ws.map V.str).length : Int)) hr0 hr1
        obtain ⟨z, hz, rfl⟩ := List.mem_map.mp hm2
        refine ⟨_, rfl, _, rfl, _, rfl, _, _, rfl, .inl ⟨_, SqL.of hw', rfl⟩, _, _, rfl, rfl, wp, _, _, _, _, rfl, rfl, SqL.of hw', hv2, ?_⟩
        have il : i < ms.length := (List.getElem?_eq_some_iff.mp hni).1
        refine ⟨_, e, by rw [List.length_map, yl]; exact small1000 (by omega), ⟨_, rfl⟩, sm.set hD, ys ++ [z], by rw [upd_same, List.map_append]; rfl, by rw [List.length_append, yl]; rfl, fun y hy' => ?_⟩
        rcases List.mem_append.mp hy' with h | h
        · exact hy y h
        · rw [List.mem_singleton.mp h]
          exact hz
    · rintro σ G ⟨sg, ⟨v1, v2, v3, v4, v5, rfl⟩, W, hW, hnd, hWl, hWk⟩
      rw [List.length_map] at hWl
      refine ⟨_, rfl, d, encI W, rfl, hW, fun l zs hl hz => ?_⟩
      have ek : (encI W).map (·.1) = W.map (·.1) := by unfold encI; rw [List.map_map]; rfl
      rw [ek] at hz
      have u1 := same_upd (o := HO.lst zs) hl
      refine ⟨l, rfl, ⟨_, SqL.of upd_same⟩, fun D2 hD2 => ?_⟩
      have hpl : zs.length = (Tim.srt prodLt (W.map (·.1))).length := Paired.length hz
      have hD2G : G D2 = none := u1.free hD2
      have hSlen : (Tim.srt prodLt (W.map (·.1))).length = W.length := by
        rw [(Tim.srt_perm prodLt _).length_eq, List.length_map]
      have hSmem : ∀ p ∈ Tim.srt prodLt (W.map (·.1)), p ∈ W.map (·.1) := fun p hp => (Tim.srt_perm prodLt _).mem_iff.mp hp
      have hSr : (Tim.srt prodLt (W.map (·.1))).Pairwise fun a b => prodLt a b = true := pw_strict sto_prod (Tim.srt_asc sto_prod _) ((Tim.srt_perm prodLt _).nodup_iff.mpr hnd)
      generalize Tim.srt prodLt (W.map (·.1)) = S at *
      refine comp_by zs.length (fun i σ' H' => (∃ v, σ' = [v, some (.ref d)]) ∧ Same (upd G l (.lst zs)) H' ∧ ∃ ys, H' D2 = some (.lst ys) ∧ (∀ H2, KeepT H' H2 → Paired (PlAt H2) ys ((S.take i).map fun k => (k, (getA W k).getD 0))) ∧ ys.length = i) ⟨⟨_, rfl⟩, same_upd hD2, [], upd_same, fun _ _ => .nil, rfl⟩ (fun i σ' H' hi p => ?_) (fun σ' H' p => ⟨?_, ?_⟩) (fun i σ' H' hi p x H2 y => ?_)
      · obtain ⟨_, sm, _⟩ := p
        exact ⟨_, zs[i], SqL.of (sm _ _ upd_same), List.getElem?_eq_getElem hi⟩
      · obtain ⟨_, sm, _⟩ := p
        exact ⟨_, SqL.of (sm _ _ upd_same), Nat.le_refl _⟩
      · obtain ⟨_, sm, ys, e, hys, yl⟩ := p
        rw [hpl, List.take_length] at hys
        refine k D2 ys _ H' (sg.trans (u1.trans sm)) (sg.free hD2G) e hys ⟨?_, by rw [List.length_map]; omega, fun kv hkv => ?_⟩
        · unfold Rise
          rw [List.map_map]
          exact (List.map_id S).symm ▸ hSr
        · obtain ⟨pr, hpr, rfl⟩ := List.mem_map.mp hkv
          obtain ⟨n, hn, hmem⟩ := told_all hnd (hSmem pr hpr)
          have hh := hWk _ hmem
          rw [List.length_map] at hh
          rw [hn]
          exact hh
      · obtain ⟨⟨v, rfl⟩, sm, ys, e2, hqs, yl⟩ := p
        obtain ⟨rfl, hx⟩ := y
        have hx' := hx _ (SqL.of (sm _ _ upd_same))
        obtain ⟨pr, hpr, b, rfl, hb⟩ := paired_get hz hx'
        obtain ⟨n, hn, hmem⟩ := told_all hnd (hSmem pr (List.mem_of_getElem? hpr))
        have hb2 := sm _ _ (u1 _ _ hb)
        have hget : DGet H2 d (.ref b) (some (.int n)) := by
          have e1 : (some (V.int n)) = valV ((encI W).map fun kv => (kv.1.map (Sum.inr : Str → Key), kv.2)) (pr.map Sum.inr) := by rw [valV_enc, hn]; rfl
          rw [e1]
          exact DGet.t (sm _ _ (u1 _ _ hW)) (by rw [kV_strs]; exact hb2)
        refine ⟨_, rfl, _, rfl, _, rfl, d, _, rfl, hget, by show 2 ≤ sizeLine; decide, fun q hq => ?_⟩
        have u3 := same_upd (o := HO.tup [.ref b, .int n]) hq
        have hqD : q ≠ D2 := fun z => by
          rw [z, e2] at hq
          cases hq
        have hbD : b ≠ D2 := fun z => by
          rw [z, hD2G] at hb
          cases hb
        refine ⟨_, u3 _ _ e2, by rw [yl]; exact small1000 (by omega), ⟨_, rfl⟩, (sm.trans u3).set hD2, ys ++ [.ref q], upd_same, fun H5 h5 => ?_, by rw [List.length_append, yl]; rfl⟩
        rw [List.take_succ, hpr, List.map_append]
        refine paired_snoc (hqs H5 (((Same.keepT u3).upd (u3 _ _ e2)).trans h5)) ⟨q, b, rfl, h5 q _ ?_, h5 b _ (by rw [upd_ne hbD]; exact u3 _ _ hb2)⟩
        rw [upd_ne hqD, upd_same]
        show some (HO.tup [V.ref b, V.int n]) = some (HO.tup [V.ref b, V.int ((getA W pr).getD 0)])
        rw [hn]
        rfl
end
end Wy
namespace Wy
open PySem L2
open PyProof.Rows (pickNums)
theorem ws_bs {n N m : Nat} {ws : List Str} {W : Tab} (h : WS n m ws W) (hn : n ≤ N) (hw : ∀ z ∈ ws, Wz 40 z) : Bs N m ((N : Int) * ((N : Int) * 10 ^ 30)) W := by
  refine ⟨Nat.le_trans h.2.1 hn, fun p hp => ?_, ?_⟩
  · obtain ⟨b1, b2, b3, b4, b5⟩ := h.2.2 p hp
    exact ⟨fun x hx => (hw x (b4 x hx)).ok, b3, by omega⟩
  · have hc : (0 : Int) ≤ (N : Int) * 10 ^ 30 := Int.mul_nonneg (by omega) (by decide)
    have h1 : wsum W ≤ (W.map (·.2)).length * ((N : Int) * 10 ^ 30) := sum_le hc fun x hx => by
      obtain ⟨p, hp, rfl⟩ := List.mem_map.mp hx
      exact Int.le_trans (h.2.2 p hp).2.2.2.2 (Int.mul_le_mul_of_nonneg_right (by omega) (by decide))
    rw [List.length_map] at h1
    exact Int.le_trans h1 (Int.mul_le_mul_of_nonneg_right (by have := h.2.1; omega) hc)
theorem fput_nd {D : Fill} (h : (D.map (·.1)).Nodup) (x : Str) (W : Tab) : ((fput D x W).map (·.1)).Nodup := by
  unfold fput
  split
  · have e : (D.map fun p => if p.1 = x then (p.1, W) else p).map (·.1) = D.map (·.1) := by
      rw [List.map_map]
      refine List.map_congr_left fun p _ => ?_
      show (if p.1 = x then (p.1, W) else p).1 = p.1
      split <;> rfl
    rw [e]
    exact h
  · rename_i hx
    rw [List.map_append]
    refine nd_snoc h fun z => hx ?_
    obtain ⟨p, hp, e⟩ := List.mem_map.mp z
    exact List.any_eq_true.mpr ⟨p, hp, decide_eq_true e⟩
def FS (N : Nat) (W : Tab) : Prop := Bs N 3 ((N : Int) * ((N : Int) * 10 ^ 30)) W ∧ (∀ q ∈ W, 1 ≤ q.2) ∧ BW W
def FF (N : Nat) (D : Fill) : Prop := (∀ p ∈ D, FS N p.2 ∧ PyData.strOk p.1 = true) ∧ (D.map (·.1)).Nodup
section
variable {P : Program} {w : World} {K : PySem.W.Frag} {mg : Str → Option Value} {base : Heap}
def sp_fillings : Sp := fun vs H Q _ => ∃ (ca wa : Addr) (cs : List Int) (ws : List Str) (N : Nat), vs = [.ref ca, .ref wa, .int N] ∧ N ≤ 20 ∧ H ca = some (.lst (cs.map V.int)) ∧ ws.length ≤ cs.length ∧ H wa = some (.lst (ws.map V.str)) ∧ 1 ≤ ws.length ∧ ws.length ≤ 6 ∧ (∀ z ∈ ws, Wz 40 z) ∧
  ∀ d kvs D H', Same H H' → H d = none → H' d = some (.dK kvs) → Paired (FP H') kvs D → FF N D → D.length ≤ 6 → Q (.ref d) H'
theorem ok__law_fillings (T : Txt K mg) : Def P w K mg base 3 "_law_fillings" ["_law_cells", "_law_words_here", "_law_most"] sp_fillings := by
  refine T.t__law_fillings.ok sc__law_fillings (fun vs H Q E h => ?_) fun f cdv A outer s H vs Q E hr h => ?_
  · obtain ⟨ca, wa, cs, ws, N, rfl, _⟩ := h
    rfl
  · obtain ⟨ca, wa, cs, ws, N, rfl, hN, hca, c5, hwa, wl, wl5, hwz, k⟩ := h
    refine ⟨_, (pss_3
      (ps_set (i := 3) sc__law_fillings.nd rfl (Or.inl rfl) pe_dnewK)
      (ps_for PassesOwn.never rfl (pi_range1 rfl T.b_range (pa_1 (pe_callB (call_lenK K) rfl T.b_len bt_len (pa_1 (pv 1))))) (pg_name (i := 4) sc__law_fillings.nd rfl (Or.inl rfl)) (pss_2
      (ps_set (i := 5) sc__law_fillings.nd rfl (Or.inl rfl) (pe_slice3E K (pv 0) (po_some (pv 4)) po_none (po_some (pe_callB (call_lenK K) rfl T.b_len bt_len (pa_1 (pv 1))))))
      (ps_if (pt_cmpR op_eq (pe_op op_mod (pe_ix (ix_listK K) (pv 5) pe_int (fun _ _ => rfl)) pe_int) pe_int (nomark _)) (pss_one (ps_dput (hu_of hr) (pv 3) (pe_ix (ix_listK K) (pv 1) (pv 4) (fun _ _ => rfl)) (pe_lst pa_nil) rfl)) (pss_one (ps_if (pt_cmpR op_ne (pe_op op_mod (pe_ix (ix_listK K) (pv 5) pe_int (fun _ _ => rfl)) pe_int) pe_int (nomark _)) (pss_one (ps_dput (hu_of hr) (pv 3) (pe_ix (ix_listK K) (pv 1) (pv 4) (fun _ _ => rfl)) (pe_def (ok__law_why T) hr rfl (pa_3 (pe_slice (sl_listK K) (pv 5) po_none (po_some (pv 2))) (pv 1) pe_int)) rfl)) pss_nil)))))
      (ps_ret (pv 3))), ?_⟩
    refine fun d hd => ?_
    have s1 := same_upd (o := HO.dK []) hd
    have bN : ((N : Int) * ((N : Int) * 10 ^ 30)) ≤ 2 ^ 599 := by
      have h1 : (N : Int) * 10 ^ 30 ≤ 20 * 10 ^ 30 := Int.mul_le_mul_of_nonneg_right (by omega) (by decide)
      have h2 : (N : Int) * ((N : Int) * 10 ^ 30) ≤ 20 * (20 * 10 ^ 30) := Int.mul_le_mul (by omega) h1 (Int.mul_nonneg (by omega) (by decide)) (by decide)
      exact Int.le_trans h2 (by decide)
    refine ⟨_, rfl, _, _, rfl, .inl ⟨_, SqL.of (s1 _ _ hwa), rfl⟩, _, rfl, by omega, by rw [List.length_map]; omega, for_range (lo := 0) (n := (((ws.map V.str).length : Nat) : Int).toNat) (fun i σ G => Same H G ∧ (∃ v1 v2, σ = [some (.ref ca), some (.ref wa), some (.int N), some (.ref d), v1, v2]) ∧ ∃ kvs D, G d = some (.dK kvs) ∧ Paired (FP G) kvs D ∧ FF N D ∧ D.length ≤ i) ⟨s1, ⟨_, _, rfl⟩, [], [], upd_same, .nil, ⟨fun _ z => (nomatch z), List.nodup_nil⟩, Nat.le_refl _⟩ ?_ ?_⟩
    · rintro i σ G hi ⟨sg, ⟨v1, v2, rfl⟩, kvs, D, hdG, hpD, hF, hl⟩
      rw [List.length_map] at hi
      have hi' : i < ws.length := by omega
      have hwaG := sg _ _ hwa
      have e0 : (0 : Int) + (i : Int) = (i : Int) := by omega
      have kl : kvs.length = D.length := Paired.length hpD
      have wz : (ws.map V.str)[i]? = some (V.str ws[i]) := by rw [List.getElem?_map, List.getElem?_eq_getElem hi']; rfl
      have zok := hwz ws[i] (List.getElem_mem hi')
      have fin : ∀ W, FS N W → FF N (fput D ws[i] W) := fun W hW => ⟨fun p hp => by
        rcases mem_fput hp with h | h
        · exact hF.1 p h
        · rw [h]
          exact ⟨hW, zok.ok⟩, fput_nd hF.2 _ _⟩
      refine ⟨_, rfl, _, rfl, _, rfl, _, rfl, _, _, rfl, .inl ⟨_, SqL.of hwaG, rfl⟩, _, rfl, ca, cs, rfl, SqL.of (sg _ _ hca), ?_, fun q hq hql => ?_⟩
      · intro z
        injection z with z
        rw [List.length_map] at z
        omega
      have pl : 1 ≤ (pickNums cs (some (0 + (i : Int))) none (some ((ws.map V.str).length : Int))).length := by
        rw [pick_len (by omega) (by omega) (by rw [List.length_map]; omega)]
        have : (1 : Int) ≤ ((cs.length : Int) - (0 + (i : Int)) + ((ws.map V.str).length : Int) - 1) / ((ws.map V.str).length : Int) := (Int.le_ediv_iff_mul_le (by rw [List.length_map]; omega)).mpr (by rw [Int.one_mul]; omega)
        omega
      generalize pickNums cs (some (0 + (i : Int))) none (some ((ws.map V.str).length : Int)) = ms at *
      have s2 := same_upd (o := HO.lst (ms.map V.int)) hq
      have hq2 : upd G q (.lst (ms.map V.int)) q = some (.lst (ms.map V.int)) := upd_same
      have b0 : atI (ms.map V.int) 0 = some (V.int (ms.getD 0 0)) := at_ints (k := 0) (by omega)
      have hdG2 := s2 _ _ hdG
      have hpD2 := fp_same s2 hpD
      have hwa2 := s2 _ _ hwaG
      generalize upd G q (.lst (ms.map V.int)) = G2 at *
      have sg2 := sg.trans s2
      refine ⟨_, rfl, _, _, _, _, rfl, rfl, SqL.of hq2, b0, _, _, rfl, rfl, (by show (0 : Int) < 5; decide), rfl, _, rfl, ite2 (fun h1 => ?_) (fun h1 => ?_)⟩
      · refine ⟨by decide, fun n hn => ?_⟩
        have s3 := same_upd (o := HO.lst []) hn
        have bn : BW [] := ⟨Nat.zero_le _, fun _ z => nomatch z⟩
        have wn : WA (upd G2 n (.lst [])) n [] := ⟨[], upd_same, .nil, bn⟩
        have hpD3 := fp_same s3 hpD2
        have w2n : FS N [] := ⟨⟨Nat.zero_le _, fun _ z => (nomatch z), Int.mul_nonneg (by omega) (Int.mul_nonneg (by omega) (by decide))⟩, fun _ z => (nomatch z), bn⟩
        refine ⟨_, rfl, _, rfl, _, rfl, _, _, _, _, rfl, rfl, SqL.of (s3 _ _ hwa2), by rw [e0]; exact atI_nat wz, d, _, rfl, DPut.k (k := Sum.inr ws[i]) (s3 _ _ hdG2) (by rw [kl]; exact small1000 (by omega)), ?_⟩
        have kk : KeepS (upd G2 n (.lst [])) (upd (upd G2 n (.lst [])) d (.dK (putK kvs (Sum.inr ws[i]) (.ref n)))) := (KeepS.refl _).upd (s3 _ _ hdG2)
        exact ⟨(sg2.trans s3).set hd, ⟨_, _, rfl⟩, _, _, upd_same, fp_keepS kk (fp_put wn hpD3), fin _ w2n, Nat.le_trans (fput_len _ _ _) (Nat.succ_le_succ hl)⟩
      · refine ⟨_, rfl, _, _, _, _, rfl, rfl, SqL.of hq2, b0, _, _, rfl, rfl, (by show (0 : Int) < 5; decide), rfl, _, rfl, ite2 (fun h2 => ?_) (fun h2 => ?_)⟩
        · refine ⟨_, rfl, _, rfl, _, rfl, _, _, rfl, SqL.of hq2, fun r hr => ?_⟩
          obtain ⟨ks, ek, lk⟩ := cut_nat0 ms N
          rw [ek]
          have s3 := same_upd (o := HO.lst (ks.map V.int)) hr
          refine ⟨_, rfl, r, wa, ks, ws, 3, rfl, upd_same, by omega, s3 _ _ hwa2, wl, hwz, by decide, by decide, fun n ys W G4 s4 _ hn4 hW4 oW => ?_⟩
          have bs := ws_bs oW lk hwz
          have fs : FS N W := ⟨bs, fun q hq => (oW.2.2 q hq).1, bs.bw (by omega) (by decide) bN⟩
          have wn : WA G4 n W := ⟨ys, hn4, hW4 G4 (fun _ _ z => z), fs.2.2⟩
          have s34 := s3.trans s4
          have hpD3 := fp_same s34 hpD2
          have hd4 := s34 _ _ hdG2
          refine ⟨_, rfl, _, rfl, _, rfl, _, _, _, _, rfl, rfl, SqL.of (s34 _ _ hwa2), by rw [e0]; exact atI_nat wz, d, _, rfl, DPut.k (k := Sum.inr ws[i]) hd4 (by rw [kl]; exact small1000 (by omega)), ?_⟩
          have kk : KeepS G4 (upd G4 d (.dK (putK kvs (Sum.inr ws[i]) (.ref n)))) := (KeepS.refl _).upd hd4
          exact ⟨(sg2.trans s34).set hd, ⟨_, _, rfl⟩, _, _, upd_same, fp_keepS kk (fp_put wn hpD3), fin _ fs, Nat.le_trans (fput_len _ _ _) (Nat.succ_le_succ hl)⟩
        · exact ⟨sg2, ⟨_, _, rfl⟩, kvs, D, hdG2, hpD2, hF, by omega⟩
    · rintro σ G ⟨sg, ⟨v1, v2, rfl⟩, kvs, D, hdG, hpD, hF, hl⟩
      rw [List.length_map] at hl
      exact ⟨_, rfl, k d kvs D G sg hd hdG hpD hF (by omega)⟩
end
end Wy
namespace Wy
open PySem L2
theorem kV_inr {k : Key} {z : Str} (h : k = Sum.inr z) : kV k = .str z := by rw [h]; rfl
theorem fget_at : ∀ {D : Fill} {i : Nat} {p : Str × Tab}, (D.map (·.1)).Nodup → D[i]? = some p → fget D p.1 = some p.2 ∧ ¬ p.1 ∈ (D.take i).map (·.1)
  | [], _, _, _, h => by simp at h
  | q :: D, 0, p, _, h => by
    have : q = p := by simpa using h
    subst this
    refine ⟨?_, by simp⟩
    unfold fget
    rw [List.find?_cons_of_pos (by simp)]
    rfl
  | q :: D, i + 1, p, hn, h => by
    rw [List.map_cons] at hn
    obtain ⟨h1, h2⟩ := List.nodup_cons.mp hn
    have hp : D[i]? = some p := by simpa using h
    obtain ⟨g1, g2⟩ := fget_at h2 hp
    have ne : ¬ q.1 = p.1 := fun z => h1 (by rw [z]; exact List.mem_map.mpr ⟨p, List.mem_of_getElem? hp, rfl⟩)
    refine ⟨?_, ?_⟩
    · unfold fget at g1 ⊢
      rw [List.find?_cons_of_neg (by simpa using ne)]
      exact g1
    · rw [List.take_succ_cons, List.map_cons]
      exact fun z => (List.mem_cons.mp z).elim (fun e => ne e.symm) g2
theorem fput_new {D : Fill} {x : Str} {W : Tab} (h : ¬ x ∈ D.map (·.1)) : fput D x W = D ++ [(x, W)] := by
  unfold fput
  rw [if_neg]
  intro z
  obtain ⟨p, hp, e⟩ := List.any_eq_true.mp z
  exact h (List.mem_map.mpr ⟨p, hp, of_decide_eq_true e⟩)
section
variable {P : Program} {w : World} {K : PySem.W.Frag} {mg : Str → Option Value} {base : Heap}
def sp_copied : Sp := fun vs H Q _ => ∃ (du : Addr) (ku : List (Key × V)) (D : Fill), vs = [.ref du] ∧ H du = some (.dK ku) ∧ Paired (FP H) ku D ∧ (D.map (·.1)).Nodup ∧ D.length ≤ 6 ∧
  ∀ f kf ou H', KeepS H H' → H' du = some (.frz ou (.dK ku)) → H' f = some (.dK kf) → Paired (FP H') kf D → Q (.ref f) H'
theorem ok__law_copied (T : Txt K mg) : Def P w K mg base 1 "_law_copied" ["_law_whys"] sp_copied := by
  refine T.t__law_copied.ok sc__law_copied (fun vs H Q E h => ?_) fun f cdv A outer s H vs Q E hr h => ?_
  · obtain ⟨du, ku, D, rfl, _⟩ := h
    rfl
  · obtain ⟨du, ku, D, rfl, hu, hpD, nd, lD, k⟩ := h
    refine ⟨_, (pss_3
      (ps_set (i := 1) sc__law_copied.nd rfl (Or.inl rfl) pe_dnewK)
      (ps_for PassesOwn.never rfl (pi_dictK (pv 0)) (pg_name (i := 2) sc__law_copied.nd rfl (Or.inl rfl)) (pss_one (ps_dput (hu_of hr) (pv 1) (pv 2) (pe_callTy (call_listK K) rfl T.b_list bt_list (pa_1 (pe_dget (hu_of hr) (pv 0) (pv 2) (fun _ _ => rfl)))) rfl)))
      (ps_ret (pv 1))), ?_⟩
    refine fun fd hfd => ?_
    have s0 := same_upd (o := HO.dK []) hfd
    have nfu : fd ≠ du := fun z => by rw [z, hu] at hfd; cases hfd
    have hu0 := s0 _ _ hu
    have k0 := Same.keepS s0
    have hf0 : upd H fd (.dK []) fd = some (.dK []) := upd_same
    generalize upd H fd (.dK []) = H0 at *
    refine ⟨_, rfl, du, ku, rfl, .inl ⟨hu0, fun ou => for_dict (a := du) (o := ou) (kvs := ku) (fun i σ G => KeepS H G ∧ G du = some (.frz ou (.dK ku)) ∧ (∃ v1, σ = [some (.ref du), some (.ref fd), v1]) ∧ ∃ kf, G fd = some (.dK kf) ∧ Paired (FP G) kf (D.take i)) ⟨k0.upd hu0, upd_same, ⟨_, rfl⟩, [], by rw [upd_ne nfu]; exact hf0, .nil⟩ (fun i σ G _ z => z.2.1) ?_ ?_⟩⟩
    · rintro i p σ G hp ⟨kk, gu, ⟨v1, rfl⟩, kf, gf, hpF⟩
      obtain ⟨q, hq, e, _⟩ := paired_get hpD hp
      rw [kV_inr e]
      obtain ⟨hW, hnew⟩ := fget_at nd hq
      obtain ⟨l, W', e1, e2, wl⟩ := (fp_get q.1 (fp_keepS kk hpD)).resolve_left (fun z => by rw [hW] at z; cases z.2)
      rw [hW] at e2
      cases e2
      have hget : DGet G du (.str q.1) (some (.ref l)) := by
        rw [← e1]
        exact .inl ⟨ku, Sum.inr q.1, .inr ⟨ou, gu⟩, rfl, rfl⟩
      refine ⟨_, rfl, _, rfl, du, _, rfl, hget, _, _, rfl, .inl (SqL.of wl.lst), fun h hh => ?_⟩
      have s1 := same_upd (o := HO.lst wl.xs) hh
      have wc := wl.copy hh
      have kl : kf.length = (D.take i).length := Paired.length hpF
      rw [List.length_take] at kl
      have gf1 := s1 _ _ gf
      refine ⟨_, rfl, _, rfl, fd, _, rfl, DPut.k (k := Sum.inr q.1) gf1 (small1000 (by omega)), ?_⟩
      have k1 := Same.keepS s1
      have k2 : KeepS (upd G h (.lst wl.xs)) (upd (upd G h (.lst wl.xs)) fd (.dK (putK kf (Sum.inr q.1) (.ref h)))) := (KeepS.refl _).upd gf1
      refine ⟨kk.trans (k1.trans k2), by rw [upd_ne (Ne.symm nfu)]; exact s1 _ _ gu, ⟨_, rfl⟩, _, upd_same, ?_⟩
      have := fp_put (x := q.1) wc (fp_same s1 hpF)
      rw [fput_new hnew] at this
      rw [List.take_succ, hq]
      exact fp_keepS k2 this
    · rintro σ G ⟨kk, gu, ⟨v1, rfl⟩, kf, gf, hpF⟩
      have lku : ku.length = D.length := Paired.length hpD
      rw [lku, List.take_length] at hpF
      exact ⟨_, rfl, k fd kf ou G kk gu gf hpF⟩
end
end Wy
namespace Wy
open PySem L2
def KeepQ (K : PySem.W.Frag) (H G : Hp) : Prop := ∀ b xs, SqT K H b xs → SqT K G b xs
theorem Same.keepQ {K : PySem.W.Frag} {H G : Hp} (s : Same H G) : KeepQ K H G := fun b xs h => s.seqT h
theorem KeepQ.trans {K : PySem.W.Frag} {H G F : Hp} (a : KeepQ K H G) (b : KeepQ K G F) : KeepQ K H F := fun c xs h => b c xs (a c xs h)
theorem KeepQ.refl {K : PySem.W.Frag} (H : Hp) : KeepQ K H H := fun _ _ h => h
theorem KeepQ.updL {K : PySem.W.Frag} {G : Hp} {d : Addr} {xs ys : List V} (e : G d = some (.lst xs)) : KeepQ K G (upd G d (.lst ys)) := fun b zs h => (SameBut.upd d G _).seqT e (fun ys z => by cases z) (fun b ys z => by cases z) h
theorem KeepQ.updD {K : PySem.W.Frag} {G : Hp} {d : Addr} {W : Tab} {o : HO} (e : G d = some (encD W)) : KeepQ K G (upd G d o) := fun b zs h => (SameBut.upd d G _).seqT e (fun ys z => by cases z) (fun b ys z => by cases z) h
def PairQ (K : PySem.W.Frag) (H : Hp) (x : V) (p : List Str × Int) : Prop := ∃ q b, x = .ref q ∧ SqT K H q [.ref b, .int p.2] ∧ SqT K H b (p.1.map V.str)
theorem pq_keep {K : PySem.W.Frag} {H G : Hp} (k : KeepQ K H G) : ∀ {xs : List V} {W : Tab}, Paired (PairQ K H) xs W → Paired (PairQ K G) xs W
  | _, _, .nil => .nil
  | _, _, .cons ⟨q, b, e, h1, h2⟩ r => .cons ⟨q, b, e, k _ _ h1, k _ _ h2⟩ (pq_keep k r)
theorem pq_pl {K : PySem.W.Frag} {H : Hp} : ∀ {xs : List V} {W : Tab}, Paired (PlAt H) xs W → Paired (PairQ K H) xs W
  | _, _, .nil => .nil
  | _, _, .cons ⟨q, b, e, h1, h2⟩ r => .cons ⟨q, b, e, SqT.of h1, SqT.of h2⟩ (pq_pl r)
theorem rawF_take {D : Sub} {W : Tab} {i : Nat} {p : List Str × Int} (h : W[i]? = some p) : rawF D (W.take (i + 1)) = rawF D (W.take i) ++ rawP D [([], p.2)] p.1 := by
  unfold rawF
  rw [List.take_succ, h, List.flatMap_append]
  congr 1
  simp
theorem rawF_len {D : Sub} (W : Tab) (i : Nat) : (rawF D (W.take i)).length ≤ (rawF D W).length := by
  have : rawF D W = rawF D (W.take i) ++ rawF D (W.drop i) := by
    unfold rawF
    rw [← List.flatMap_append, List.take_append_drop]
  rw [this, List.length_append]
  omega
section
variable {P : Program} {w : World} {K : PySem.W.Frag} {mg : Str → Option Value} {base : Heap}
def sp_due : Sp := fun vs H Q _ => ∃ (o du : Addr) (W : Tab) (D : Fill), vs = [.ref o, .ref du] ∧ WA H o W ∧ FD H du D ∧ (∀ p ∈ W, ∀ i, BW (rawP (sb D) [([], p.2)] (p.1.take i))) ∧ (rawF (sb D) W).length ≤ 50000 ∧
  ∀ d H', Same H H' → H' d = some (encD (gath (rawF (sb D) W))) → H d = none → Q (.ref d) H'
theorem ok__law_due (T : Txt K mg) : Def P w K mg base 1 "_law_due" ["_law_why_here", "_law_whys"] sp_due := by
  refine T.t__law_due.ok sc__law_due (fun vs H Q E h => ?_) fun f cdv A outer s H vs Q E hr h => ?_
  · obtain ⟨o, du, W, D, rfl, _⟩ := h
    rfl
  · obtain ⟨o, du, W, D, rfl, ⟨xs, ho, hp, hb⟩, ⟨kvs, hrd, hpr⟩, hraw, hrl, k⟩ := h
    have xl := Paired.length hp
    refine ⟨_, (pss_3
      (ps_set (i := 2) sc__law_due.nd rfl (Or.inl rfl) pe_dnewT)
      (ps_for PassesOwn.never rfl (pi_listK K (pv 0)) (pg_tup rfl (pgs_cons (pg_name (i := 3) sc__law_due.nd rfl (Or.inl rfl)) (pgs_cons (pg_name (i := 4) sc__law_due.nd rfl (Or.inl rfl)) pgs_nil))) (pss_3
      (ps_set (i := 5) sc__law_due.nd rfl (Or.inl rfl) (pe_lst (pa_1 (pe_tup (pa_2 (pe_tup pa_nil) (pv 4))))))
      (ps_for PassesOwn.never rfl (pi_tupK K (pv 3)) (pg_name (i := 6) sc__law_due.nd rfl (Or.inl rfl)) (pss_3
      (ps_set (i := 7) sc__law_due.nd rfl (Or.inl rfl) (pe_lst pa_nil))
      (ps_for PassesOwn.never rfl (pi_listK K (pv 5)) (pg_tup rfl (pgs_cons (pg_name (i := 8) sc__law_due.nd rfl (Or.inl rfl)) (pgs_cons (pg_name (i := 9) sc__law_due.nd rfl (Or.inl rfl)) pgs_nil))) (pss_one (ps_for PassesOwn.never rfl (pi_listK K (pe_dget2 (hu_of hr) (pv 1) (pv 6) (pe_lst (pa_1 (pe_tup (pa_2 (pe_tup (pa_1 (pv 6))) pe_int)))) ⟨rfl, rfl, rfl, rfl⟩)) (pg_tup rfl (pgs_cons (pg_name (i := 10) sc__law_due.nd rfl (Or.inl rfl)) (pgs_cons (pg_name (i := 11) sc__law_due.nd rfl (Or.inl rfl)) pgs_nil))) (pss_one (ps_expr (pe_bm PySem.F.plainAttrs_list PySem.F.slot_list_append PySem.F.type_list_append mt_append (pv 7) (pa_1 (pe_tup (pa_2 (pe_op (op_catA K) (pv 8) (pv 10)) (pe_op op_mulB (pv 9) (pv 11)))))))))))
      (ps_set (i := 5) sc__law_due.nd rfl (Or.inl rfl) (pv 7))))
      (ps_for PassesOwn.never rfl (pi_listK K (pv 5)) (pg_tup rfl (pgs_cons (pg_name (i := 12) sc__law_due.nd rfl (Or.inl rfl)) (pgs_cons (pg_name (i := 9) sc__law_due.nd rfl (Or.inl rfl)) pgs_nil))) (pss_2
      (ps_set (i := 13) sc__law_due.nd rfl (Or.inl rfl) (pe_callTy (call_tupleK K) rfl T.b_tuple bt_tuple (pa_1 (pe_callB (call_sortedS K) rfl T.b_sorted bt_sorted (pa_1 (pv 12))))))
      (ps_dput (hu_of hr) (pv 2) (pv 13) (pe_op op_add (pe_dget2 (hu_of hr) (pv 2) (pv 13) pe_int ⟨rfl, rfl, rfl, rfl⟩) (pv 9)) rfl)))))
      (ps_ret (pv 2))), ?_⟩
    refine fun d hd => ?_
    have s0 := same_upd (o := HO.dT []) hd
    refine ⟨_, rfl, o, rfl, ⟨_, SqL.of (s0 _ _ ho)⟩, for_list (xs := xs) (fun i σ G => Same H G ∧ (∃ v1 v2 v3 v4 v5 v6 v7 v8 v9 va vb, σ = [some (.ref o), some (.ref du), some (.ref d), v1, v2, v3, v4, v5, v6, v7, v8, v9, va, vb]) ∧ G d = some (encD (gath (rawF (sb D) (W.take i))))) ⟨s0, ⟨_, _, _, _, _, _, _, _, _, _, _, rfl⟩, upd_same⟩ (fun i σ G _ z => SqL.of (z.1 _ _ ho)) ?_ ?_⟩
    · rintro i x σ G hx ⟨sg, ⟨v1, v2, v3, v4, v5, v6, v7, v8, v9, va, vb, rfl⟩, hW⟩
      obtain ⟨p, hpi, hpa⟩ := paired_get hp hx
      obtain ⟨q, b, rfl, hq, hbt⟩ := hpa.keep (Same.keepT sg)
      have hpm := List.mem_of_getElem? hpi
      have hbp := hb.2 p hpm
      have il : i < W.length := (List.getElem?_eq_some_iff.mp hpi).1
      refine ⟨_, _, rfl, SqT.of hq, rfl, _, _, rfl, _, _, rfl, rfl, ?_⟩
      refine ⟨by show 0 ≤ sizeLine; decide, fun t0 h0 => ⟨_, rfl, by show 2 ≤ sizeLine; decide, fun t h1 => ⟨by show 1 ≤ sizeLine; decide, fun l h2 => ?_⟩⟩⟩
      have s1 := (same_upd (o := HO.tup []) h0).trans ((same_upd (o := HO.tup [.ref t0, .int p.2]) h1).trans (same_upd (o := HO.lst [.ref t]) h2))
      have w1 := way_at (show BW [([], p.2)] from hraw p hpm 0) h0 h1 h2
      have hW1 := s1 _ _ hW
      have hb1 := s1 _ _ hbt
      have sg1 := sg.trans s1
      generalize upd (upd (upd G t0 (.tup [])) t (.tup [.ref t0, .int p.2])) l (.lst [.ref t]) = G1 at *
      refine ⟨_, rfl, b, rfl, ⟨_, SqT.of hb1⟩, for_tup (xs := p.1.map V.str) (fun j σ F => Same H F ∧ F b = some (.tup (p.1.map V.str)) ∧ F d = some (encD (gath (rawF (sb D) (W.take i)))) ∧ (∃ rl ys v4 v5 v6 v7 v8 v9 va vb, σ = [some (.ref o), some (.ref du), some (.ref d), some (.ref b), some (.int p.2), some (.ref rl), v4, v5, v6, v7, v8, v9, va, vb] ∧ F rl = some (.lst ys) ∧ ∀ F2, KeepQ K F F2 → Paired (PairQ K F2) ys (rawP (sb D) [([], p.2)] (p.1.take j)))) ⟨sg1, hb1, hW1, l, _, _, _, _, _, _, _, _, _, rfl, w1.lst, fun F2 k2 => pq_keep k2 (pq_pl w1.prd)⟩ (fun j σ F _ z => SqT.of z.2.1) ?_ ?_⟩
      · rintro j y σ F hy ⟨sf, fb, fd, rl, ys, v4, v5, v6, v7, v8, v9, va, vb, rfl, hrl2, hpy⟩
        rw [List.getElem?_map] at hy
        obtain ⟨z, hz, rfl⟩ := Option.map_eq_some_iff.mp hy
        have zok := hbp.1 z (List.mem_of_getElem? hz)
        have est : p.1.take (j + 1) = p.1.take j ++ [z] := by
          rw [List.take_succ, hz]
          rfl
        have bS := hraw p hpm j
        have bN := hraw p hpm (j + 1)
        rw [est, rawP_snoc] at bN
        generalize hSe : rawP (sb D) [([], p.2)] (p.1.take j) = S at *
        have yl : ys.length = S.length := Paired.length (hpy F (KeepQ.refl _))
        have pl := bN.1
        rw [prods_len] at pl
        refine ⟨by decide, fun lg hlg => ?_⟩
        have s2 := same_upd (o := HO.lst []) hlg
        have hrl3 := s2 _ _ hrl2
        have sf2 := sf.trans s2
        have nlr : lg ≠ rl := fun e => by rw [e, hrl2] at hlg; cases hlg
        have nld : lg ≠ d := fun e => by rw [e, fd] at hlg; cases hlg
        have hlgH : H lg = none := sf.free hlg
        have hg0 : upd F lg (.lst []) lg = some (.lst []) := upd_same
        have fb2 := s2 _ _ fb
        have fd2 := s2 _ _ fd
        have kq2 : KeepQ K F (upd F lg (.lst [])) := Same.keepQ s2
        generalize upd F lg (.lst []) = F1 at *
        refine ⟨_, rfl, rl, rfl, ⟨_, SqL.of hrl3⟩, for_list (xs := ys) (fun a σ E2 => Same H E2 ∧ KeepQ K F E2 ∧ E2 b = some (.tup (p.1.map V.str)) ∧ E2 d = some (encD (gath (rawF (sb D) (W.take i)))) ∧ E2 rl = some (.lst ys) ∧ (∃ v6 v7 v8 v9 va vb, σ = [some (.ref o), some (.ref du), some (.ref d), some (.ref b), some (.int p.2), some (.ref rl), some (.str z), some (.ref lg), v6, v7, v8, v9, va, vb]) ∧ ∃ ls, E2 lg = some (.lst ls) ∧ ∀ E3, KeepQ K E2 E3 → Paired (PairQ K E3) ls (prods (S.take a) (sb D z))) ⟨sf2, kq2, fb2, fd2, hrl3, ⟨_, _, _, _, _, _, rfl⟩, [], hg0, fun _ _ => .nil⟩ (fun a σ E2 _ z => SqL.of z.2.2.2.2.1) ?_ ?_⟩
        · rintro a y2 σ E2 hy2 ⟨se, kq, eb, ed, erl, ⟨v6, v7, v8, v9, va, vb, rfl⟩, ls, els, hls⟩
          obtain ⟨r, hr, q2, b2, rfl, hq2, hb2⟩ := paired_get (hpy E2 kq) hy2
          have hrm := List.mem_of_getElem? hr
          have al : a < S.length := (List.getElem?_eq_some_iff.mp hr).1
          have hbr := bS.2 r hrm
          refine ⟨_, _, rfl, hq2, rfl, _, _, rfl, _, _, rfl, rfl, ?_⟩
          refine ⟨_, rfl, du, rfl, .inl ⟨_, Wy.Rd.same hrd se⟩, _, rfl, _, rfl, by show 1 ≤ sizeLine; decide, fun u0 g0 => ⟨by show 2 ≤ sizeLine; decide, fun u1 g1 => ⟨by show 1 ≤ sizeLine; decide, fun lf g2 => ?_⟩⟩⟩
          have s3 := (same_upd (o := HO.tup [.str z]) g0).trans ((same_upd (o := HO.tup [.ref u0, .int 1]) g1).trans (same_upd (o := HO.lst [.ref u1]) g2))
          have wf := fact_at zok g0 g1 g2
          have els3 := s3 _ _ els
          have eb3 := s3 _ _ eb
          have ed3 := s3 _ _ ed
          have erl3 := s3 _ _ erl
          have se3 := se.trans s3
          have kq3 : KeepQ K E2 (upd (upd (upd E2 u0 (.tup [.str z])) u1 (.tup [.ref u0, .int 1])) lf (.lst [.ref u1])) := Same.keepQ s3
          have hrd2 := Wy.Rd.same hrd se3
          have nlf : lf ≠ lg := fun e => by
            have := ((same_upd g0).trans (same_upd g1)).free g2
            rw [e, els] at this
            cases this
          generalize upd (upd (upd E2 u0 (.tup [.str z])) u1 (.tup [.ref u0, .int 1])) lf (.lst [.ref u1]) = E3 at *
          have hget : DGet E3 du (.str z) (valV kvs (Sum.inr z)) := .inl ⟨kvs, Sum.inr z, hrd2, rfl, rfl⟩
          obtain ⟨lw, hlw, ww, nlw⟩ : ∃ lw, (valV kvs (Sum.inr z)).getD (.ref lf) = .ref lw ∧ WA E3 lw (sb D z) ∧ lw ≠ lg := by
            rcases fp_get z hpr with ⟨e1, e2⟩ | ⟨l2, W2, e1, e2, w2⟩
            · exact ⟨lf, by rw [e1]; rfl, by unfold sb; rw [e2]; exact wf, nlf⟩
            · refine ⟨l2, by rw [e1]; rfl, by unfold sb; rw [e2]; exact w2.same se3, fun e => ?_⟩
              have := w2.lst
              rw [show H l2 = none from e ▸ hlgH] at this
              cases this
          refine ⟨_, hget, ?_⟩
          rw [hlw]
          refine ⟨lw, rfl, ⟨_, SqL.of ww.lst⟩, for_list (xs := ww.xs) (fun c σ E4 => Same H E4 ∧ KeepQ K E3 E4 ∧ E4 b = some (.tup (p.1.map V.str)) ∧ E4 d = some (encD (gath (rawF (sb D) (W.take i)))) ∧ E4 rl = some (.lst ys) ∧ E4 lw = some (.lst ww.xs) ∧ (∃ v8 v9 va vb, σ = [some (.ref o), some (.ref du), some (.ref d), some (.ref b), some (.int p.2), some (.ref rl), some (.str z), some (.ref lg), some (.ref b2), some (.int r.2), v8, v9, va, vb]) ∧ ∃ ls, E4 lg = some (.lst ls) ∧ ∀ E5, KeepQ K E4 E5 → Paired (PairQ K E5) ls (prods (S.take a) (sb D z) ++ ((sb D z).take c).map (mulP r))) ⟨se3, KeepQ.refl _, eb3, ed3, erl3, ww.lst, ⟨_, _, _, _, rfl⟩, ls, els3, fun E5 k5 => by rw [List.take_zero, List.map_nil, List.append_nil]; exact hls E5 (kq3.trans k5)⟩ (fun c σ E4 _ z => SqL.of z.2.2.2.2.2.1) ?_ ?_⟩
          · rintro c y3 σ E4 hy3 ⟨s4, kq4, fb4, fd4, frl4, flw4, ⟨v8, v9, va, vb, rfl⟩, ls, els4, hls4⟩
            obtain ⟨u, hu, q3, b3, rfl, hq3, hb3⟩ := paired_get ww.prd hy3
            have hbu := ww.bd.2 u (List.mem_of_getElem? hu)
            have hb24 := kq4 _ _ (kq3 _ _ hb2)
            have hb34 := kq4 _ _ (SqT.of hb3 : SqT K E3 b3 _)
            have ll := Paired.length (hls4 E4 (KeepQ.refl _))
            rw [List.length_append, List.length_map, prods_len, List.length_take, List.length_take] at ll
            have l1 : min a S.length * (sb D z).length ≤ 200 * 200 := Nat.mul_le_mul (Nat.le_trans (Nat.min_le_right _ _) bS.1) ww.bd.1
            have l2 : min c (sb D z).length ≤ 200 := Nat.le_trans (Nat.min_le_right _ _) ww.bd.1
            refine ⟨_, _, rfl, kq4 _ _ (SqT.of hq3), rfl, _, _, rfl, _, _, rfl, rfl, ?_⟩
            refine ⟨_, rfl, .inl ⟨rfl, _, SqL.of els4⟩, _, rfl, _, rfl, b2, b3, _, _, rfl, rfl, hb24, hb34, ?_, fun tt E5 s5 ht => ?_⟩
            · rw [List.length_map, List.length_map]
              exact Nat.le_trans (show r.1.length + u.1.length ≤ 1000000 by have := hbr.2.1; have := hbu.2.1; omega) (by decide)
            rw [← List.map_append] at ht
            have lt6 : (2 ^ 599 : Int) < 2 ^ 600 := by decide
            refine ⟨_, rfl, _, rfl, _, _, rfl, rfl, ⟨⟨hbr.2.2.1, Int.lt_of_le_of_lt hbr.2.2.2 lt6⟩, ⟨hbu.2.2.1, Int.lt_of_le_of_lt hbu.2.2.2 lt6⟩⟩, by show 2 ≤ sizeLine; decide, fun tq htq => ?_⟩
            have s6 := same_upd (o := HO.tup [.ref tt, .int (r.2 * u.2)]) htq
            have s56 := s5.trans s6
            have els6 := s56 _ _ els4
            refine ⟨_, _, _, rfl, rfl, els6, Nat.lt_of_lt_of_le (show ls.length < 1000000 by omega) (by decide), ?_⟩
            have ku : KeepQ K (upd E5 tq (.tup [.ref tt, .int (r.2 * u.2)])) (upd (upd E5 tq (.tup [.ref tt, .int (r.2 * u.2)])) lg (.lst (ls ++ [.ref tq]))) := KeepQ.updL els6
            have k47 := (Same.keepQ (K := K) s56).trans ku
            refine ⟨(s4.trans s56).set hlgH, kq4.trans k47, by rw [upd_ne (fun e => by rw [e, els4] at fb4; cases fb4)]; exact s56 _ _ fb4, by rw [upd_ne (Ne.symm nld)]; exact s56 _ _ fd4, by rw [upd_ne (Ne.symm nlr)]; exact s56 _ _ frl4, by rw [upd_ne nlw]; exact s56 _ _ flw4, ⟨_, _, _, _, rfl⟩, ls ++ [.ref tq], upd_same, fun E8 k8 => ?_⟩
            rw [List.take_succ, hu, List.map_append, ← List.append_assoc]
            exact paired_snoc (hls4 E8 (k47.trans k8)) ⟨tq, tt, rfl, k8 _ _ (ku _ _ (SqT.of upd_same)), k8 _ _ (ku _ _ (s6.seqT ht))⟩
          · rintro σ E4 ⟨s4, kq4, fb4, fd4, frl4, flw4, ⟨v8, v9, va, vb, rfl⟩, ls, els4, hls4⟩
            rw [Paired.length ww.prd, List.take_length, ← prods_take hr] at hls4
            exact ⟨s4, kq.trans (kq3.trans kq4), fb4, fd4, frl4, ⟨_, _, _, _, _, _, rfl⟩, ls, els4, hls4⟩
        · rintro σ E2 ⟨se, kq, eb, ed, erl, ⟨v6, v7, v8, v9, va, vb, rfl⟩, ls, els, hls⟩
          rw [yl, List.take_length] at hls
          refine ⟨_, rfl, se, eb, ed, lg, ls, _, _, _, _, _, _, _, _, rfl, els, fun F2 k2 => ?_⟩
          rw [est, rawP_snoc, hSe]
          exact hls F2 k2
      · rintro σ F ⟨sf, fb, fd, rl, ys, v4, v5, v6, v7, v8, v9, va, vb, rfl, hrl2, hpy⟩
        rw [List.length_map, List.take_length] at hpy
        have hrp := hraw p hpm p.1.length
        rw [List.take_length] at hrp
        have flen := rawF_len (D := sb D) W (i + 1)
        rw [rawF_take hpi, List.length_append] at flen
        have fin : rawF (sb D) (W.take (i + 1)) = rawF (sb D) (W.take i) ++ rawP (sb D) [([], p.2)] p.1 := rawF_take hpi
        generalize rawP (sb D) [([], p.2)] p.1 = S at *
        have yl : ys.length = S.length := Paired.length (hpy F (KeepQ.refl _))
        refine ⟨_, rfl, rl, rfl, ⟨_, SqL.of hrl2⟩, for_list (xs := ys) (fun j σ E2 => Same H E2 ∧ KeepQ K F E2 ∧ E2 rl = some (.lst ys) ∧ E2 d = some (encD (gath (rawF (sb D) (W.take i) ++ S.take j))) ∧ ∃ v1 v2 v3 v4 v5 v6 v7 v8 v9 va vb, σ = [some (.ref o), some (.ref du), some (.ref d), v1, v2, v3, v4, v5, v6, v7, v8, v9, va, vb]) ⟨sf, KeepQ.refl _, hrl2, by rw [List.take_zero, List.append_nil]; exact fd, _, _, _, _, _, _, _, _, _, _, _, rfl⟩ (fun j σ E2 _ z => SqL.of z.2.2.1) ?_ ?_⟩
        · rintro j y σ E2 hy ⟨se, kq, erl, ed, v1, v2, v3, v4, v5, v6, v7, v8, v9, va, vb, rfl⟩
          obtain ⟨r, hr, q2, b2, rfl, hq2, hb2⟩ := paired_get (hpy E2 kq) hy
          refine ⟨_, _, rfl, hq2, rfl, _, _, rfl, _, _, rfl, rfl, ?_⟩
          refine ⟨_, rfl, _, r.1, rfl, .inr hb2, fun l2 hl2 => ?_⟩
          have t1 := same_upd (o := HO.lst ((Tim.srt strLt r.1).map V.str)) hl2
          refine ⟨_, _, rfl, .inl ⟨SqL.of upd_same, fun t ht => ?_⟩⟩
          have t2 := same_upd (o := HO.tup ((Tim.srt strLt r.1).map V.str)) ht
          have tA := t1.trans t2
          have hd2 := tA _ _ ed
          have ht2 : upd (upd E2 l2 (.lst ((Tim.srt strLt r.1).map V.str))) t (.tup ((Tim.srt strLt r.1).map V.str)) t = some (.tup (((Tim.srt strLt r.1).map (Sum.inr : Str → Key)).map kV)) := by
            rw [upd_same, kV_strs]
          have erl2 := tA _ _ erl
          generalize upd (upd E2 l2 (.lst ((Tim.srt strLt r.1).map V.str))) t (.tup ((Tim.srt strLt r.1).map V.str)) = H6 at *
          obtain ⟨_, gl, _, _⟩ := gath_facts _ (rawF (sb D) (W.take i) ++ S.take j) rfl
          rw [List.length_append, List.length_take] at gl
          have est : gath (rawF (sb D) (W.take i) ++ S.take (j + 1)) = addA (gath (rawF (sb D) (W.take i) ++ S.take j)) (Tim.srt strLt r.1) r.2 := by
            rw [List.take_succ, hr, ← List.append_assoc]
            exact gath_snoc _ _
          generalize gath (rawF (sb D) (W.take i) ++ S.take j) = Z at *
          have hget : DGet H6 d (.ref t) ((getA Z (Tim.srt strLt r.1)).map V.int) := by
            rw [← valV_enc]
            exact DGet.t hd2 ht2
          have hlen : ((encI Z).map fun kv => (kv.1.map (Sum.inr : Str → Key), kv.2)).length < sizeLine := by rw [List.length_map]; unfold encI; rw [List.length_map]; exact Nat.lt_of_lt_of_le (show Z.length < 1000000 by omega) (by decide)
          refine ⟨_, rfl, _, rfl, .inr ⟨_, .inl hd2⟩, _, rfl, _, hget, _, rfl, (getA Z (Tim.srt strLt r.1)).getD 0, _, opt_int _, rfl, ?_⟩
          refine ⟨_, rfl, _, rfl, d, _, rfl, DPut.t hd2 ht2 hlen, ?_⟩
          refine ⟨(se.trans tA).set hd, kq.trans ((Same.keepQ tA).trans (KeepQ.updD hd2)), by rw [upd_ne (fun e => by rw [e, ed] at erl; cases erl)]; exact erl2, ?_, _, _, _, _, _, _, _, _, _, _, _, rfl⟩
          rw [est, upd_same, putK_enc]
          rfl
        · rintro σ E2 ⟨se, kq, erl, ed, v1, v2, v3, v4, v5, v6, v7, v8, v9, va, vb, rfl⟩
          rw [yl, List.take_length, ← fin] at ed
          exact ⟨se, ⟨_, _, _, _, _, _, _, _, _, _, _, rfl⟩, ed⟩
    · rintro σ G ⟨sg, ⟨v1, v2, v3, v4, v5, v6, v7, v8, v9, va, vb, rfl⟩, hW⟩
      rw [xl, List.take_length] at hW
      exact ⟨_, rfl, k d G sg hW hd⟩
end
end Wy
namespace Wy
open PySem L2
theorem fp_datp {K : PySem.W.Frag} {H : Hp} : ∀ {k1 k2 : List (Key × V)} {D : Fill}, Paired (FP H) k1 D → Paired (FP H) k2 D → Paired (DatP K H) k1 k2
  | _, _, _, .nil, .nil => .nil
  | _, _, _, .cons ⟨e, l, e2, w⟩ r, .cons ⟨e', l', e2', w'⟩ r' => .cons ⟨e.trans e'.symm, _, by rw [e2]; exact w.dat, by rw [e2']; exact w'.dat, depth_why _⟩ (fp_datp r r')
theorem FF.bs {N : Nat} {D : Fill} (h : FF N D) (hN : 1 ≤ N) : ∀ x, PyData.strOk x = true → Bs N 3 ((N : Int) * ((N : Int) * 10 ^ 30)) (sb D x) := fun x hx => by
  unfold sb
  cases e : fget D x with
  | none =>
    refine (fact_bs hx).le hN (by decide) ?_
    have h1 : (1 : Int) ≤ (N : Int) * 10 ^ 30 := by
      have := Int.mul_le_mul_of_nonneg_right (show (1 : Int) ≤ N by omega) (show (0 : Int) ≤ 10 ^ 30 by decide)
      exact Int.le_trans (by decide) this
    exact Int.le_trans h1 (by
      have := Int.mul_le_mul_of_nonneg_right (show (1 : Int) ≤ N by omega) (show (0 : Int) ≤ (N : Int) * 10 ^ 30 by omega)
      rw [Int.one_mul] at this
      exact this)
  | some W => exact (h.1 _ (fget_mem e)).1.1
theorem FF.nn {N : Nat} {D : Fill} (h : FF N D) : ∀ p ∈ D, NN p.2 := fun p hp => (h.1 p hp).1.1.nn
theorem FF.pos {N : Nat} {D : Fill} (h : FF N D) (x : Str) : ∀ q ∈ sb D x, 1 ≤ q.2 := by
  unfold sb
  cases e : fget D x with
  | none =>
    intro q hq
    rw [List.mem_singleton.mp hq]
    show (1 : Int) ≤ 1
    decide
  | some W => exact (h.1 _ (fget_mem e)).1.2.1
theorem raw_len {D : Sub} : ∀ {W : Tab}, (∀ p ∈ W, (rawP D [([], p.2)] p.1).length ≤ 200) → (rawF D W).length ≤ W.length * 200
  | [], _ => Nat.zero_le _
  | p :: W, h => by
    have e : rawF D (p :: W) = rawP D [([], p.2)] p.1 ++ rawF D W := rfl
    have h1 := h p (List.mem_cons_self ..)
    have h2 := raw_len fun q hq => h q (List.mem_cons_of_mem _ hq)
    rw [e, List.length_append, List.length_cons]
    omega
structure Ready (W : Tab) (D : Fill) : Prop where
  nd : (D.map (·.1)).Nodup
  l6 : D.length ≤ 6
  ok : FillOk D W
  raw : ∀ p ∈ W, ∀ i, BW (rawP (sb D) [([], p.2)] (p.1.take i))
  pW : ∀ p ∈ W, 1 ≤ p.2
  pD : ∀ x, ∀ q ∈ sb D x, 1 ≤ q.2
  nS : NS (sb D)
theorem ready_of {W : Tab} {D : Fill} {n L N : Nat} {c : Int} (hW : Bs n L c W) (pW : ∀ p ∈ W, 1 ≤ p.2) (hD : FF N D) (l6 : D.length ≤ 6) (hN : 1 ≤ N) (hd : (1 : Int) ≤ (N : Int) * ((N : Int) * 10 ^ 30)) (h1 : n * N ^ L ≤ 200) (h2 : L * 3 ≤ 1000) (h3 : c * ((N : Int) * ((N : Int) * 10 ^ 30)) ^ L ≤ 2 ^ 599) (h4 : N ^ L ≤ 200) : Ready W D :=
  ⟨hD.2, l6, (fill_ok hW (hD.bs hN) hN hd h1 h2 h3 h4).1, raw_ok hW (hD.bs hN) hN hd h2 h3 h4, pW, hD.pos, sb_nn hD.nn⟩
theorem one_few {n : Nat} {ws : List Str} {W : Tab} (h : WS n 1 ws W) : W.length ≤ 1 + ws.length := by
  have := nodup_le (l := W.map (·.1)) (m := [] :: ws.map fun z => [z]) h.1.nd fun k hk => by
    obtain ⟨kv, hkv, rfl⟩ := List.mem_map.mp hk
    obtain ⟨_, _, b3, b4, _⟩ := h.2.2 kv hkv
    match hm : kv.1, b3, b4 with
    | [], _, _ => exact List.mem_cons_self ..
    | [z], _, b4 => exact List.mem_cons_of_mem _ (List.mem_map.mpr ⟨z, b4 z (List.mem_cons_self ..), rfl⟩)
    | z :: y :: r, b3, _ => simp at b3
  rw [List.length_map, List.length_cons, List.length_map] at this
  omega
def sp_law (K : PySem.W.Frag) : Sp := fun vs H Q _ => ∃ (a : Addr) (ns : List Int), vs = [.ref a] ∧ SqL K H a (ns.map V.int) ∧ ns.length ≤ 63 ∧ ∀ H', Q (.bl true) H'
theorem ok_law {l : PySem.W.OpenLaw} {w : World} {K : PySem.W.Frag} {mg : Str → Option Value} {fa : Addr} (T : Txt K mg) (hfa : mg "law" = some (.ref fa)) :
    ∃ fd : FuncData, (∀ (s : Shared) (v : Value), BindsTo s fd ⟨[v], []⟩ [("_law_script", v)]) ∧ ∀ base : Heap, K.In base → base.Ns mainGlobals mg → FnOk l.prog w K mg base CX0 5 fa fd ["_law_script"] (sp_law K) := by
  refine T.t_law.fin hfa sc_law (fun vs H Q E h => ?_) fun base f cdv A outer s H vs Q E hr h => ?_
  · obtain ⟨a, ns, rfl, _⟩ := h
    rfl
  · obtain ⟨a, ns, rfl, hS, hlen, k⟩ := h
    refine join_at 4 (fun σ H' => ∃ (o du : Addr) (ku : List (Key × V)) (W : Tab) (D : Fill) (v1 v2 v3 : Option V), σ = [some (.ref a), v1, v2, v3, some (.ref o), some (.ref du), none, none, none, none, none, none, none] ∧ WA H' o W ∧ H' du = some (.dK ku) ∧ Paired (FP H') ku D ∧ Ready W D) ⟨_, (pss_10
      (ps_set (i := 6) sc_law.nd rfl (Or.inl rfl) (pe_callTy (call_listK K) rfl T.b_list bt_list (pa_1 (pv 4))))
      (ps_set (i := 7) sc_law.nd rfl (Or.inl rfl) (pe_def (ok__law_copied T) hr rfl (pa_1 (pv 5))))
      (ps_set (i := 8) sc_law.nd rfl (Or.inl rfl) (pe_def (ok_filled T) hr rfl (pa_2 (pv 6) (pv 7))))
      (ps_set (i := 9) sc_law.nd rfl (Or.inl rfl) (pe_def (ok__law_due T) hr rfl (pa_2 (pv 4) (pv 5))))
      (ps_if (PW.pt (pw_or (pt_not (pt_val (pe_def (ok__law_is_why T) hr rfl (pa_1 (pv 8))))) (pw_or1 (pt_cmpR op_ne (pe_callB (call_lenK K) rfl T.b_len bt_len (pa_1 (pv 8))) (pe_callB call_lenT rfl T.b_len bt_len (pa_1 (pv 9))) (nomark _))))) (pss_one (ps_ret pe_bl)) pss_nil)
      (ps_for PassesOwn.never rfl (pi_listK K (pv 8)) (pg_tup rfl (pgs_cons (pg_name (i := 10) sc_law.nd rfl (Or.inl rfl)) (pgs_cons (pg_name (i := 11) sc_law.nd rfl (Or.inl rfl)) pgs_nil))) (pss_one (ps_if (pt_cmpR op_ne (pe_dget2 (hu_of hr) (pv 9) (pv 10) pe_int ⟨rfl, rfl, rfl, rfl⟩) (pv 11) (nomark _)) (pss_one (ps_ret pe_bl)) pss_nil)))
      (ps_set (i := 12) sc_law.nd rfl (Or.inl rfl) (pe_callTy (call_listK K) rfl T.b_list bt_list (pa_1 (pv 8))))
      (ps_expr (pe_bm PySem.F.plainAttrs_list PySem.F.slot_list_append PySem.F.type_list_append mt_append (pv 8) (pa_1 (pe_tup (pa_2 (pe_tup (pa_1 pe_str)) pe_int)))))
      (ps_if (PW.pt (pw_or (pt_cmpR (op_neD hr.units K) (pv 6) (pv 4) (nomark _)) (pw_or1 (pt_cmpR (op_neDic hr.units K) (pv 7) (pv 5) (nomark _))))) (pss_one (ps_ret pe_bl)) pss_nil)
      (ps_ret (pe_cmpR (op_eqD hr.units K) (pe_def (ok_filled T) hr rfl (pa_2 (pv 6) (pv 7))) (pv 12) (nomark _)))), ?_⟩ (fun u hu hC => ⟨_, (psr_4
      (ps_set (i := 1) sc_law.nd rfl (Or.inl rfl) (pe_def (ok__law_stream T) hr rfl (pa_2 (pe_def (ok__law_cell_at T) hr rfl (pa_2 (pv 0) pe_int)) pe_int)))
      (ps_set (i := 2) sc_law.nd rfl (Or.inl rfl) (pe_def (ok__law_words T) hr rfl (pa_2 (pe_ix (ix_listK K) (pv 1) pe_int (fun _ _ => rfl)) (pe_op op_add pe_int (pe_op op_mod (pe_ix (ix_listK K) (pv 1) pe_int (fun _ _ => rfl)) pe_int)))))
      (ps_set (i := 3) sc_law.nd rfl (Or.inl rfl) (pe_op op_cat (pe_slice (sl_listK K) (pv 0) (po_some pe_int) (po_some pe_int)) (pe_def (ok__law_stream T) hr rfl (pa_2 (pe_ix (ix_listK K) (pv 1) pe_int (fun _ _ => rfl)) pe_int))))
      (ps_if (pt_cmpR op_eq (pe_op op_mod (pe_ix (ix_listK K) (pv 1) pe_int (fun _ _ => rfl)) pe_int) pe_int (nomark _)) (pss_2
      (ps_set (i := 4) sc_law.nd rfl (Or.inl rfl) (pe_def (ok__law_why T) hr rfl (pa_3 (pe_slice (sl_listK K) (pv 3) po_none (po_some pe_int)) (pe_slice (sl_listK K) (pv 2) po_none (po_some (pe_un un_neg pe_int))) pe_int)))
      (ps_set (i := 5) sc_law.nd rfl (Or.inl rfl) (pe_def (ok__law_fillings T) hr rfl (pa_3 (pe_slice (sl_listK K) (pv 3) (po_some pe_int) po_none) (pv 2) pe_int)))) (pss_2
      (ps_set (i := 4) sc_law.nd rfl (Or.inl rfl) (pe_def (ok__law_why T) hr rfl (pa_3 (pe_slice3 K (pv 3) po_none po_none (po_some pe_int)) (pe_slice (sl_listK K) (pv 2) po_none (po_some (pe_un un_neg pe_int))) pe_int)))
      (ps_set (i := 5) sc_law.nd rfl (Or.inl rfl) (pe_def (ok__law_fillings T) hr rfl (pa_3 (pe_slice (sl_listK K) (pv 3) (po_some pe_int) po_none) (pv 2) pe_int)))))
      hu), ?_⟩)
    · rintro σ H1 ⟨o, du, ku, W, D, v1, v2, v3, rfl, wo, gu, hpD, R⟩
      refine ⟨_, rfl, _, _, rfl, .inl (SqL.of wo.lst), fun h hh => ?_⟩
      have s1 := same_upd (o := HO.lst wo.xs) hh
      have wh := wo.copy hh
      have wo1 := wo.same s1
      replace gu := s1 _ _ gu
      replace hpD := fp_same s1 hpD
      generalize upd H1 h (.lst wo.xs) = H2 at *
      refine ⟨_, rfl, du, ku, D, rfl, gu, hpD, R.nd, R.l6, fun fb kb ou GP kP gu2 gb hpB => ?_⟩
      replace wh := wh.keepS kP
      replace wo1 := wo1.keepS kP
      replace hpD := fp_keepS kP hpD
      have fdB : FD GP fb D := ⟨kb, .inl gb, hpB⟩
      have fdU : FD GP du D := ⟨ku, .inr ⟨ou, gu2⟩, hpD⟩
      refine ⟨_, rfl, _, rfl, h, fb, W, D, rfl, wh, fdB, R.ok, fun fo G3 s3 hfo wf => ?_⟩
      have hrl : (rawF (sb D) W).length ≤ 50000 := by
        have := raw_len (D := sb D) (W := W) fun p hp => by
          have := (R.raw p hp p.1.length).1
          rw [List.take_length] at this
          exact this
        have := wo1.bd.1
        omega
      refine ⟨_, rfl, _, rfl, o, du, W, D, rfl, wo1.same s3, fdU.same s3, R.raw, hrl, fun dd G4 s4 hdd _ => ?_⟩
      have eT : tg (flatF (sb D) W) = told (gath (rawF (sb D) W)) := (raw_tg R.nS wo1.bd.nn).symm
      have posR : ∀ p ∈ rawF (sb D) W, 1 ≤ p.2 ∧ p.1.length ≤ 1000 := fun p hp => by
        obtain ⟨r, hr1, hr2⟩ := List.mem_flatMap.mp hp
        have b1 := R.raw r hr1 r.1.length
        rw [List.take_length] at b1
        refine ⟨rawP_pos r.1 (fun x _ => R.pD x) (fun q hq => ?_) p hr2, (b1.2 p hr2).2.1⟩
        rw [List.mem_singleton.mp hq]
        exact R.pW r hr1
      obtain ⟨wr, wl, wk⟩ := gath_why (ps := rawF (sb D) W) (fun p hp => (posR p hp).2)
      have full := told_full (gath_pos (ps := rawF (sb D) W) fun p hp => (posR p hp).1)
      have wf4 := wf.same s4
      rw [eT] at wf4
      have hfo4 := wf4.lst
      have hpf4 := wf4.prd
      have zl := Paired.length hpf4
      generalize hTT : gath (rawF (sb D) W) = TT at *
      have hzb := wf4.bd
      generalize wf4.xs = zs at *
      refine ⟨_, rfl, fo, _, zs, rfl, SqL.of hfo4, pls_dats hpf4 fun p hp => (hzb.2 p hp).1, Nat.le_trans hzb.1 (by decide), wr, wk, _, rfl, iteF ?_⟩
      refine ⟨_, rfl, _, _, rfl, .inl ⟨_, SqL.of hfo4, rfl⟩, _, rfl, dd, _, rfl, hdd, rfl, _, rfl, iteFb ?_ ?_⟩
      · rw [zl, full]
        simp [encI]
      refine ⟨_, rfl, fo, rfl, ⟨_, SqL.of hfo4⟩, for_list (xs := zs) (fun i σ G => G = G4 ∧ ∃ u1 u2, σ = [some (.ref a), v1, v2, v3, some (.ref o), some (.ref du), some (.ref h), some (.ref fb), some (.ref fo), some (.ref dd), u1, u2, none]) ⟨rfl, _, _, rfl⟩ (fun i σ G _ z => by rw [z.1]; exact SqL.of hfo4) ?_ ?_⟩
      · rintro i x σ G hx ⟨rfl, u1, u2, rfl⟩
        obtain ⟨kv, hkv, q, b, rfl, hq, hb⟩ := paired_get hpf4 hx
        obtain ⟨m1, m2, m3⟩ := mem_told.mp (List.mem_of_getElem? hkv)
        have hget : DGet G dd (.ref b) ((getA TT kv.1).map V.int) := by
          rw [← valV_enc]
          exact DGet.t hdd (by rw [kV_strs]; exact hb)
        refine ⟨_, _, rfl, SqT.of hq, rfl, _, _, rfl, _, _, rfl, rfl, ?_⟩
        refine ⟨_, rfl, _, rfl, .inr ⟨_, .inl hdd⟩, _, rfl, _, hget, _, rfl, ?_⟩
        rw [opt_int, ← m2]
        exact ⟨rfl, _, rfl, iteFb (by simp) ⟨rfl, _, _, rfl⟩⟩
      rintro σ G ⟨rfl, u1, u2, rfl⟩
      refine ⟨_, rfl, _, _, rfl, .inl (SqL.of hfo4), fun ag hag => ?_⟩
      have s5 := same_upd (o := HO.lst zs) hag
      have hfo5 := s5 _ _ hfo4
      refine ⟨_, rfl, .inl ⟨rfl, _, SqL.of hfo5⟩, by show 1 ≤ sizeLine; decide, fun t1 ht1 => ?_⟩
      have s6 := same_upd (o := HO.tup [.str "a"]) ht1
      refine ⟨by show 2 ≤ sizeLine; decide, fun t2 ht2 => ?_⟩
      have s7 := same_upd (o := HO.tup [.ref t1, .int 1]) ht2
      have hfo7 := s7 _ _ (s6 _ _ hfo5)
      have zl2 : zs.length ≤ 200 := by rw [zl]; exact hzb.1
      refine ⟨_, _, _, rfl, rfl, hfo7, small1000 (by omega), ?_⟩
      have s57 := s5.trans (s6.trans s7)
      have sA := ((s3.trans s4).trans s57).set (o := HO.lst (zs ++ [V.ref t2])) hfo
      have k48 := (Same.keepT s57).upd (ys := zs ++ [V.ref t2]) hfo7
      have ne1 : ag ≠ fo := fun z => by rw [z, hfo4] at hag; cases hag
      have hag8 : upd (upd (upd (upd G ag (.lst zs)) t1 (.tup [.str "a"])) t2 (.tup [.ref t1, .int 1])) fo (.lst (zs ++ [V.ref t2])) ag = some (.lst zs) := by
        rw [upd_ne ne1]
        exact s7 _ _ (s6 _ _ upd_same)
      generalize upd (upd (upd (upd G ag (.lst zs)) t1 (.tup [.str "a"])) t2 (.tup [.ref t1, .int 1])) fo (.lst (zs ++ [V.ref t2])) = G8 at *
      have wag : WA G8 ag (told TT) := ⟨zs, hag8, pl_keep k48 hpf4, hzb⟩
      have wh8 := wh.same sA
      have wo8 := wo1.same sA
      have hpB8 := fp_same sA hpB
      have hpD8 := fp_same sA hpD
      refine ⟨_, rfl, _, rfl, _, _, wh8.dat, wo8.dat, depth_why _, _, rfl, iteFb (by rw [eqv_why (K := K) wo8]; rfl) ?_⟩
      refine ⟨_, rfl, _, rfl, fb, du, kb, ku, rfl, rfl, .inl (sA _ _ gb), .inr ⟨ou, sA _ _ gu2⟩, fp_datp hpB8 hpD8, _, rfl, iteF ?_⟩
      refine ⟨_, rfl, _, rfl, h, fb, W, D, rfl, wh8, fdB.same sA, R.ok, fun fo2 G9 s9 _ wf2 => ?_⟩
      rw [eT] at wf2
      refine ⟨_, rfl, _, _, wf2.dat, (wag.same s9).dat, depth_why _, ?_⟩
      rw [eqv_why (K := K) wag]
      exact k _
    · refine ⟨_, rfl, a, ns, 0, rfl, hS, by decide, _, _, rfl, by decide, by decide, fun p is H1 s1 hp il _ _ => ?_⟩
      have il5 : is.length = 5 := il
      have a0 : atI (is.map V.int) 0 = some (V.int (is.getD 0 0)) := at_ints (k := 0) (by omega)
      have a1 : atI (is.map V.int) 1 = some (V.int (is.getD 1 0)) := at_ints (k := 1) (by omega)
      have a2 : atI (is.map V.int) 2 = some (V.int (is.getD 2 0)) := at_ints (k := 2) (by omega)
      have a3 : atI (is.map V.int) 3 = some (V.int (is.getD 3 0)) := at_ints (k := 3) (by omega)
      generalize is.getD 0 0 = i0 at *
      generalize is.getD 1 0 = i1 at *
      generalize is.getD 2 0 = i2 at *
      generalize is.getD 3 0 = i3 at *
      refine ⟨_, rfl, _, _, _, _, rfl, rfl, SqL.of hp, a0, _, rfl, _, _, _, _, rfl, rfl, SqL.of hp, a1, _, _, rfl, rfl, (by show (0 : Int) < 5; decide), _, _, rfl, rfl, _, _, rfl, by omega, by omega, fun wa ws H2 s2 hwa wl _ hwz => ?_⟩
      have hp2 := s2 _ _ hp
      refine ⟨_, rfl, _, rfl, _, rfl, _, _, rfl, (s1.trans s2).seq hS, fun q hq => ?_⟩
      obtain ⟨ms, em, lm⟩ := cut_ints ns (some 1) (some 61)
      rw [em]
      have s3 := same_upd (o := HO.lst (ms.map V.int)) hq
      refine ⟨_, rfl, _, _, _, _, rfl, rfl, SqL.of (s3 _ _ hp2), a2, _, 12, rfl, by decide, by decide, fun r js H4 s4 hr4 jl _ _ => ?_⟩
      have jl12 : js.length = 12 := jl
      refine ⟨_, _, _, _, rfl, rfl, s4 _ _ upd_same, hr4, by rw [List.length_map, List.length_map]; exact Nat.le_of_lt (small1000 (by omega)), fun cl hcl => ?_⟩
      have s5 := same_upd (o := HO.lst (ms.map V.int ++ js.map V.int)) hcl
      have hcs : upd H4 cl (.lst (ms.map V.int ++ js.map V.int)) cl = some (.lst ((ms ++ js).map V.int)) := by rw [upd_same, List.map_append]
      have hwa5 := s5 _ _ (s4 _ _ (s3 _ _ hwa))
      have hp5 := s5 _ _ (s4 _ _ (s3 _ _ hp2))
      have csl : 12 ≤ (ms ++ js).length := by rw [List.length_append]; omega
      have csu : (ms ++ js).length ≤ 80 := by rw [List.length_append]; omega
      generalize upd H4 cl (.lst (ms.map V.int ++ js.map V.int)) = H5 at *
      generalize ms ++ js = cs at *
      have wl2 : 2 ≤ ws.length := by omega
      have wl6 : ws.length ≤ 6 := by omega
      clear s3 s4 s5 s1 s2 hp hp2 hwa hr4
      have tz : ∀ z ∈ ws.take (ws.length - 1), Wz 40 z := fun z hz => hwz z (List.mem_of_mem_take hz)
      have tl : (ws.take (ws.length - 1)).length = ws.length - 1 := by rw [List.length_take]; omega
      refine ⟨_, rfl, _, _, _, _, rfl, rfl, SqL.of hp5, a3, _, _, rfl, rfl, (by show (0 : Int) < 2; decide), rfl, _, rfl, ite2 (fun h1 => ?_) (fun h1 => ?_)⟩
      · refine ⟨_, rfl, _, rfl, _, _, rfl, SqL.of hcs, fun q1 hq1 => ?_⟩
        obtain ⟨m1, e1, l1⟩ := cut_nat0 cs 3
        rw [show cutV (cs.map V.int) none (some 3) = m1.map V.int from e1]
        have t1 := same_upd (o := HO.lst (m1.map V.int)) hq1
        refine ⟨_, rfl, _, rfl, _, rfl, _, _, rfl, SqL.of (t1 _ _ hwa5), fun w2 hw2 => ?_⟩
        rw [cut_butlast, List.length_map, ← List.map_take]
        have t2 := same_upd (o := HO.lst ((ws.take (ws.length - 1)).map V.str)) hw2
        refine ⟨q1, w2, m1, ws.take (ws.length - 1), 3, rfl, t2 _ _ upd_same, by omega, upd_same, by omega, tz, by decide, by decide, fun o xs W H6 s6 _ ho hW oW => ?_⟩
        have tA := t1.trans (t2.trans s6)
        have bW := ws_bs (N := 3) oW l1 tz
        have wo : WA H6 o W := ⟨xs, ho, hW H6 (fun _ _ z => z), bW.bw (by decide) (by decide) (by decide)⟩
        refine ⟨_, rfl, _, rfl, _, _, rfl, SqL.of (tA _ _ hcs), fun q3 hq3 => ?_⟩
        rw [show cutV (cs.map V.int) (some 3) none = (cs.drop 3).map V.int from by rw [List.map_drop]; exact cut_drop (cs.map V.int) 3 (by rw [List.length_map]; omega)]
        have t3 := same_upd (o := HO.lst ((cs.drop 3).map V.int)) hq3
        refine ⟨_, rfl, q3, wa, cs.drop 3, ws, 3, rfl, by decide, upd_same, by rw [List.length_drop]; omega, t3 _ _ (tA _ _ hwa5), by omega, wl6, hwz, fun du ku D H8 s8 _ gu hpD fD lD => ?_⟩
        exact hC _ _ ⟨o, du, ku, W, D, _, _, _, rfl, wo.same (t3.trans s8), gu, hpD, ready_of bW (fun p hp => (oW.2.2 p hp).1) fD lD (by decide) (by decide) (by decide) (by decide) (by decide) (by decide)⟩
      · refine ⟨_, rfl, _, rfl, cl, cs, rfl, SqL.of hcs, by decide, fun q1 m1 hq1 l1 => ?_⟩
        have t1 := same_upd (o := HO.lst (m1.map V.int)) hq1
        refine ⟨_, rfl, _, rfl, _, rfl, _, _, rfl, SqL.of (t1 _ _ hwa5), fun w2 hw2 => ?_⟩
        rw [cut_butlast, List.length_map, ← List.map_take]
        have t2 := same_upd (o := HO.lst ((ws.take (ws.length - 1)).map V.str)) hw2
        refine ⟨q1, w2, m1, ws.take (ws.length - 1), 1, rfl, t2 _ _ upd_same, by omega, upd_same, by omega, tz, by decide, by decide, fun o xs W H6 s6 _ ho hW oW => ?_⟩
        have tA := t1.trans (t2.trans s6)
        have bW0 := ws_bs (N := 80) oW (by omega) tz
        have wl7 := one_few oW
        have bW : Bs 6 1 (80 * (80 * 10 ^ 30)) W := ⟨by omega, bW0.2.1, bW0.2.2⟩
        have wo : WA H6 o W := ⟨xs, ho, hW H6 (fun _ _ z => z), bW.bw (by decide) (by decide) (by decide)⟩
        refine ⟨_, rfl, _, rfl, _, _, rfl, SqL.of (tA _ _ hcs), fun q3 hq3 => ?_⟩
        rw [show cutV (cs.map V.int) (some 1) none = (cs.drop 1).map V.int from by rw [List.map_drop]; exact cut_drop (cs.map V.int) 1 (by rw [List.length_map]; omega)]
        have t3 := same_upd (o := HO.lst ((cs.drop 1).map V.int)) hq3
        refine ⟨_, rfl, q3, wa, cs.drop 1, ws, 20, rfl, by decide, upd_same, by rw [List.length_drop]; omega, t3 _ _ (tA _ _ hwa5), by omega, wl6, hwz, fun du ku D H8 s8 _ gu hpD fD lD => ?_⟩
        exact hC _ _ ⟨o, du, ku, W, D, _, _, _, rfl, wo.same (t3.trans s8), gu, hpD, ready_of bW (fun p hp => (oW.2.2 p hp).1) fD lD (by decide) (by decide) (by decide) (by decide) (by decide) (by decide)⟩
theorem txt_mk {K : PySem.W.Frag} {h : Heap} {mg : Str → Option Value} (X : K.In h) (G : h.Ns mainGlobals mg) {f_of_fact : Addr} {oc_of_fact kV_of_fact dc_of_fact pm_of_fact cd_of_fact ct_of_fact : Value} {od_of_fact an_of_fact : Option Addr} {sl_of_fact : Array (Option Value)} {f_count_in : Addr} {oc_count_in kV_count_in dc_count_in pm_count_in cd_count_in ct_count_in : Value} {od_count_in an_count_in : Option Addr} {sl_count_in : Array (Option Value)} {f_told_as_why : Addr} {oc_told_as_why kV_told_as_why dc_told_as_why pm_told_as_why cd_told_as_why ct_told_as_why : Value} {od_told_as_why an_told_as_why : Option Addr} {sl_told_as_why : Array (Option Value)} {f_gathered : Addr} {oc_gathered kV_gathered dc_gathered pm_gathered cd_gathered ct_gathered : Value} {od_gathered an_gathered : Option Addr} {sl_gathered : Array (Option Value)} {f_times : Addr} {oc_times kV_times dc_times pm_times cd_times ct_times : Value} {od_times an_times : Option Addr} {sl_times : Array (Option Value)} {f_product_filled : Addr} {oc_product_filled kV_product_filled dc_product_filled pm_product_filled cd_product_filled ct_product_filled : Value} {od_product_filled an_product_filled : Option Addr} {sl_product_filled : Array (Option Value)} {f_filled : Addr} {oc_filled kV_filled dc_filled pm_filled cd_filled ct_filled : Value} {od_filled an_filled : Option Addr} {sl_filled : Array (Option Value)} {f__law_cell_at : Addr} {oc__law_cell_at kV__law_cell_at dc__law_cell_at pm__law_cell_at cd__law_cell_at ct__law_cell_at : Value} {od__law_cell_at an__law_cell_at : Option Addr} {sl__law_cell_at : Array (Option Value)} {f__law_stream : Addr} {oc__law_stream kV__law_stream dc__law_stream pm__law_stream cd__law_stream ct__law_stream : Value} {od__law_stream an__law_stream : Option Addr} {sl__law_stream : Array (Option Value)} {f__law_word : Addr} {oc__law_word kV__law_word dc__law_word pm__law_word cd__law_word ct__law_word : Value} {od__law_word an__law_word : Option Addr} {sl__law_word : Array (Option Value)} {f__law_words : Addr} {oc__law_words kV__law_words dc__law_words pm__law_words cd__law_words ct__law_words : Value} {od__law_words an__law_words : Option Addr} {sl__law_words : Array (Option Value)} {f__law_why : Addr} {oc__law_why kV__law_why dc__law_why pm__law_why cd__law_why ct__law_why : Value} {od__law_why an__law_why : Option Addr} {sl__law_why : Array (Option Value)} {f__law_is_product : Addr} {oc__law_is_product kV__law_is_product dc__law_is_product pm__law_is_product cd__law_is_product ct__law_is_product : Value} {od__law_is_product an__law_is_product : Option Addr} {sl__law_is_product : Array (Option Value)} {f__law_is_why : Addr} {oc__law_is_why kV__law_is_why dc__law_is_why pm__law_is_why cd__law_is_why ct__law_is_why : Value} {od__law_is_why an__law_is_why : Option Addr} {sl__law_is_why : Array (Option Value)} {f__law_fillings : Addr} {oc__law_fillings kV__law_fillings dc__law_fillings pm__law_fillings cd__law_fillings ct__law_fillings : Value} {od__law_fillings an__law_fillings : Option Addr} {sl__law_fillings : Array (Option Value)} {f__law_due : Addr} {oc__law_due kV__law_due dc__law_due pm__law_due cd__law_due ct__law_due : Value} {od__law_due an__law_due : Option Addr} {sl__law_due : Array (Option Value)} {f__law_copied : Addr} {oc__law_copied kV__law_copied dc__law_copied pm__law_copied cd__law_copied ct__law_copied : Value} {od__law_copied an__law_copied : Option Addr} {sl__law_copied : Array (Option Value)} {f_law : Addr} {oc_law kV_law dc_law pm_law cd_law ct_law : Value} {od_law an_law : Option Addr} {sl_law : Array (Option Value)}
    (z_bool : PySem.W.nsIn K mainGlobals "bool" = some none)
    (z_int : PySem.W.nsIn K mainGlobals "int" = some none)
    (z_isinstance : PySem.W.nsIn K mainGlobals "isinstance" = some none)
    (z_len : PySem.W.nsIn K mainGlobals "len" = some none)
    (z_list : PySem.W.nsIn K mainGlobals "list" = some none)
    (z_range : PySem.W.nsIn K mainGlobals "range" = some none)
    (z_sorted : PySem.W.nsIn K mainGlobals "sorted" = some none)
    (z_str : PySem.W.nsIn K mainGlobals "str" = some none)
    (z_tuple : PySem.W.nsIn K mainGlobals "tuple" = some none)
    (a_of_fact : PySem.W.nsIn K mainGlobals "of_fact" = some (some (.ref f_of_fact)))
    (l_of_fact : K.lookup f_of_fact = some ⟨oc_of_fact, od_of_fact, .func (PySem.W.fnOf "of_fact" "of_fact" (defArgs s_of_fact) (defBody s_of_fact) (defScope s_of_fact) .none kV_of_fact dc_of_fact pm_of_fact an_of_fact cd_of_fact ct_of_fact), sl_of_fact⟩)
    (c_of_fact : PySem.W.codeIn K cd_of_fact "of_fact" = true)
    (k_of_fact : PySem.W.keepIn K (.ref f_of_fact) = true)
    (a_count_in : PySem.W.nsIn K mainGlobals "count_in" = some (some (.ref f_count_in)))
    (l_count_in : K.lookup f_count_in = some ⟨oc_count_in, od_count_in, .func (PySem.W.fnOf "count_in" "count_in" (defArgs s_count_in) (defBody s_count_in) (defScope s_count_in) .none kV_count_in dc_count_in pm_count_in an_count_in cd_count_in ct_count_in), sl_count_in⟩)
    (c_count_in : PySem.W.codeIn K cd_count_in "count_in" = true)
    (k_count_in : PySem.W.keepIn K (.ref f_count_in) = true)
    (a_told_as_why : PySem.W.nsIn K mainGlobals "told_as_why" = some (some (.ref f_told_as_why)))
    (l_told_as_why : K.lookup f_told_as_why = some ⟨oc_told_as_why, od_told_as_why, .func (PySem.W.fnOf "told_as_why" "told_as_why" (defArgs s_told_as_why) (defBody s_told_as_why) (defScope s_told_as_why) .none kV_told_as_why dc_told_as_why pm_told_as_why an_told_as_why cd_told_as_why ct_told_as_why), sl_told_as_why⟩)
    (c_told_as_why : PySem.W.codeIn K cd_told_as_why "told_as_why" = true)
    (k_told_as_why : PySem.W.keepIn K (.ref f_told_as_why) = true)
    (a_gathered : PySem.W.nsIn K mainGlobals "gathered" = some (some (.ref f_gathered)))
    (l_gathered : K.lookup f_gathered = some ⟨oc_gathered, od_gathered, .func (PySem.W.fnOf "gathered" "gathered" (defArgs s_gathered) (defBody s_gathered) (defScope s_gathered) .none kV_gathered dc_gathered pm_gathered an_gathered cd_gathered ct_gathered), sl_gathered⟩)
    (c_gathered : PySem.W.codeIn K cd_gathered "gathered" = true)
    (k_gathered : PySem.W.keepIn K (.ref f_gathered) = true)
    (a_times : PySem.W.nsIn K mainGlobals "times" = some (some (.ref f_times)))
    (l_times : K.lookup f_times = some ⟨oc_times, od_times, .func (PySem.W.fnOf "times" "times" (defArgs s_times) (defBody s_times) (defScope s_times) .none kV_times dc_times pm_times an_times cd_times ct_times), sl_times⟩)
    (c_times : PySem.W.codeIn K cd_times "times" = true)
    (k_times : PySem.W.keepIn K (.ref f_times) = true)
    (a_product_filled : PySem.W.nsIn K mainGlobals "product_filled" = some (some (.ref f_product_filled)))
    (l_product_filled : K.lookup f_product_filled = some ⟨oc_product_filled, od_product_filled, .func (PySem.W.fnOf "product_filled" "product_filled" (defArgs s_product_filled) (defBody s_product_filled) (defScope s_product_filled) .none kV_product_filled dc_product_filled pm_product_filled an_product_filled cd_product_filled ct_product_filled), sl_product_filled⟩)
    (c_product_filled : PySem.W.codeIn K cd_product_filled "product_filled" = true)
    (k_product_filled : PySem.W.keepIn K (.ref f_product_filled) = true)
    (a_filled : PySem.W.nsIn K mainGlobals "filled" = some (some (.ref f_filled)))
    (l_filled : K.lookup f_filled = some ⟨oc_filled, od_filled, .func (PySem.W.fnOf "filled" "filled" (defArgs s_filled) (defBody s_filled) (defScope s_filled) .none kV_filled dc_filled pm_filled an_filled cd_filled ct_filled), sl_filled⟩)
    (c_filled : PySem.W.codeIn K cd_filled "filled" = true)
    (k_filled : PySem.W.keepIn K (.ref f_filled) = true)
    (a__law_cell_at : PySem.W.nsIn K mainGlobals "_law_cell_at" = some (some (.ref f__law_cell_at)))
    (l__law_cell_at : K.lookup f__law_cell_at = some ⟨oc__law_cell_at, od__law_cell_at, .func (PySem.W.fnOf "_law_cell_at" "_law_cell_at" (defArgs s__law_cell_at) (defBody s__law_cell_at) (defScope s__law_cell_at) .none kV__law_cell_at dc__law_cell_at pm__law_cell_at an__law_cell_at cd__law_cell_at ct__law_cell_at), sl__law_cell_at⟩)
    (c__law_cell_at : PySem.W.codeIn K cd__law_cell_at "_law_cell_at" = true)
    (k__law_cell_at : PySem.W.keepIn K (.ref f__law_cell_at) = true)
    (a__law_stream : PySem.W.nsIn K mainGlobals "_law_stream" = some (some (.ref f__law_stream)))
    (l__law_stream : K.lookup f__law_stream = some ⟨oc__law_stream, od__law_stream, .func (PySem.W.fnOf "_law_stream" "_law_stream" (defArgs s__law_stream) (defBody s__law_stream) (defScope s__law_stream) .none kV__law_stream dc__law_stream pm__law_stream an__law_stream cd__law_stream ct__law_stream), sl__law_stream⟩)
    (c__law_stream : PySem.W.codeIn K cd__law_stream "_law_stream" = true)
    (k__law_stream : PySem.W.keepIn K (.ref f__law_stream) = true)
    (a__law_word : PySem.W.nsIn K mainGlobals "_law_word" = some (some (.ref f__law_word)))
    (l__law_word : K.lookup f__law_word = some ⟨oc__law_word, od__law_word, .func (PySem.W.fnOf "_law_word" "_law_word" (defArgs s__law_word) (defBody s__law_word) (defScope s__law_word) .none kV__law_word dc__law_word pm__law_word an__law_word cd__law_word ct__law_word), sl__law_word⟩)
    (c__law_word : PySem.W.codeIn K cd__law_word "_law_word" = true)
    (k__law_word : PySem.W.keepIn K (.ref f__law_word) = true)
    (a__law_words : PySem.W.nsIn K mainGlobals "_law_words" = some (some (.ref f__law_words)))
    (l__law_words : K.lookup f__law_words = some ⟨oc__law_words, od__law_words, .func (PySem.W.fnOf "_law_words" "_law_words" (defArgs s__law_words) (defBody s__law_words) (defScope s__law_words) .none kV__law_words dc__law_words pm__law_words an__law_words cd__law_words ct__law_words), sl__law_words⟩)
    (c__law_words : PySem.W.codeIn K cd__law_words "_law_words" = true)
    (k__law_words : PySem.W.keepIn K (.ref f__law_words) = true)
    (a__law_why : PySem.W.nsIn K mainGlobals "_law_why" = some (some (.ref f__law_why)))
    (l__law_why : K.lookup f__law_why = some ⟨oc__law_why, od__law_why, .func (PySem.W.fnOf "_law_why" "_law_why" (defArgs s__law_why) (defBody s__law_why) (defScope s__law_why) .none kV__law_why dc__law_why pm__law_why an__law_why cd__law_why ct__law_why), sl__law_why⟩)
    (c__law_why : PySem.W.codeIn K cd__law_why "_law_why" = true)
    (k__law_why : PySem.W.keepIn K (.ref f__law_why) = true)
    (a__law_is_product : PySem.W.nsIn K mainGlobals "_law_is_product" = some (some (.ref f__law_is_product)))
    (l__law_is_product : K.lookup f__law_is_product = some ⟨oc__law_is_product, od__law_is_product, .func (PySem.W.fnOf "_law_is_product" "_law_is_product" (defArgs s__law_is_product) (defBody s__law_is_product) (defScope s__law_is_product) .none kV__law_is_product dc__law_is_product pm__law_is_product an__law_is_product cd__law_is_product ct__law_is_product), sl__law_is_product⟩)
    (c__law_is_product : PySem.W.codeIn K cd__law_is_product "_law_is_product" = true)
    (k__law_is_product : PySem.W.keepIn K (.ref f__law_is_product) = true)
    (a__law_is_why : PySem.W.nsIn K mainGlobals "_law_is_why" = some (some (.ref f__law_is_why)))
    (l__law_is_why : K.lookup f__law_is_why = some ⟨oc__law_is_why, od__law_is_why, .func (PySem.W.fnOf "_law_is_why" "_law_is_why" (defArgs s__law_is_why) (defBody s__law_is_why) (defScope s__law_is_why) .none kV__law_is_why dc__law_is_why pm__law_is_why an__law_is_why cd__law_is_why ct__law_is_why), sl__law_is_why⟩)
    (c__law_is_why : PySem.W.codeIn K cd__law_is_why "_law_is_why" = true)
    (k__law_is_why : PySem.W.keepIn K (.ref f__law_is_why) = true)
    (a__law_fillings : PySem.W.nsIn K mainGlobals "_law_fillings" = some (some (.ref f__law_fillings)))
    (l__law_fillings : K.lookup f__law_fillings = some ⟨oc__law_fillings, od__law_fillings, .func (PySem.W.fnOf "_law_fillings" "_law_fillings" (defArgs s__law_fillings) (defBody s__law_fillings) (defScope s__law_fillings) .none kV__law_fillings dc__law_fillings pm__law_fillings an__law_fillings cd__law_fillings ct__law_fillings), sl__law_fillings⟩)
    (c__law_fillings : PySem.W.codeIn K cd__law_fillings "_law_fillings" = true)
    (k__law_fillings : PySem.W.keepIn K (.ref f__law_fillings) = true)
    (a__law_due : PySem.W.nsIn K mainGlobals "_law_due" = some (some (.ref f__law_due)))
    (l__law_due : K.lookup f__law_due = some ⟨oc__law_due, od__law_due, .func (PySem.W.fnOf "_law_due" "_law_due" (defArgs s__law_due) (defBody s__law_due) (defScope s__law_due) .none kV__law_due dc__law_due pm__law_due an__law_due cd__law_due ct__law_due), sl__law_due⟩)
    (c__law_due : PySem.W.codeIn K cd__law_due "_law_due" = true)
    (k__law_due : PySem.W.keepIn K (.ref f__law_due) = true)
    (a__law_copied : PySem.W.nsIn K mainGlobals "_law_copied" = some (some (.ref f__law_copied)))
    (l__law_copied : K.lookup f__law_copied = some ⟨oc__law_copied, od__law_copied, .func (PySem.W.fnOf "_law_copied" "_law_copied" (defArgs s__law_copied) (defBody s__law_copied) (defScope s__law_copied) .none kV__law_copied dc__law_copied pm__law_copied an__law_copied cd__law_copied ct__law_copied), sl__law_copied⟩)
    (c__law_copied : PySem.W.codeIn K cd__law_copied "_law_copied" = true)
    (k__law_copied : PySem.W.keepIn K (.ref f__law_copied) = true)
    (a_law : PySem.W.nsIn K mainGlobals "law" = some (some (.ref f_law)))
    (l_law : K.lookup f_law = some ⟨oc_law, od_law, .func (PySem.W.fnOf "law" "law" (defArgs s_law) (defBody s_law) (defScope s_law) .none kV_law dc_law pm_law an_law cd_law ct_law), sl_law⟩)
    (c_law : PySem.W.codeIn K cd_law "law" = true)
    (k_law : PySem.W.keepIn K (.ref f_law) = true) : Txt K mg :=
  ⟨PySem.W.mg_none_of X G z_bool,
    PySem.W.mg_none_of X G z_int,
    PySem.W.mg_none_of X G z_isinstance,
    PySem.W.mg_none_of X G z_len,
    PySem.W.mg_none_of X G z_list,
    PySem.W.mg_none_of X G z_range,
    PySem.W.mg_none_of X G z_sorted,
    PySem.W.mg_none_of X G z_str,
    PySem.W.mg_none_of X G z_tuple,
    top_mk X G (fun _ _ _ _ _ _ us hl => match us, hl with | [_], _ => rfl) a_of_fact l_of_fact c_of_fact k_of_fact,
    top_mk X G (fun _ _ _ _ _ _ us hl => match us, hl with | [_, _, _], _ => rfl) a_count_in l_count_in c_count_in k_count_in,
    top_mk X G (fun _ _ _ _ _ _ us hl => match us, hl with | [_], _ => rfl) a_told_as_why l_told_as_why c_told_as_why k_told_as_why,
    top_mk X G (fun _ _ _ _ _ _ us hl => match us, hl with | [_], _ => rfl) a_gathered l_gathered c_gathered k_gathered,
    top_mk X G (fun _ _ _ _ _ _ us hl => match us, hl with | [_, _], _ => rfl) a_times l_times c_times k_times,
    top_mk X G (fun _ _ _ _ _ _ us hl => match us, hl with | [_, _, _], _ => rfl) a_product_filled l_product_filled c_product_filled k_product_filled,
    top_mk X G (fun _ _ _ _ _ _ us hl => match us, hl with | [_, _], _ => rfl) a_filled l_filled c_filled k_filled,
    top_mk X G (fun _ _ _ _ _ _ us hl => match us, hl with | [_, _], _ => rfl) a__law_cell_at l__law_cell_at c__law_cell_at k__law_cell_at,
    top_mk X G (fun _ _ _ _ _ _ us hl => match us, hl with | [_, _], _ => rfl) a__law_stream l__law_stream c__law_stream k__law_stream,
    top_mk X G (fun _ _ _ _ _ _ us hl => match us, hl with | [_, _], _ => rfl) a__law_word l__law_word c__law_word k__law_word,
    top_mk X G (fun _ _ _ _ _ _ us hl => match us, hl with | [_, _], _ => rfl) a__law_words l__law_words c__law_words k__law_words,
    top_mk X G (fun _ _ _ _ _ _ us hl => match us, hl with | [_, _, _], _ => rfl) a__law_why l__law_why c__law_why k__law_why,
    top_mk X G (fun _ _ _ _ _ _ us hl => match us, hl with | [_], _ => rfl) a__law_is_product l__law_is_product c__law_is_product k__law_is_product,
    top_mk X G (fun _ _ _ _ _ _ us hl => match us, hl with | [_], _ => rfl) a__law_is_why l__law_is_why c__law_is_why k__law_is_why,
    top_mk X G (fun _ _ _ _ _ _ us hl => match us, hl with | [_, _, _], _ => rfl) a__law_fillings l__law_fillings c__law_fillings k__law_fillings,
    top_mk X G (fun _ _ _ _ _ _ us hl => match us, hl with | [_, _], _ => rfl) a__law_due l__law_due c__law_due k__law_due,
    top_mk X G (fun _ _ _ _ _ _ us hl => match us, hl with | [_], _ => rfl) a__law_copied l__law_copied c__law_copied k__law_copied,
    top_mk X G (fun _ _ _ _ _ _ us hl => match us, hl with | [_], _ => rfl) a_law l_law c_law k_law⟩
end Wy
open PySem PySem.W PyProof.Rows
set_option maxRecDepth 100000 in
set_option maxHeartbeats 0 in
theorem PySem.Challenge.cw_whyrows_k16_filled_holds : PySem.Challenge.rw_whyrows_k16_filled.Holds := by
  w_on; o_law; k_head; (case hw => w_witness2)
  k_fill
  refine L2.walk_ofK (l := PySem.Challenge.rw_whyrows_k16_filled) (n := 63) (k := 5) (x := "_law_script") (CX := L2.CX0) (sp := Wy.sp_law) rfl (by decide) rfl ⟨rfl, by decide, by decide⟩ (fun w h Y => PySem.W.kIn_of Y) ?F ?S ?C
  case F =>
    intro w mg fa h KX G hmg
    have T : Wy.Txt (L2.KOf KX) mg := by
      dsimp only [L2.KOf]
      refine' Wy.txt_mk KX G ?z_bool ?z_int ?z_isinstance ?z_len ?z_list ?z_range ?z_sorted ?z_str ?z_tuple ?a_of_fact ?l_of_fact ?c_of_fact ?k_of_fact ?a_count_in ?l_count_in ?c_count_in ?k_count_in ?a_told_as_why ?l_told_as_why ?c_told_as_why ?k_told_as_why ?a_gathered ?l_gathered ?c_gathered ?k_gathered ?a_times ?l_times ?c_times ?k_times ?a_product_filled ?l_product_filled ?c_product_filled ?k_product_filled ?a_filled ?l_filled ?c_filled ?k_filled ?a__law_cell_at ?l__law_cell_at ?c__law_cell_at ?k__law_cell_at ?a__law_stream ?l__law_stream ?c__law_stream ?k__law_stream ?a__law_word ?l__law_word ?c__law_word ?k__law_word ?a__law_words ?l__law_words ?c__law_words ?k__law_words ?a__law_why ?l__law_why ?c__law_why ?k__law_why ?a__law_is_product ?l__law_is_product ?c__law_is_product ?k__law_is_product ?a__law_is_why ?l__law_is_why ?c__law_is_why ?k__law_is_why ?a__law_fillings ?l__law_fillings ?c__law_fillings ?k__law_fillings ?a__law_due ?l__law_due ?c__law_due ?k__law_due ?a__law_copied ?l__law_copied ?c__law_copied ?k__law_copied ?a_law ?l_law ?c_law ?k_law
      (case z_bool => k_is)
      (case z_int => k_is)
      (case z_isinstance => k_is)
      (case z_len => k_is)
      (case z_list => k_is)
      (case z_range => k_is)
      (case z_sorted => k_is)
      (case z_str => k_is)
      (case z_tuple => k_is)
      (case a_of_fact => k_is)
      (case l_of_fact => k_is)
      (case c_of_fact => k_is)
      (case k_of_fact => k_is)
      (case a_count_in => k_is)
      (case l_count_in => k_is)
      (case c_count_in => k_is)
      (case k_count_in => k_is)
      (case a_told_as_why => k_is)
      (case l_told_as_why => k_is)
      (case c_told_as_why => k_is)
      (case k_told_as_why => k_is)
      (case a_gathered => k_is)
      (case l_gathered => k_is)
      (case c_gathered => k_is)
      (case k_gathered => k_is)
      (case a_times => k_is)
      (case l_times => k_is)
      (case c_times => k_is)
      (case k_times => k_is)
      (case a_product_filled => k_is)
      (case l_product_filled => k_is)
      (case c_product_filled => k_is)
      (case k_product_filled => k_is)
      (case a_filled => k_is)
      (case l_filled => k_is)
      (case c_filled => k_is)
      (case k_filled => k_is)
      (case a__law_cell_at => k_is)
      (case l__law_cell_at => k_is)
      (case c__law_cell_at => k_is)
      (case k__law_cell_at => k_is)
      (case a__law_stream => k_is)
      (case l__law_stream => k_is)
      (case c__law_stream => k_is)
      (case k__law_stream => k_is)
      (case a__law_word => k_is)
      (case l__law_word => k_is)
      (case c__law_word => k_is)
      (case k__law_word => k_is)
      (case a__law_words => k_is)
      (case l__law_words => k_is)
      (case c__law_words => k_is)
      (case k__law_words => k_is)
      (case a__law_why => k_is)
      (case l__law_why => k_is)
      (case c__law_why => k_is)
      (case k__law_why => k_is)
      (case a__law_is_product => k_is)
      (case l__law_is_product => k_is)
      (case c__law_is_product => k_is)
      (case k__law_is_product => k_is)
      (case a__law_is_why => k_is)
      (case l__law_is_why => k_is)
      (case c__law_is_why => k_is)
      (case k__law_is_why => k_is)
      (case a__law_fillings => k_is)
      (case l__law_fillings => k_is)
      (case c__law_fillings => k_is)
      (case k__law_fillings => k_is)
      (case a__law_due => k_is)
      (case l__law_due => k_is)
      (case c__law_due => k_is)
      (case k__law_due => k_is)
      (case a__law_copied => k_is)
      (case l__law_copied => k_is)
      (case c__law_copied => k_is)
      (case k__law_copied => k_is)
      (case a_law => k_is)
      (case l_law => k_is)
      (case c_law => k_is)
      (case k_law => k_is)
    exact Wy.ok_law T hmg
  case S => exact fun K H a ns hl hO hS => ⟨a, ns, rfl, hS, hl, fun _ => rfl⟩
  case C => exact fun _ _ _ _ z => z
