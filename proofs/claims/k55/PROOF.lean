import PyProof.Rows.All
import Wide.All
import OpenK.AllK
import PySem.Challenge.RW_whyrows_k55_asked
set_option Elab.async false
set_option linter.all false
set_option maxRecDepth 100000
set_option maxHeartbeats 4000000
set_option genSizeOf false
namespace Tim
open PySem PyProof.Rows
def kx (rk : Keyed → Int) (xs : Array Keyed) (i : Nat) : Int := match xs[i]? with
  | some p => rk p
  | none => 0
def Up (rk : Keyed → Int) (xs : Array Keyed) (lo hi : Nat) : Prop := ∀ i j, lo ≤ i → i ≤ j → j < hi → kx rk xs i ≤ kx rk xs j
def Dn (rk : Keyed → Int) (xs : Array Keyed) (lo hi : Nat) : Prop := ∀ i j, lo ≤ i → i ≤ j → j < hi → kx rk xs j ≤ kx rk xs i
theorem kx_of {rk : Keyed → Int} {xs : Array Keyed} {i : Nat} {p : Keyed} (h : xs[i]? = some p) : kx rk xs i = rk p := by unfold kx; rw [h]
theorem kx_same {rk : Keyed → Int} {xs ys : Array Keyed} {i j : Nat} (h : xs[i]? = ys[j]?) : kx rk xs i = kx rk ys j := by unfold kx; rw [h]
def LtOk (M : Model) (A : Around) (E : Value → Shared → Prop) (s : Shared) (kd : SortKind) (S : Keyed → Prop) (rk : Keyed → Int) : Prop :=
  ∀ (x y : Keyed) (st : SortSt) (Q : Option Bool → SortSt → Prop), S x → S y → kindOf st = kd → Q (some (decide (rk x < rk y))) st → wpS M A E s (lt' x y) Q st
structure Mv (lo hi : Nat) (st st' : SortSt) : Prop where
  perm : (arrOf st').Perm (arrOf st)
  out : ∀ k, k < lo ∨ hi ≤ k → (arrOf st')[k]? = (arrOf st)[k]?
  kind : kindOf st' = kindOf st
  pend : pendingOf st' = pendingOf st
  failed : failedOf st' = failedOf st
theorem Mv.refl (lo hi : Nat) (st : SortSt) : Mv lo hi st st := ⟨Array.Perm.refl _, fun _ _ => rfl, rfl, rfl, rfl⟩
theorem Mv.trans {lo hi : Nat} {a b c : SortSt} (h : Mv lo hi a b) (k : Mv lo hi b c) : Mv lo hi a c :=
  ⟨k.perm.trans h.perm, fun i hi => (k.out i hi).trans (h.out i hi), k.kind.trans h.kind, k.pend.trans h.pend, k.failed.trans h.failed⟩
theorem Mv.size {lo hi : Nat} {a b : SortSt} (h : Mv lo hi a b) : (arrOf b).size = (arrOf a).size := h.perm.size_eq
structure Sane (kd : SortKind) (S : Keyed → Prop) (n : Nat) (st : SortSt) : Prop where
  size : (arrOf st).size = n
  all : ∀ p ∈ (arrOf st).toList, S p
  kind : kindOf st = kd
  failed : failedOf st = none
theorem Mv.sane {lo hi : Nat} {a b : SortSt} {kd : SortKind} {S : Keyed → Prop} {n : Nat} (h : Mv lo hi a b) (k : Sane kd S n a) : Sane kd S n b :=
  ⟨h.size.trans k.size, fun p hp => k.all p ((Array.perm_iff_toList_perm.mp h.perm).mem_iff.mp hp), h.kind.trans k.kind, h.failed.trans k.failed⟩
theorem Sane.at {kd : SortKind} {S : Keyed → Prop} {n : Nat} {st : SortSt} (rk : Keyed → Int) (k : Sane kd S n st) {i : Nat} (hi : i < n) : ∃ p, (arrOf st)[i]? = some p ∧ S p ∧ kx rk (arrOf st) i = rk p := by
  have hi' : i < (arrOf st).size := by rw [k.size]; exact hi
  have e : (arrOf st)[i]? = some (arrOf st)[i] := getElem?_pos _ i hi'
  exact ⟨_, e, k.all _ (by simp), kx_of e⟩
theorem Mv.mirrored {lo hi i j : Nat} {st : SortSt} (h1 : lo ≤ i) (h2 : j ≤ hi) (hj : j ≤ (arrOf st).size) : Mv lo hi st (setArr st (mirror (arrOf st) i j ((j - i) / 2))) :=
  ⟨mirror_perm _ _ _ _, fun k hk => (getElem?_mirror_all (i := i) hj k).trans (if_neg (by lia)), rfl, rfl, rfl⟩
theorem Mv.sunk {lo hi src d : Nat} {st : SortSt} (h1 : lo + d ≤ src) (h2 : src < hi) (hs : src < (arrOf st).size) : Mv lo hi st (setArr st (bubble (arrOf st) src d)) :=
  ⟨bubble_perm _ _ _, fun k hk => (getElem?_bubble hs d (by lia) k).trans (by rw [if_neg (by lia), if_neg (by lia)]), rfl, rfl, rfl⟩
theorem kx_mirror (rk : Keyed → Int) {xs : Array Keyed} {i j : Nat} (hj : j ≤ xs.size) (k : Nat) :
    kx rk (mirror xs i j ((j - i) / 2)) k = if i ≤ k ∧ k < j then kx rk xs (i + j - 1 - k) else kx rk xs k := by
  have e := getElem?_mirror_all (i := i) hj k
  by_cases c : i ≤ k ∧ k < j
  · rw [if_pos c] at e ⊢
    exact kx_same e
  · rw [if_neg c] at e ⊢
    exact kx_same e
theorem kx_mirror_level (rk : Keyed → Int) {xs : Array Keyed} {i j : Nat} (hj : j ≤ xs.size) (he : ∀ k, i ≤ k → k < j → kx rk xs k = kx rk xs (j - 1)) (k : Nat) :
    kx rk (mirror xs i j ((j - i) / 2)) k = kx rk xs k := by
  rw [kx_mirror rk hj]
  by_cases c : i ≤ k ∧ k < j
  · rw [if_pos c, he _ (by lia) (by lia), he k c.1 c.2]
  · rw [if_neg c]
theorem kx_bubble (rk : Keyed → Int) {xs : Array Keyed} {src d : Nat} (hs : src < xs.size) (hd : d ≤ src) (k : Nat) :
    kx rk (bubble xs src d) k = if k = src - d then kx rk xs src else if src - d < k ∧ k ≤ src then kx rk xs (k - 1) else kx rk xs k := by
  have e := getElem?_bubble hs d hd k
  by_cases c : k = src - d
  · rw [if_pos c] at e ⊢
    exact kx_same e
  · rw [if_neg c] at e ⊢
    by_cases c2 : src - d < k ∧ k ≤ src
    · rw [if_pos c2] at e ⊢
      exact kx_same e
    · rw [if_neg c2] at e ⊢
      exact kx_same e
section
variable {M : Model} {A : Around} {E : Value → Shared → Prop} {s : Shared} {kd : SortKind} {S : Keyed → Prop} {rk : Keyed → Int} {n : Nat}
theorem w_ltAt (L : LtOk M A E s kd S rk) {st : SortSt} (B : Sane kd S n st) {i j : Nat} (hi : i < n) (hj : j < n) {Q : Option Bool → SortSt → Prop}
    (h : Q (some (decide (kx rk (arrOf st) i < kx rk (arrOf st) j))) st) : wpS M A E s (ltAt' i j) Q st := by
  obtain ⟨p, e1, s1, k1⟩ := B.at rk hi
  obtain ⟨q, e2, s2, k2⟩ := B.at rk hj
  rw [k1, k2] at h
  rw [ltAt'_eq]
  refine wpS_bind (wpS_get ?_)
  show wpS M A E s (elem' (arrOf st) i >>= fun x => elem' (arrOf st) j >>= fun y => lt' x y) Q st
  rw [elem'_eq, elem'_eq, e1, e2]
  exact wpS_bind (wpS_pure (wpS_bind (wpS_pure (L p q st Q s1 s2 B.kind h))))
theorem w_reverse {st : SortSt} {i j : Nat} {Q : Unit → SortSt → Prop} (h : Q () (setArr st (mirror (arrOf st) i j ((j - i) / 2)))) : wpS M A E s (reverseSlice' i j) Q st := by
  rw [reverseSlice'_eq]
  exact wpS_modify h
def upLoop (lo a nrem : Nat) : StateT SortSt Sem AscSt :=
  forIn [a:nrem] ((none, a) : AscSt) fun _ c => do
    let x ← ltAt' (lo + c.snd) (lo + c.snd - 1)
    match x with
    | some b => if b = true then pure (ForInStep.done (none, c.snd)) else pure (ForInStep.yield (none, c.snd + 1))
    | _ => pure (ForInStep.done (some none, c.snd))
def upTail (lo m nrem : Nat) : StateT SortSt Sem (Option Nat) := do
  reverseSlice' lo (lo + m)
  let c ← upLoop lo m nrem
  match c.fst with
  | some r => pure r
  | none => pure (some c.snd)
def dnLoop (lo m nrem : Nat) : StateT SortSt Sem DescSt :=
  forIn [m:nrem] ((none, m, 0) : DescSt) fun _ c => do
    let x ← ltAt' (lo + c.snd.fst) (lo + c.snd.fst - 1)
    match x with
    | some b =>
      if b = true then
        if c.snd.snd > 0 then do
          reverseSlice' (lo + c.snd.fst - (c.snd.snd + 1)) (lo + c.snd.fst)
          pure (ForInStep.yield (none, c.snd.fst + 1, 0))
        else pure (ForInStep.yield (none, c.snd.fst + 1, 0))
      else do
        let y ← ltAt' (lo + c.snd.fst - 1) (lo + c.snd.fst)
        match y with
        | some g => if g = true then pure (ForInStep.done (none, c.snd.fst, c.snd.snd)) else pure (ForInStep.yield (none, c.snd.fst + 1, c.snd.snd + 1))
        | _ => pure (ForInStep.done (some none, c.snd.fst, c.snd.snd))
    | _ => pure (ForInStep.done (some none, c.snd.fst, c.snd.snd))
def dnPart (lo m nrem : Nat) : StateT SortSt Sem (Option Nat) := do
  liftM (rule "list.sort.descending-run")
  let c ← dnLoop lo (m + 1) nrem
  match c.fst with
  | some r => pure r
  | none =>
    if c.snd.snd > 0 then do
      reverseSlice' (lo + c.snd.fst - (c.snd.snd + 1)) (lo + c.snd.fst)
      upTail lo c.snd.fst nrem
    else upTail lo c.snd.fst nrem
theorem countRun_at (lo nrem : Nat) : countRun' lo nrem = (do
    let c ← upLoop lo 1 nrem
    match c.fst with
    | some r => pure r
    | none =>
      if (c.snd == nrem) = true then pure (some c.snd)
      else if c.snd > 1 then do
        let x ← ltAt' lo (lo + c.snd - 1)
        match x with
        | some rose => if rose = true then pure (some c.snd) else do
            reverseSlice' lo (lo + c.snd)
            dnPart lo c.snd nrem
        | _ => pure none
      else dnPart lo c.snd nrem) := by
  rw [countRun'_eq]
  dsimp only
  unfold dnPart upTail dnLoop upLoop
  congr 1
  funext c
  obtain ⟨r, m⟩ := c
  cases r with
  | some r => rfl
  | none =>
    dsimp only
    split
    · rfl
    · split
      · congr 1
        funext x
        cases x with
        | none => rfl
        | some rose =>
          dsimp only
          split
          · rfl
          · congr 1
            funext _u
            congr 1
            funext _v
            congr 1
            congr 1
            funext c2
            obtain ⟨r2, n2, q2⟩ := c2
            cases r2 with
            | some r2 => rfl
            | none =>
              dsimp only
              split
              · congr 1
                funext _w
                congr 1
                funext _z
                congr 1
                funext c3
                obtain ⟨r3, n3⟩ := c3
                cases r3 <;> rfl
              · congr 1
                funext _z
                congr 1
                funext c3
                obtain ⟨r3, n3⟩ := c3
                cases r3 <;> rfl
      · congr 1
        funext _v
        congr 1
        congr 1
        funext c2
        obtain ⟨r2, n2, q2⟩ := c2
        cases r2 with
        | some r2 => rfl
        | none =>
          dsimp only
          split
          · congr 1
            funext _w
            congr 1
            funext _z
            congr 1
            funext c3
            obtain ⟨r3, n3⟩ := c3
            cases r3 <;> rfl
          · congr 1
            funext _z
            congr 1
            funext c3
            obtain ⟨r3, n3⟩ := c3
            cases r3 <;> rfl
theorem w_upLoop (L : LtOk M A E s kd S rk) {st : SortSt} {lo a nrem : Nat} {Q : AscSt → SortSt → Prop} (B : Sane kd S n st) (hn : lo + nrem ≤ n) (ha : 1 ≤ a) (han : a ≤ nrem) (hs : Up rk (arrOf st) lo (lo + a))
    (h : ∀ m, a ≤ m → m ≤ nrem → Up rk (arrOf st) lo (lo + m) → (m = nrem ∨ kx rk (arrOf st) (lo + m) < kx rk (arrOf st) (lo + m - 1)) → Q (none, m) st) : wpS M A E s (upLoop lo a nrem) Q st := by
  unfold upLoop
  refine wpS_forRange (I := fun x c st' => st' = st ∧ c = (none, x) ∧ Up rk (arrOf st) lo (lo + x)) ?turn ?last ⟨rfl, rfl, hs⟩
  case last =>
    rintro c st' ⟨rfl, rfl, hs'⟩
    have e : max a nrem = nrem := by lia
    rw [e] at hs' ⊢
    exact h nrem han (Nat.le_refl _) hs' (.inl rfl)
  case turn =>
    rintro x c st' hax hxn ⟨rfl, rfl, hs'⟩
    dsimp only
    refine wpS_bind (w_ltAt L B (by lia) (by lia) ?_)
    by_cases hless : kx rk (arrOf st') (lo + x) < kx rk (arrOf st') (lo + x - 1)
    · simp only [hless, decide_true, if_true]
      exact wpS_pure (h x hax (by lia) hs' (.inr hless))
    · simp only [hless, decide_false, Bool.false_eq_true, if_false]
      refine wpS_pure ⟨rfl, rfl, fun i j h1 h2 h3 => ?_⟩
      by_cases hj : j < lo + x
      · exact hs' i j h1 h2 hj
      · have hj' : j = lo + x := by lia
        subst hj'
        by_cases hi : i = lo + x
        · subst hi
          lia
        · have := hs' i (lo + x - 1) h1 (by lia) (by lia)
          lia
theorem w_upTail (L : LtOk M A E s kd S rk) {st : SortSt} {lo m nrem : Nat} {Q : Option Nat → SortSt → Prop} (B : Sane kd S n st) (hn : lo + nrem ≤ n) (h1 : 1 ≤ m) (hm : m ≤ nrem) (hs : Dn rk (arrOf st) lo (lo + m))
    (h : ∀ k st', Mv lo (lo + nrem) st st' → 1 ≤ k → k ≤ nrem → Up rk (arrOf st') lo (lo + k) → Q (some k) st') : wpS M A E s (upTail lo m nrem) Q st := by
  unfold upTail
  have hz : lo + m ≤ (arrOf st).size := by rw [B.size]; lia
  have v : Mv lo (lo + nrem) st (setArr st (mirror (arrOf st) lo (lo + m) ((lo + m - lo) / 2))) := Mv.mirrored (Nat.le_refl _) (by lia) hz
  refine wpS_bind (w_reverse (wpS_bind (w_upLoop L (v.sane B) hn h1 hm ?_ fun k k1 k2 k3 _ => wpS_pure (h k _ v (by lia) k2 k3))))
  intro i j a b c
  show kx rk (mirror (arrOf st) lo (lo + m) ((lo + m - lo) / 2)) i ≤ kx rk (mirror (arrOf st) lo (lo + m) ((lo + m - lo) / 2)) j
  rw [kx_mirror rk hz, kx_mirror rk hz, if_pos (by lia), if_pos (by lia)]
  exact hs _ _ (by lia) (by lia) (by lia)
theorem w_dnLoop (L : LtOk M A E s kd S rk) {st : SortSt} {lo m nrem : Nat} {Q : DescSt → SortSt → Prop} (B : Sane kd S n st) (hn : lo + nrem ≤ n) (h1 : 1 ≤ m) (hm : m ≤ nrem) (hs : Dn rk (arrOf st) lo (lo + m))
    (h : ∀ k q st', Mv lo (lo + nrem) st st' → m ≤ k → k ≤ nrem → Dn rk (arrOf st') lo (lo + k) → q + 1 ≤ k → (∀ i, lo + k - (q + 1) ≤ i → i < lo + k → kx rk (arrOf st') i = kx rk (arrOf st') (lo + k - 1)) → Q (none, k, q) st') :
    wpS M A E s (dnLoop lo m nrem) Q st := by
  unfold dnLoop
  refine wpS_forRange (I := fun x c st' => ∃ q, c = (none, x, q) ∧ Mv lo (lo + nrem) st st' ∧ Dn rk (arrOf st') lo (lo + x) ∧ q + 1 ≤ x ∧
    (∀ i, lo + x - (q + 1) ≤ i → i < lo + x → kx rk (arrOf st') i = kx rk (arrOf st') (lo + x - 1))) ?turn ?last ⟨0, rfl, Mv.refl _ _ _, hs, by lia, fun i a b => by rw [show i = lo + m - 1 by lia]⟩
  case last =>
    rintro c st' ⟨q, rfl, v, hs', hq, he⟩
    have e : max m nrem = nrem := by lia
    rw [e] at hs' hq he ⊢
    exact h nrem q st' v hm (Nat.le_refl _) hs' hq he
  case turn =>
    rintro x c st' hax hxn ⟨q, rfl, v, hs', hq, he⟩
    dsimp only
    have B' := v.sane B
    have hz : lo + x ≤ (arrOf st').size := by rw [B'.size]; lia
    refine wpS_bind (w_ltAt L B' (by lia) (by lia) ?_)
    by_cases hless : kx rk (arrOf st') (lo + x) < kx rk (arrOf st') (lo + x - 1)
    · simp only [hless, decide_true, if_true]
      have more : ∀ xs : Array Keyed, (∀ k, kx rk xs k = kx rk (arrOf st') k) → Dn rk xs lo (lo + (x + 1)) := by
        intro xs hk i j a b c
        rw [hk, hk]
        by_cases hj : j < lo + x
        · exact hs' i j a b hj
        · have hj' : j = lo + x := by lia
          subst hj'
          by_cases hi : i = lo + x
          · subst hi
            lia
          · have := hs' i (lo + x - 1) a (by lia) (by lia)
            lia
      by_cases hq0 : q > 0
      · rw [if_pos hq0]
        exact wpS_bind (w_reverse (wpS_pure ⟨0, rfl, v.trans (Mv.mirrored (by lia) (by lia) hz), more _ (kx_mirror_level rk hz he), by lia, fun i a b => by rw [show i = lo + (x + 1) - 1 by lia]⟩))
      · rw [if_neg hq0]
        exact wpS_pure ⟨0, rfl, v, more _ (fun _ => rfl), by lia, fun i a b => by rw [show i = lo + (x + 1) - 1 by lia]⟩
    · simp only [hless, decide_false, Bool.false_eq_true, if_false]
      refine wpS_bind (w_ltAt L B' (by lia) (by lia) ?_)
      by_cases hbig : kx rk (arrOf st') (lo + x - 1) < kx rk (arrOf st') (lo + x)
      · simp only [hbig, decide_true, if_true]
        exact wpS_pure (h x q st' v hax (by lia) hs' hq he)
      · simp only [hbig, decide_false, Bool.false_eq_true, if_false]
        have ex : kx rk (arrOf st') (lo + x) = kx rk (arrOf st') (lo + x - 1) := by lia
        refine wpS_pure ⟨q + 1, rfl, v, fun i j a b c => ?_, by lia, fun i a b => ?_⟩
        · by_cases hj : j < lo + x
          · exact hs' i j a b hj
          · have hj' : j = lo + x := by lia
            subst hj'
            by_cases hi : i = lo + x
            · subst hi
              lia
            · have := hs' i (lo + x - 1) a (by lia) (by lia)
              lia
        · rw [show lo + (x + 1) - 1 = lo + x by lia]
          by_cases hi : i = lo + x
          · rw [hi]
          · rw [ex]
            exact he i (by lia) (by lia)
theorem w_dnPart (L : LtOk M A E s kd S rk) {st : SortSt} {lo m nrem : Nat} {Q : Option Nat → SortSt → Prop} (B : Sane kd S n st) (hn : lo + nrem ≤ n) (hm : m + 1 ≤ nrem) (hs : Dn rk (arrOf st) lo (lo + (m + 1)))
    (h : ∀ k st', Mv lo (lo + nrem) st st' → 1 ≤ k → k ≤ nrem → Up rk (arrOf st') lo (lo + k) → Q (some k) st') : wpS M A E s (dnPart lo m nrem) Q st := by
  unfold dnPart
  refine wpS_bind (wpS_lift (wpAny_rule ⟨rfl, ?_⟩))
  refine wpS_bind (w_dnLoop L B hn (by lia) hm hs fun k q st' v k1 k2 hs' hq he => ?_)
  dsimp only
  have B' := v.sane B
  have hz : lo + k ≤ (arrOf st').size := by rw [B'.size]; lia
  by_cases hq0 : q > 0
  · rw [if_pos hq0]
    have v2 : Mv lo (lo + nrem) st' (setArr st' (mirror (arrOf st') (lo + k - (q + 1)) (lo + k) ((lo + k - (lo + k - (q + 1))) / 2))) := Mv.mirrored (by lia) (by lia) hz
    refine wpS_bind (w_reverse (w_upTail L (v2.sane B') hn (by lia) k2 ?_ fun j st2 v3 => h j st2 ((v.trans v2).trans v3)))
    intro i j a b c
    show kx rk (mirror (arrOf st') (lo + k - (q + 1)) (lo + k) ((lo + k - (lo + k - (q + 1))) / 2)) j ≤ kx rk (mirror (arrOf st') (lo + k - (q + 1)) (lo + k) ((lo + k - (lo + k - (q + 1))) / 2)) i
    rw [kx_mirror_level rk hz he, kx_mirror_level rk hz he]
    exact hs' i j a b c
  · rw [if_neg hq0]
    exact w_upTail L B' hn (by lia) k2 hs' fun j st2 v3 => h j st2 (v.trans v3)
theorem w_countRun (L : LtOk M A E s kd S rk) {st : SortSt} {lo nrem : Nat} {Q : Option Nat → SortSt → Prop} (B : Sane kd S n st) (hn : lo + nrem ≤ n) (h1 : 1 ≤ nrem)
    (h : ∀ k st', Mv lo (lo + nrem) st st' → 1 ≤ k → k ≤ nrem → Up rk (arrOf st') lo (lo + k) → Q (some k) st') : wpS M A E s (countRun' lo nrem) Q st := by
  rw [countRun_at]
  refine wpS_bind (w_upLoop L B hn (Nat.le_refl 1) h1 (fun i j a b c => by rw [show i = j by lia]; exact Int.le_refl _) fun m m1 m2 hs hor => ?_)
  dsimp only
  by_cases hm : m = nrem
  · rw [if_pos (by simpa using hm)]
    exact wpS_pure (h m st (Mv.refl _ _ _) m1 m2 hs)
  · rw [if_neg (by simpa using hm)]
    have hlt := hor.resolve_left hm
    by_cases hg : m > 1
    · rw [if_pos hg]
      refine wpS_bind (w_ltAt L B (by lia) (by lia) ?_)
      by_cases hrose : kx rk (arrOf st) lo < kx rk (arrOf st) (lo + m - 1)
      · simp only [hrose, decide_true, if_true]
        exact wpS_pure (h m st (Mv.refl _ _ _) m1 m2 hs)
      · simp only [hrose, decide_false, Bool.false_eq_true, if_false]
        have hz : lo + m ≤ (arrOf st).size := by rw [B.size]; lia
        have lev : ∀ k, lo ≤ k → k < lo + m → kx rk (arrOf st) k = kx rk (arrOf st) (lo + m - 1) := by
          intro k a b
          have a1 := hs lo k (Nat.le_refl _) a b
          have a2 := hs k (lo + m - 1) a (by lia) (by lia)
          lia
        have v : Mv lo (lo + nrem) st (setArr st (mirror (arrOf st) lo (lo + m) ((lo + m - lo) / 2))) := Mv.mirrored (Nat.le_refl _) (by lia) hz
        refine wpS_bind (w_reverse (w_dnPart L (v.sane B) hn (by lia) ?_ fun j st2 v3 => h j st2 (v.trans v3)))
        intro i j a b c
        show kx rk (mirror (arrOf st) lo (lo + m) ((lo + m - lo) / 2)) j ≤ kx rk (mirror (arrOf st) lo (lo + m) ((lo + m - lo) / 2)) i
        rw [kx_mirror_level rk hz lev, kx_mirror_level rk hz lev]
        by_cases hj : j < lo + m
        · rw [lev i a (by lia), lev j (by lia) hj]
          exact Int.le_refl _
        · have hj' : j = lo + m := by lia
          subst hj'
          by_cases hi : i = lo + m
          · subst hi
            lia
          · rw [lev i a (by lia)]
            lia
    · rw [if_neg hg]
      have hm1 : m = 1 := by lia
      subst hm1
      refine w_dnPart L B hn (by lia) ?_ h
      intro i j a b c
      by_cases hi : i = j
      · rw [hi]
        exact Int.le_refl _
      · have e1 : i = lo := by lia
        have e2 : j = lo + 1 := by lia
        subst e1 e2
        have : i + 1 - 1 = i := by lia
        rw [this] at hlt
        lia
theorem w_binarySort (L : LtOk M A E s kd S rk) {st : SortSt} {lo m ok : Nat} {Q : Bool → SortSt → Prop} (B : Sane kd S n st) (hn : lo + m ≤ n) (hok : ok ≤ m) (hs : Up rk (arrOf st) lo (lo + ok))
    (h : ∀ st', Mv lo (lo + m) st st' → Up rk (arrOf st') lo (lo + m) → Q true st') : wpS M A E s (binarySort' lo m ok) Q st := by
  rw [binarySort'_eq]
  refine wpS_bind (wpS_mono (wpS_forRange (I := fun k c st' => c = (none, ()) ∧ Mv lo (lo + m) st st' ∧ Up rk (arrOf st') lo (lo + min k m))
    (Q := fun c st' => c = (none, ()) ∧ Mv lo (lo + m) st st' ∧ Up rk (arrOf st') lo (lo + m)) ?turn ?last ?first) ?after)
  case after =>
    rintro c st' ⟨rfl, v, hs'⟩
    exact wpS_pure (h st' v hs')
  case first =>
    refine ⟨rfl, Mv.refl _ _ _, fun i j a b c => ?_⟩
    by_cases h0 : ok = 0
    · rw [show i = j by lia]
      exact Int.le_refl _
    · exact hs i j a b (by lia)
  case last =>
    rintro c st' ⟨hc, v, hs'⟩
    refine ⟨hc, v, ?_⟩
    rwa [show min (max (max ok 1) m) m = m by lia] at hs'
  case turn =>
    rintro k c st' hak hkm ⟨rfl, v, hs'⟩
    have e0 : min k m = k := by lia
    rw [e0] at hs'
    have B' := v.sane B
    refine wpS_bind (wpS_mono (wpS_forRange (I := fun x c st2 => st2 = st' ∧ ∃ l r, c = (none, l, r) ∧ l ≤ r ∧ r ≤ k ∧ r - l ≤ k - x ∧
        (∀ i, i < l → kx rk (arrOf st') (lo + i) ≤ kx rk (arrOf st') (lo + k)) ∧ (∀ i, r ≤ i → i < k → kx rk (arrOf st') (lo + k) < kx rk (arrOf st') (lo + i)))
      (Q := fun c st2 => st2 = st' ∧ ∃ l r, c = (none, l, r) ∧ l ≤ k ∧
        (∀ i, i < l → kx rk (arrOf st') (lo + i) ≤ kx rk (arrOf st') (lo + k)) ∧ (∀ i, l ≤ i → i < k → kx rk (arrOf st') (lo + k) < kx rk (arrOf st') (lo + i))) ?iturn ?ilast ?ifirst) ?iafter)
    case ifirst => exact ⟨rfl, 0, k, rfl, by lia, by lia, by lia, fun i hi => by lia, fun i a b => by lia⟩
    case ilast =>
      rintro c st2 ⟨rfl, l, r, rfl, hlr, hrk, hd, hlo, hhi⟩
      have e : l = r := by lia
      subst e
      exact ⟨rfl, l, l, rfl, hrk, hlo, hhi⟩
    case iturn =>
      rintro x c st2 _ hxk ⟨rfl, l, r, rfl, hlr, hrk, hd, hlo, hhi⟩
      dsimp only
      by_cases hge : l ≥ r
      · rw [if_pos hge]
        have e : l = r := by lia
        subst e
        exact wpS_pure ⟨rfl, l, l, rfl, hrk, hlo, hhi⟩
      · rw [if_neg hge]
        refine wpS_bind (w_ltAt L B' (by lia) (by lia) ?_)
        by_cases hless : kx rk (arrOf st2) (lo + k) < kx rk (arrOf st2) (lo + (l + r) / 2)
        · simp only [hless, decide_true, if_true]
          refine wpS_pure ⟨rfl, l, (l + r) / 2, rfl, by lia, by lia, by lia, hlo, fun i a b => ?_⟩
          have := hs' (lo + (l + r) / 2) (lo + i) (by lia) (by lia) (by lia)
          lia
        · simp only [hless, decide_false, Bool.false_eq_true, if_false]
          refine wpS_pure ⟨rfl, (l + r) / 2 + 1, r, rfl, by lia, by lia, by lia, fun i a => ?_, hhi⟩
          have := hs' (lo + i) (lo + (l + r) / 2) (by lia) (by lia) (by lia)
          lia
    case iafter =>
      rintro c st2 ⟨rfl, l, r, rfl, hlk, hlo, hhi⟩
      show wpS M A E s (moveDown' (lo + k) (lo + l) >>= fun _ => pure (ForInStep.yield (none, ()))) _ st2
      rw [moveDown'_eq]
      have hz : lo + k < (arrOf st2).size := by rw [B'.size]; lia
      refine wpS_bind (wpS_modify (wpS_pure ⟨rfl, v.trans (Mv.sunk (by lia) (by lia) hz), ?_⟩))
      rw [show min (k + 1) m = k + 1 by lia]
      intro i j a b c
      show kx rk (bubble (arrOf st2) (lo + k) (lo + k - (lo + l))) i ≤ kx rk (bubble (arrOf st2) (lo + k) (lo + k - (lo + l))) j
      rw [kx_bubble rk hz (by lia), kx_bubble rk hz (by lia), show lo + k - (lo + k - (lo + l)) = lo + l by lia]
      have low : ∀ q, lo ≤ q → q < lo + l → kx rk (arrOf st2) q ≤ kx rk (arrOf st2) (lo + k) := fun q a b => by
        have := hlo (q - lo) (by lia)
        rwa [show lo + (q - lo) = q by lia] at this
      have high : ∀ q, lo + l ≤ q → q < lo + k → kx rk (arrOf st2) (lo + k) < kx rk (arrOf st2) q := fun q a b => by
        have := hhi (q - lo) (by lia) (by lia)
        rwa [show lo + (q - lo) = q by lia] at this
      repeat' split
      all_goals first
        | (exfalso; lia)
        | exact Int.le_refl _
        | exact low _ (by lia) (by lia)
        | exact Int.le_of_lt (high _ (by lia) (by lia))
        | exact hs' _ _ (by lia) (by lia) (by lia)
end
end Tim
namespace Tim
section
variable {α : Type} {rk : α → Int} {as bs out : List α} {ia ib : Nat}
def Asc (rk : α → Int) (l : List α) : Prop := l.Pairwise fun p q => rk p ≤ rk q
structure Jn (rk : α → Int) (as bs out : List α) (ia ib : Nat) : Prop where
  perm : out.Perm (as.take ia ++ bs.take ib)
  asc : Asc rk out
  la : ∀ p ∈ out, ∀ q ∈ as.drop ia, rk p ≤ rk q
  lb : ∀ p ∈ out, ∀ q ∈ bs.drop ib, rk p ≤ rk q
theorem Jn.swap (h : Jn rk as bs out ia ib) : Jn rk bs as out ib ia := ⟨h.perm.trans List.perm_append_comm, h.asc, h.lb, h.la⟩
theorem Jn.start : Jn rk as bs [] 0 0 := ⟨by simp, List.Pairwise.nil, (fun _ z => nomatch z), (fun _ z => nomatch z)⟩
theorem asc_drop (h : Asc rk as) (i : Nat) : Asc rk (as.drop i) := List.Pairwise.sublist (List.drop_sublist i as) h
theorem drop_split (as : List α) (i k : Nat) : as.drop i = (as.drop i).take k ++ as.drop (i + k) := by
  rw [← List.drop_drop, List.take_append_drop]
theorem Jn.moreA (h : Jn rk as bs out ia ib) (ha : Asc rk as) (k : Nat) (hx : ∀ p ∈ (as.drop ia).take k, ∀ q ∈ bs.drop ib, rk p ≤ rk q) : Jn rk as bs (out ++ (as.drop ia).take k) (ia + k) ib := by
  have hd := asc_drop ha ia
  rw [drop_split as ia k] at hd
  obtain ⟨d1, d2, d3⟩ := List.pairwise_append.mp hd
  have sub1 : ∀ q, q ∈ (as.drop ia).take k → q ∈ as.drop ia := fun q hq => (List.take_sublist _ _).mem hq
  have sub2 : ∀ q, q ∈ as.drop (ia + k) → q ∈ as.drop ia := fun q hq => by
    rw [drop_split as ia k]
    exact List.mem_append_right _ hq
  refine ⟨?_, ?_, fun p hp q hq => ?_, fun p hp q hq => ?_⟩
  · rw [List.take_add, List.append_assoc]
    refine (h.perm.append_right _).trans ?_
    rw [List.append_assoc]
    exact List.Perm.append_left _ List.perm_append_comm
  · exact List.pairwise_append.mpr ⟨h.asc, d1, fun p hp q hq => h.la p hp q (sub1 q hq)⟩
  · rcases List.mem_append.mp hp with hp | hp
    · exact h.la p hp q (sub2 q hq)
    · exact d3 p hp q hq
  · rcases List.mem_append.mp hp with hp | hp
    · exact h.lb p hp q hq
    · exact hx p hp q hq
theorem Jn.done (h : Jn rk as bs out ia ib) (ha : Asc rk as) (hb : Asc rk bs) (hx : ∀ p ∈ as.drop ia, ∀ q ∈ bs.drop ib, rk p ≤ rk q) :
    (out ++ as.drop ia ++ bs.drop ib).Perm (as ++ bs) ∧ Asc rk (out ++ as.drop ia ++ bs.drop ib) := by
  constructor
  · refine ((h.perm.append_right _).append_right _).trans ?_
    have e1 : as = as.take ia ++ as.drop ia := (List.take_append_drop ..).symm
    have e2 : bs = bs.take ib ++ bs.drop ib := (List.take_append_drop ..).symm
    refine List.Perm.trans ?_ (List.Perm.of_eq (show (as.take ia ++ as.drop ia) ++ (bs.take ib ++ bs.drop ib) = as ++ bs by rw [← e1, ← e2]))
    simp only [List.append_assoc]
    refine List.Perm.append_left _ ?_
    rw [← List.append_assoc, ← List.append_assoc]
    exact List.Perm.append_right _ List.perm_append_comm
  · refine List.pairwise_append.mpr ⟨List.pairwise_append.mpr ⟨h.asc, asc_drop ha _, h.la⟩, asc_drop hb _, fun p hp q hq => ?_⟩
    rcases List.mem_append.mp hp with hp | hp
    · exact h.lb p hp q hq
    · exact hx p hp q hq
theorem Jn.done2 (h : Jn rk as bs out ia ib) (ha : Asc rk as) (hb : Asc rk bs) (hx : ∀ p ∈ bs.drop ib, ∀ q ∈ as.drop ia, rk p ≤ rk q) :
    (out ++ bs.drop ib ++ as.drop ia).Perm (as ++ bs) ∧ Asc rk (out ++ bs.drop ib ++ as.drop ia) :=
  let ⟨a, b⟩ := h.swap.done hb ha hx
  ⟨a.trans List.perm_append_comm, b⟩
theorem asc_rev (h : Asc rk as) : Asc (fun p => - rk p) as.reverse := by
  unfold Asc
  rw [List.pairwise_reverse]
  exact List.Pairwise.imp (fun {p q} (z : rk p ≤ rk q) => show - rk q ≤ - rk p by lia) h
theorem asc_rev' (h : Asc (fun p => - rk p) as) : Asc rk as.reverse := by
  unfold Asc
  rw [List.pairwise_reverse]
  exact List.Pairwise.imp (fun {p q} (z : - rk p ≤ - rk q) => show rk q ≤ rk p by lia) h
theorem rev_drop (as : List α) (k : Nat) (h : k ≤ as.length) : as.reverse.drop (as.length - k) = (as.take k).reverse := by
  rw [List.drop_reverse]
  congr 1
  congr 1
  lia
theorem rev_cut (as : List α) (i k : Nat) (hi : i ≤ k) (h : k ≤ as.length) : (as.reverse.drop (as.length - k)).take (k - i) = ((as.drop i).take (k - i)).reverse := by
  rw [rev_drop as k h, List.take_reverse, List.length_take, Nat.min_eq_left h]
  congr 1
  rw [List.drop_take]
  congr 1
  · lia
  · congr 1
    lia
theorem drop_ge (ha : Asc rk as) {i : Nat} {x : α} (hx : as[i]? = some x) : ∀ q ∈ as.drop i, rk x ≤ rk q := by
  intro q hq
  obtain ⟨j, hj, e⟩ := List.mem_iff_getElem.mp hq
  rw [List.getElem_drop] at e
  obtain ⟨hi, ex⟩ := List.getElem?_eq_some_iff.mp hx
  subst e ex
  rcases Nat.eq_zero_or_pos j with h | h
  · subst h
    exact Int.le_refl _
  · exact List.pairwise_iff_getElem.mp ha i (i + j) hi (by rw [List.length_drop] at hj; lia) (by lia)
theorem take_le (ha : Asc rk as) {i : Nat} {x : α} (hx : as[i]? = some x) : ∀ q ∈ as.take (i + 1), rk q ≤ rk x := by
  intro q hq
  obtain ⟨j, hj, e⟩ := List.mem_iff_getElem.mp hq
  rw [List.getElem_take] at e
  obtain ⟨hi, ex⟩ := List.getElem?_eq_some_iff.mp hx
  subst e ex
  have hj' : j ≤ i := by rw [List.length_take] at hj; lia
  rcases Nat.lt_or_ge j i with h | h
  · exact List.pairwise_iff_getElem.mp ha j i (by lia) hi h
  · have : j = i := by lia
    subst this
    exact Int.le_refl _
theorem take_one {i : Nat} {x : α} (hx : as[i]? = some x) : (as.drop i).take 1 = [x] := by
  obtain ⟨hi, ex⟩ := List.getElem?_eq_some_iff.mp hx
  rw [List.drop_eq_getElem_cons hi, ex]
  rfl
end
end Tim
namespace Tim
open PySem PyProof.Rows
def gallopS : Bool → Keyed → Array Keyed → Nat → Nat → Nat → StateT SortSt Sem (Option Nat) := sortPriv% PySem.Builtin.gallop
def beyd (left : Bool) (key : Keyed) (arr : Array Keyed) (i : Nat) : StateT SortSt Sem (Option Bool) := do
  let p ← elem' arr i
  if left then lt' p key else return (← lt' key p).map (!·)
theorem gallopS_eq (left : Bool) (key : Keyed) (arr : Array Keyed) (base n hint : Nat) : gallopS left key arr base n hint = (do
  let mut bk := 0
  let mut fw := 1
  let mut lo := 0
  let mut up := 0
  let some rt ← beyd left key arr (base + hint) | return none
  if rt then
    let most := n - hint
    for _ in [0:n] do
      if fw ≥ most then break
      let some mr ← beyd left key arr (base + (hint + fw)) | return none
      if !mr then break
      bk := fw
      fw := 2 * fw + 1
    lo := hint + bk + 1
    up := hint + min fw most
  else
    let most := hint + 1
    for _ in [0:n] do
      if fw ≥ most then break
      let some fd ← beyd left key arr (base + (hint - fw)) | return none
      if fd then break
      bk := fw
      fw := 2 * fw + 1
    lo := hint + 1 - min fw most
    up := hint - bk
  for _ in [0:n] do
    if lo ≥ up then break
    let md := lo + (up - lo) / 2
    let some mr ← beyd left key arr (base + md) | return none
    if mr then lo := md + 1 else up := md
  return some up) := rfl
def ahd (left : Bool) (k v : Int) : Bool := if left then decide (v < k) else decide (v ≤ k)
theorem ahd_mono {left : Bool} {k v u : Int} (h : v ≤ u) (e : ahd left k u = true) : ahd left k v = true := by
  unfold ahd at *
  cases left
  · simp at *
    lia
  · simp at *
    lia
def gBin (left : Bool) (key : Keyed) (arr : Array Keyed) (base n lo0 up0 : Nat) : StateT SortSt Sem (Option Nat) := do
  let mut lo := lo0
  let mut up := up0
  for _ in [0:n] do
    if lo ≥ up then break
    let md := lo + (up - lo) / 2
    let some mr ← beyd left key arr (base + md) | return none
    if mr then lo := md + 1 else up := md
  return some up
section
variable {M : Model} {A : Around} {E : Value → Shared → Prop} {s : Shared} {kd : SortKind} {S : Keyed → Prop} {rk : Keyed → Int}
theorem w_elem {st : SortSt} {arr : Array Keyed} {i : Nat} {p : Keyed} {Q : Keyed → SortSt → Prop} (e : arr[i]? = some p) (h : Q p st) : wpS M A E s (elem' arr i) Q st := by
  rw [elem'_eq, e]
  exact wpS_pure h
theorem w_beyd (L : LtOk M A E s kd S rk) {st : SortSt} {left : Bool} {key : Keyed} {arr : Array Keyed} {i : Nat} {Q : Option Bool → SortSt → Prop} (hk : kindOf st = kd) (hS : S key) (hp : ∃ p, arr[i]? = some p ∧ S p)
    (h : Q (some (ahd left (rk key) (kx rk arr i))) st) : wpS M A E s (beyd left key arr i) Q st := by
  obtain ⟨p, e, sp⟩ := hp
  rw [kx_of e] at h
  unfold beyd
  refine wpS_bind (w_elem e ?_)
  cases left with
  | true => exact L p key st Q sp hS hk h
  | false =>
    refine wpS_bind (L key p st _ hS sp hk (wpS_pure ?_))
    have e2 : (!decide (rk key < rk p)) = ahd false (rk key) (rk p) := by
      unfold ahd
      simp
      rw [← decide_not]
      simp
    show Q (some (!decide (rk key < rk p))) st
    rw [e2]
    exact h
theorem w_gBin (L : LtOk M A E s kd S rk) {st : SortSt} {left : Bool} {key : Keyed} {arr : Array Keyed} {base n lo up : Nat} {Q : Option Nat → SortSt → Prop} (hk : kindOf st = kd) (hS : S key)
    (hp : ∀ i, i < n → ∃ p, arr[base + i]? = some p ∧ S p) (hu : Up rk arr base (base + n)) (hlu : lo ≤ up) (hun : up ≤ n) (h1 : ∀ i, i < lo → ahd left (rk key) (kx rk arr (base + i)) = true)
    (h2 : ∀ i, up ≤ i → i < n → ahd left (rk key) (kx rk arr (base + i)) = false)
    (h : ∀ k, k ≤ n → (∀ i, i < k → ahd left (rk key) (kx rk arr (base + i)) = true) → (∀ i, k ≤ i → i < n → ahd left (rk key) (kx rk arr (base + i)) = false) → Q (some k) st) :
    wpS M A E s (gBin left key arr base n lo up) Q st := by
  unfold gBin
  dsimp only
  refine wpS_bind (wpS_mono (wpS_forRange (I := fun x c st' => st' = st ∧ ∃ lo up, c = (none, lo, up) ∧ lo ≤ up ∧ up ≤ n ∧ up - lo ≤ n - x ∧
      (∀ i, i < lo → ahd left (rk key) (kx rk arr (base + i)) = true) ∧ (∀ i, up ≤ i → i < n → ahd left (rk key) (kx rk arr (base + i)) = false))
    (Q := fun c st' => st' = st ∧ ∃ lo up, c = (none, lo, up) ∧ up ≤ n ∧
      (∀ i, i < up → ahd left (rk key) (kx rk arr (base + i)) = true) ∧ (∀ i, up ≤ i → i < n → ahd left (rk key) (kx rk arr (base + i)) = false)) ?turn ?last ⟨rfl, lo, up, rfl, hlu, hun, by lia, h1, h2⟩) ?after)
  case after =>
    rintro c st' ⟨rfl, lo, up, rfl, a, b, d⟩
    exact wpS_pure (h up a b d)
  case last =>
    rintro c st' ⟨rfl, lo, up, rfl, a, b, d, e1, e2⟩
    have e : lo = up := by lia
    subst e
    exact ⟨rfl, lo, lo, rfl, b, e1, e2⟩
  case turn =>
    rintro x c st' _ hx ⟨rfl, lo, up, rfl, a, b, d, e1, e2⟩
    dsimp only
    by_cases hge : lo ≥ up
    · rw [if_pos hge]
      have e : lo = up := by lia
      subst e
      exact wpS_pure ⟨rfl, lo, lo, rfl, b, e1, e2⟩
    · rw [if_neg hge]
      refine wpS_bind (w_beyd L hk hS (hp _ (by lia)) ?_)
      cases em : ahd left (rk key) (kx rk arr (base + (lo + (up - lo) / 2))) with
      | true =>
        dsimp only
        rw [if_pos rfl]
        refine wpS_pure ⟨rfl, _, _, rfl, by lia, b, by lia, fun i hi => ?_, e2⟩
        exact ahd_mono (hu _ _ (by lia) (by lia) (by lia)) em
      | false =>
        dsimp only
        rw [if_neg Bool.false_ne_true]
        refine wpS_pure ⟨rfl, _, _, rfl, by lia, by lia, by lia, e1, fun i hi hn => ?_⟩
        cases ei : ahd left (rk key) (kx rk arr (base + i)) with
        | false => rfl
        | true =>
          have := ahd_mono (hu (base + (lo + (up - lo) / 2)) (base + i) (by lia) (by lia) (by lia)) ei
          rw [em] at this
          cases this
theorem w_gallop (L : LtOk M A E s kd S rk) {st : SortSt} {left : Bool} {key : Keyed} {arr : Array Keyed} {base n hint : Nat} {Q : Option Nat → SortSt → Prop} (hk : kindOf st = kd) (hS : S key)
    (hp : ∀ i, i < n → ∃ p, arr[base + i]? = some p ∧ S p) (hu : Up rk arr base (base + n)) (hh : hint < n)
    (h : ∀ k, k ≤ n → (∀ i, i < k → ahd left (rk key) (kx rk arr (base + i)) = true) → (∀ i, k ≤ i → i < n → ahd left (rk key) (kx rk arr (base + i)) = false) → Q (some k) st) :
    wpS M A E s (gallopS left key arr base n hint) Q st := by
  have dn : ∀ i j, i ≤ j → j < n → ahd left (rk key) (kx rk arr (base + j)) = true → ahd left (rk key) (kx rk arr (base + i)) = true := fun i j a b e => ahd_mono (hu _ _ (by lia) (by lia) (by lia)) e
  have nu : ∀ i j, i ≤ j → j < n → ahd left (rk key) (kx rk arr (base + i)) = false → ahd left (rk key) (kx rk arr (base + j)) = false := fun i j a b e => by
    cases ej : ahd left (rk key) (kx rk arr (base + j)) with
    | false => rfl
    | true =>
      rw [dn i j a b ej] at e
      cases e
  rw [gallopS_eq]
  dsimp only
  refine wpS_bind (w_beyd L hk hS (hp hint hh) ?_)
  cases e0 : ahd left (rk key) (kx rk arr (base + hint)) with
  | true =>
    dsimp only
    rw [if_pos rfl]
    refine wpS_bind (wpS_mono (wpS_forRange (I := fun x c st' => st' = st ∧ ∃ bk fw, c = (none, bk, fw) ∧ bk < fw ∧ x + 1 ≤ fw ∧ hint + bk < n ∧ ahd left (rk key) (kx rk arr (base + (hint + bk))) = true)
      (Q := fun c st' => st' = st ∧ ∃ bk fw, c = (none, bk, fw) ∧ bk < fw ∧ hint + bk < n ∧ ahd left (rk key) (kx rk arr (base + (hint + bk))) = true ∧ (n - hint ≤ fw ∨ hint + fw < n ∧ ahd left (rk key) (kx rk arr (base + (hint + fw))) = false)) ?turn ?last ⟨rfl, 0, 1, rfl, by lia, by lia, by lia, e0⟩) ?after)
    case last =>
      rintro c st' ⟨rfl, bk, fw, rfl, a, b, d, e⟩
      exact ⟨rfl, bk, fw, rfl, a, d, e, .inl (by lia)⟩
    case turn =>
      rintro x c st' _ hx ⟨rfl, bk, fw, rfl, a, b, d, e⟩
      dsimp only
      by_cases hge : fw ≥ n - hint
      · rw [if_pos hge]
        exact wpS_pure ⟨rfl, bk, fw, rfl, a, d, e, .inl hge⟩
      · rw [if_neg hge]
        refine wpS_bind (w_beyd L hk hS (hp _ (by lia)) ?_)
        cases em : ahd left (rk key) (kx rk arr (base + (hint + fw))) with
        | true =>
          dsimp only
          rw [if_neg (by simp)]
          exact wpS_pure ⟨rfl, fw, _, rfl, by lia, by lia, by lia, em⟩
        | false =>
          dsimp only
          rw [if_pos (by simp)]
          exact wpS_pure ⟨rfl, bk, fw, rfl, a, d, e, .inr ⟨by lia, em⟩⟩
    case after =>
      rintro c st' ⟨rfl, bk, fw, rfl, a, d, e, f⟩
      dsimp only
      refine w_gBin L hk hS hp hu (lo := hint + bk + 1) (up := hint + min fw (n - hint)) (by lia) (by lia) (fun i hi => dn i (hint + bk) (by lia) d e) (fun i hi hn => ?_) h
      rcases f with f | ⟨f1, f2⟩
      · lia
      · exact nu (hint + fw) i (by lia) hn f2
  | false =>
    dsimp only
    rw [if_neg Bool.false_ne_true]
    refine wpS_bind (wpS_mono (wpS_forRange (I := fun x c st' => st' = st ∧ ∃ bk fw, c = (none, bk, fw) ∧ bk < fw ∧ x + 1 ≤ fw ∧ bk ≤ hint ∧ ahd left (rk key) (kx rk arr (base + (hint - bk))) = false)
      (Q := fun c st' => st' = st ∧ ∃ bk fw, c = (none, bk, fw) ∧ bk < fw ∧ bk ≤ hint ∧ ahd left (rk key) (kx rk arr (base + (hint - bk))) = false ∧ (hint + 1 ≤ fw ∨ fw ≤ hint ∧ ahd left (rk key) (kx rk arr (base + (hint - fw))) = true)) ?turn ?last ⟨rfl, 0, 1, rfl, by lia, by lia, by lia, e0⟩) ?after)
    case last =>
      rintro c st' ⟨rfl, bk, fw, rfl, a, b, d, e⟩
      exact ⟨rfl, bk, fw, rfl, a, d, e, .inl (by lia)⟩
    case turn =>
      rintro x c st' _ hx ⟨rfl, bk, fw, rfl, a, b, d, e⟩
      dsimp only
      by_cases hge : fw ≥ hint + 1
      · rw [if_pos hge]
        exact wpS_pure ⟨rfl, bk, fw, rfl, a, d, e, .inl hge⟩
      · rw [if_neg hge]
        refine wpS_bind (w_beyd L hk hS (hp _ (by lia)) ?_)
        cases em : ahd left (rk key) (kx rk arr (base + (hint - fw))) with
        | true =>
          dsimp only
          rw [if_pos rfl]
          exact wpS_pure ⟨rfl, bk, fw, rfl, a, d, e, .inr ⟨by lia, em⟩⟩
        | false =>
          dsimp only
          rw [if_neg Bool.false_ne_true]
          exact wpS_pure ⟨rfl, fw, _, rfl, by lia, by lia, by lia, em⟩
    case after =>
      rintro c st' ⟨rfl, bk, fw, rfl, a, d, e, f⟩
      dsimp only
      refine w_gBin L hk hS hp hu (lo := hint + 1 - min fw (hint + 1)) (up := hint - bk) (by lia) (by lia) (fun i hi => ?_) (fun i hi hn => nu (hint - bk) i hi hn e) h
      rcases f with f | ⟨f1, f2⟩
      · lia
      · exact dn i (hint - fw) (by lia) (by lia) f2
end
end Tim
namespace Tim
open PySem PyProof.Rows
def mergeLoS : Array Keyed → Array Keyed → StateT SortSt Sem (Array Keyed) := sortPriv% PySem.Builtin.mergeLo
abbrev setGal (st : SortSt) (g : Nat) : SortSt := SortSt.mk' (kindOf st) (arrOf st) (pendingOf st) g (failedOf st)
def restA (a b out : Array Keyed) (ia ib : Nat) : Array Keyed := out ++ a.extract ia a.size ++ b.extract ib b.size
def restB (a b out : Array Keyed) (ia ib : Nat) : Array Keyed := out ++ b.extract ib b.size ++ a.extract ia a.size
theorem mergeLoS_eq (a b : Array Keyed) : mergeLoS a b = (do
  rule "list.sort.merge-lo"
  let all := a.size + b.size
  let mut o : Array Keyed := #[← elem' b 0]
  let mut x := 0
  let mut y := 1
  if y == b.size then return restA a b o x y
  if x + 1 == a.size then return restB a b o x y
  let mut g := gallopOf (← get)
  for _ in [0:all] do
    let mut ca := 0
    let mut cb := 0
    for _ in [0:all] do
      let some won ← lt' (← elem' b y) (← elem' a x) | return restA a b o x y
      if won then
        o := o.push (← elem' b y); y := y + 1; cb := cb + 1; ca := 0
        if y == b.size then return restA a b o x y
        if cb ≥ g then break
      else
        o := o.push (← elem' a x); x := x + 1; ca := ca + 1; cb := 0
        if x + 1 == a.size then return restB a b o x y
        if ca ≥ g then break
    rule "list.sort.gallop"
    g := g + 1
    for _ in [0:all] do
      if g > 1 then g := g - 1
      modify fun st => setGal st g
      let some k ← gallopS false (← elem' b y) a x (a.size - x) 0 | return restA a b o x y
      ca := k
      if k > 0 then
        o := o ++ a.extract x (x + k); x := x + k
        if x + 1 == a.size then return restB a b o x y
        if x == a.size then return restA a b o x y
      o := o.push (← elem' b y); y := y + 1
      if y == b.size then return restA a b o x y
      let some k ← gallopS true (← elem' a x) b y (b.size - y) 0 | return restA a b o x y
      cb := k
      if k > 0 then
        o := o ++ b.extract y (y + k); y := y + k
        if y == b.size then return restA a b o x y
      o := o.push (← elem' a x); x := x + 1
      if x + 1 == a.size then return restB a b o x y
      if ca < 7 && cb < 7 then break
    g := g + 1
    modify fun st => setGal st g
  unsupported "internal:list.sort.merge-bound") := rfl
structure Gl (st st' : SortSt) : Prop where
  arr : arrOf st' = arrOf st
  kind : kindOf st' = kindOf st
  pend : pendingOf st' = pendingOf st
  failed : failedOf st' = failedOf st
theorem Gl.refl (st : SortSt) : Gl st st := ⟨rfl, rfl, rfl, rfl⟩
theorem Gl.set {st st' : SortSt} (h : Gl st st') (g : Nat) : Gl st (setGal st' g) := ⟨h.arr, h.kind, h.pend, h.failed⟩
section
variable {rk : Keyed → Int} {a b o : Array Keyed} {x y : Nat}
theorem kx_list (xs : Array Keyed) (i : Nat) {p : Keyed} (h : xs.toList[i]? = some p) : kx rk xs i = rk p := kx_of (by rw [← h, Array.getElem?_toList])
theorem mem_cut {l : List Keyed} {i k : Nat} {p : Keyed} (h : p ∈ (l.drop i).take k) : ∃ j, j < k ∧ l[i + j]? = some p := by
  obtain ⟨j, hj, e⟩ := List.mem_iff_getElem.mp h
  rw [List.length_take] at hj
  refine ⟨j, by lia, ?_⟩
  rw [← e, List.getElem_take, List.getElem_drop, List.getElem?_eq_getElem]
theorem mem_rest {l : List Keyed} {i : Nat} {p : Keyed} (h : p ∈ l.drop i) : ∃ j, i ≤ j ∧ j < l.length ∧ l[j]? = some p := by
  obtain ⟨j, hj, e⟩ := List.mem_iff_getElem.mp h
  rw [List.length_drop] at hj
  refine ⟨i + j, by lia, by lia, ?_⟩
  rw [← e, List.getElem_drop, List.getElem?_eq_getElem]
theorem up_asc {xs : Array Keyed} (h : Asc rk xs.toList) (lo hi : Nat) (hh : hi ≤ xs.size) : Up rk xs lo hi := by
  intro i j _ hij hj
  have hi' : i < xs.toList.length := by rw [Array.length_toList]; lia
  have hj' : j < xs.toList.length := by rw [Array.length_toList]; lia
  rw [kx_list xs i (List.getElem?_eq_getElem hi'), kx_list xs j (List.getElem?_eq_getElem hj')]
  rcases Nat.lt_or_ge i j with q | q
  · exact List.pairwise_iff_getElem.mp h i j hi' hj' q
  · have : i = j := by lia
    subst this
    exact Int.le_refl _
theorem ext_list (xs : Array Keyed) (i k : Nat) : (xs.extract i (i + k)).toList = (xs.toList.drop i).take k := by
  rw [Array.toList_extract, List.extract_eq_take_drop]
  congr 1
  lia
theorem ext_rest (xs : Array Keyed) (i : Nat) : (xs.extract i xs.size).toList = xs.toList.drop i := by
  rw [Array.toList_extract, List.extract_eq_take_drop, List.take_of_length_le]
  rw [List.length_drop, Array.length_toList]
  lia
theorem jn_pushA {p : Keyed} (h : Jn rk a.toList b.toList o.toList x y) (ha : Asc rk a.toList) (e : a[x]? = some p) (hle : ∀ q ∈ b.toList.drop y, rk p ≤ rk q) : Jn rk a.toList b.toList (o.push p).toList (x + 1) y := by
  have e' : a.toList[x]? = some p := by rw [Array.getElem?_toList]; exact e
  have := h.moreA ha 1 (by rw [take_one e']; intro z hz; rw [List.mem_singleton.mp hz]; exact hle)
  rwa [take_one e', ← Array.toList_push] at this
theorem jn_pushB {p : Keyed} (h : Jn rk a.toList b.toList o.toList x y) (hb : Asc rk b.toList) (e : b[y]? = some p) (hle : ∀ q ∈ a.toList.drop x, rk p ≤ rk q) : Jn rk a.toList b.toList (o.push p).toList x (y + 1) :=
  (jn_pushA h.swap hb e hle).swap
theorem jn_cutA (h : Jn rk a.toList b.toList o.toList x y) (ha : Asc rk a.toList) (k : Nat) (hx : ∀ p ∈ (a.toList.drop x).take k, ∀ q ∈ b.toList.drop y, rk p ≤ rk q) : Jn rk a.toList b.toList (o ++ a.extract x (x + k)).toList (x + k) y := by
  rw [Array.toList_append, ext_list]
  exact h.moreA ha k hx
theorem jn_cutB (h : Jn rk a.toList b.toList o.toList x y) (hb : Asc rk b.toList) (k : Nat) (hx : ∀ p ∈ (b.toList.drop y).take k, ∀ q ∈ a.toList.drop x, rk p ≤ rk q) : Jn rk a.toList b.toList (o ++ b.extract y (y + k)).toList x (y + k) :=
  (jn_cutA h.swap hb k hx).swap
def Good (rk : Keyed → Int) (a b r : Array Keyed) : Prop := r.toList.Perm (a.toList ++ b.toList) ∧ Asc rk r.toList
theorem good_restA (h : Jn rk a.toList b.toList o.toList x y) (ha : Asc rk a.toList) (hb : Asc rk b.toList) (hy : y = b.size) : Good rk a b (restA a b o x y) := by
  have hx : ∀ p ∈ a.toList.drop x, ∀ q ∈ b.toList.drop y, rk p ≤ rk q := fun p _ q hq => by
    rw [List.drop_of_length_le (by rw [Array.length_toList]; lia)] at hq
    cases hq
  have := h.done ha hb hx
  unfold Good restA
  rw [Array.toList_append, Array.toList_append, ext_rest, ext_rest]
  exact this
end
structure Mg (S : Keyed → Prop) (rk : Keyed → Int) (a b : Array Keyed) : Prop where
  sa : ∀ p ∈ a.toList, S p
  sb : ∀ p ∈ b.toList, S p
  aa : Asc rk a.toList
  ab : Asc rk b.toList
  na : 0 < a.size
  nb : 0 < b.size
  top : ∃ z, a[a.size - 1]? = some z ∧ ∀ p ∈ b.toList, rk p < rk z
  bot : ∃ z, b[0]? = some z ∧ ∀ p ∈ a.toList, rk z < rk p
section
variable {S : Keyed → Prop} {rk : Keyed → Int} {a b o : Array Keyed} {x y : Nat}
theorem Mg.atA (m : Mg S rk a b) {i : Nat} (h : i < a.size) : ∃ p, a[i]? = some p ∧ S p ∧ p ∈ a.toList :=
  ⟨a[i], getElem?_pos a i h, m.sa _ (by simp), by simp⟩
theorem Mg.atB (m : Mg S rk a b) {i : Nat} (h : i < b.size) : ∃ p, b[i]? = some p ∧ S p ∧ p ∈ b.toList :=
  ⟨b[i], getElem?_pos b i h, m.sb _ (by simp), by simp⟩
theorem good_restB (m : Mg S rk a b) (h : Jn rk a.toList b.toList o.toList x y) (hx : x + 1 = a.size) : Good rk a b (restB a b o x y) := by
  obtain ⟨z, ez, hz⟩ := m.top
  have hq : ∀ p ∈ b.toList.drop y, ∀ q ∈ a.toList.drop x, rk p ≤ rk q := fun p hp q hq => by
    obtain ⟨j, h1, h2, e⟩ := mem_rest hq
    rw [Array.length_toList] at h2
    have ej : j = a.size - 1 := by lia
    rw [Array.getElem?_toList, ej, ez] at e
    cases e
    exact Int.le_of_lt (hz p (List.mem_of_mem_drop hp))
  have := h.done2 m.aa m.ab hq
  unfold Good restB
  rw [Array.toList_append, Array.toList_append, ext_rest, ext_rest]
  exact this
theorem dropA_ge (m : Mg S rk a b) {i : Nat} {p : Keyed} (e : a[i]? = some p) : ∀ q ∈ a.toList.drop i, rk p ≤ rk q := drop_ge m.aa (by rw [Array.getElem?_toList]; exact e)
theorem dropB_ge (m : Mg S rk a b) {i : Nat} {p : Keyed} (e : b[i]? = some p) : ∀ q ∈ b.toList.drop i, rk p ≤ rk q := drop_ge m.ab (by rw [Array.getElem?_toList]; exact e)
end
abbrev LoSt := Option (Array Keyed) × Array Keyed × Nat × Nat × Nat × Nat × Nat
def loTail (a b : Array Keyed) (ca cb g : Nat) (o : Array Keyed) (x y : Nat) : StateT SortSt Sem (ForInStep LoSt) := do
  let p ← elem' a x
  if (x + 1 + 1 == a.size) = true then pure (ForInStep.done (some (restB a b (o.push p) (x + 1) y), o.push p, x + 1, y, g, ca, cb))
  else if (decide (ca < 7) && decide (cb < 7)) = true then pure (ForInStep.done (none, o.push p, x + 1, y, g, ca, cb))
  else pure (ForInStep.yield (none, o.push p, x + 1, y, g, ca, cb))
def loMid (a b : Array Keyed) (ca cb g : Nat) (o : Array Keyed) (x y : Nat) : StateT SortSt Sem (ForInStep LoSt) := do
  let p ← elem' b y
  if (y + 1 == b.size) = true then pure (ForInStep.done (some (restA a b (o.push p) x (y + 1)), o.push p, x, y + 1, g, ca, cb))
  else do
    let some k ← gallopS true (← elem' a x) b (y + 1) (b.size - (y + 1)) 0 | pure (ForInStep.done (some (restA a b (o.push p) x (y + 1)), o.push p, x, y + 1, g, ca, cb))
    if k > 0 then
      if (y + 1 + k == b.size) = true then pure (ForInStep.done (some (restA a b (o.push p ++ b.extract (y + 1) (y + 1 + k)) x (y + 1 + k)), o.push p ++ b.extract (y + 1) (y + 1 + k), x, y + 1 + k, g, ca, k))
      else loTail a b ca k g (o.push p ++ b.extract (y + 1) (y + 1 + k)) x (y + 1 + k)
    else loTail a b ca k g (o.push p) x (y + 1)
def loTop (a b : Array Keyed) (ca cb g : Nat) (o : Array Keyed) (x y : Nat) : StateT SortSt Sem (ForInStep LoSt) := do
  modify fun st => setGal st g
  let some k ← gallopS false (← elem' b y) a x (a.size - x) 0 | pure (ForInStep.done (some (restA a b o x y), o, x, y, g, ca, cb))
  if k > 0 then
    if (x + k + 1 == a.size) = true then pure (ForInStep.done (some (restB a b (o ++ a.extract x (x + k)) (x + k) y), o ++ a.extract x (x + k), x + k, y, g, k, cb))
    else if (x + k == a.size) = true then pure (ForInStep.done (some (restA a b (o ++ a.extract x (x + k)) (x + k) y), o ++ a.extract x (x + k), x + k, y, g, k, cb))
    else loMid a b k cb g (o ++ a.extract x (x + k)) (x + k) y
  else loMid a b k cb g o x y
section
variable {M : Model} {A : Around} {E : Value → Shared → Prop} {s : Shared} {kd : SortKind} {S : Keyed → Prop} {rk : Keyed → Int} {a b : Array Keyed} {st : SortSt}
structure Go (rk : Keyed → Int) (a b o : Array Keyed) (x y : Nat) : Prop where
  jn : Jn rk a.toList b.toList o.toList x y
  hx : x + 1 < a.size
  hy : y < b.size
def LoQ (rk : Keyed → Int) (a b : Array Keyed) (st : SortSt) (n : Nat) (r : ForInStep LoSt) (st' : SortSt) : Prop := Gl st st' ∧ match r with
  | .done c => (∃ r, c.1 = some r ∧ Good rk a b r) ∨ (c.1 = none ∧ Go rk a b c.2.1 c.2.2.1 c.2.2.2.1 ∧ n ≤ c.2.2.1 + c.2.2.2.1)
  | .yield c => c.1 = none ∧ Go rk a b c.2.1 c.2.2.1 c.2.2.2.1 ∧ n ≤ c.2.2.1 + c.2.2.2.1
theorem w_loTail (m : Mg S rk a b) {st' : SortSt} {n ca cb g x y : Nat} {o : Array Keyed} (hg : Gl st st') (J : Jn rk a.toList b.toList o.toList x y) (hx : x + 1 < a.size) (hy : y < b.size)
    (hle : ∀ p, a[x]? = some p → ∀ q ∈ b.toList.drop y, rk p ≤ rk q) (hn : n ≤ x + y) : wpS M A E s (loTail a b ca cb g o x y) (LoQ rk a b st (n + 1)) st' := by
  obtain ⟨p, e, _, _⟩ := m.atA (i := x) (by lia)
  have J' := jn_pushA J m.aa e (hle p e)
  unfold loTail
  refine wpS_bind (w_elem e ?_)
  by_cases c1 : x + 1 + 1 = a.size
  · rw [if_pos (by simpa using c1)]
    exact wpS_pure ⟨hg, .inl ⟨_, rfl, good_restB m J' c1⟩⟩
  · rw [if_neg (by simpa using c1)]
    by_cases c2 : (decide (ca < 7) && decide (cb < 7)) = true
    · rw [if_pos c2]
      exact wpS_pure ⟨hg, .inr ⟨rfl, ⟨J', by show x + 1 + 1 < a.size; lia, hy⟩, by show n + 1 ≤ x + 1 + y; lia⟩⟩
    · rw [if_neg c2]
      exact wpS_pure ⟨hg, rfl, ⟨J', by show x + 1 + 1 < a.size; lia, hy⟩, by show n + 1 ≤ x + 1 + y; lia⟩
theorem w_loMid (L : LtOk M A E s kd S rk) (hk : kindOf st = kd) (m : Mg S rk a b) {st' : SortSt} {n ca cb g x y : Nat} {o : Array Keyed} (hg : Gl st st') (J : Jn rk a.toList b.toList o.toList x y) (hx : x + 1 < a.size) (hy : y < b.size)
    (hle : ∀ p, b[y]? = some p → ∀ q ∈ a.toList.drop x, rk p ≤ rk q) (hn : n ≤ x + y) : wpS M A E s (loMid a b ca cb g o x y) (LoQ rk a b st (n + 1)) st' := by
  obtain ⟨p, e, _, _⟩ := m.atB hy
  have J' := jn_pushB J m.ab e (hle p e)
  unfold loMid
  refine wpS_bind (w_elem e ?_)
  by_cases c1 : y + 1 = b.size
  · rw [if_pos (by simpa using c1)]
    exact wpS_pure ⟨hg, .inl ⟨_, rfl, good_restA J' m.aa m.ab c1⟩⟩
  · rw [if_neg (by simpa using c1)]
    obtain ⟨q, eq, sq, _⟩ := m.atA (i := x) (by lia)
    refine wpS_bind (w_elem eq ?_)
    refine wpS_bind (w_gallop L (hg.kind.trans hk) sq (fun i hi => ?_) (up_asc m.ab _ _ (by lia)) (by lia) fun k k1 k2 k3 => ?_)
    · obtain ⟨p, e, sp, _⟩ := m.atB (i := y + 1 + i) (by lia)
      exact ⟨p, e, sp⟩
    dsimp only
    have after : ∀ p', a[x]? = some p' → ∀ z ∈ b.toList.drop (y + 1 + k), rk p' ≤ rk z := fun p' ep z hz => by
      rw [eq] at ep
      cases ep
      obtain ⟨j, h1, h2, ez⟩ := mem_rest hz
      rw [Array.length_toList] at h2
      have := k3 (j - (y + 1)) (by lia) (by lia)
      rw [show y + 1 + (j - (y + 1)) = j by lia, kx_list b j ez] at this
      simp [ahd] at this
      lia
    by_cases c2 : k > 0
    · rw [if_pos c2]
      have J2 := jn_cutB J' m.ab k fun z hz w hw => by
        obtain ⟨j, h1, ez⟩ := mem_cut hz
        have := k2 j h1
        rw [kx_list b _ ez] at this
        simp [ahd] at this
        have := dropA_ge m eq w hw
        lia
      by_cases c3 : y + 1 + k = b.size
      · rw [if_pos (by simpa using c3)]
        exact wpS_pure ⟨hg, .inl ⟨_, rfl, good_restA J2 m.aa m.ab c3⟩⟩
      · rw [if_neg (by simpa using c3)]
        exact w_loTail m hg J2 hx (by lia) after (by lia)
    · rw [if_neg c2]
      have k0 : k = 0 := by lia
      subst k0
      exact w_loTail m hg J' hx (by lia) after (by lia)
theorem w_loTop (L : LtOk M A E s kd S rk) (hk : kindOf st = kd) (m : Mg S rk a b) {st' : SortSt} {n ca cb g x y : Nat} {o : Array Keyed} (hg : Gl st st') (G : Go rk a b o x y) (hn : n ≤ x + y) :
    wpS M A E s (loTop a b ca cb g o x y) (LoQ rk a b st (n + 1)) st' := by
  obtain ⟨J, hx, hy⟩ := G
  unfold loTop
  refine wpS_bind (wpS_modify ?_)
  have hg' := hg.set g
  obtain ⟨q, eq, sq, mq⟩ := m.atB hy
  refine wpS_bind (w_elem eq ?_)
  refine wpS_bind (w_gallop L (hg'.kind.trans hk) sq (fun i hi => ?_) (up_asc m.aa _ _ (by lia)) (by lia) fun k k1 k2 k3 => ?_)
  · obtain ⟨p, e, sp, _⟩ := m.atA (i := x + i) (by lia)
    exact ⟨p, e, sp⟩
  dsimp only
  have after : ∀ p', b[y]? = some p' → ∀ z ∈ a.toList.drop (x + k), rk p' ≤ rk z := fun p' ep z hz => by
    rw [eq] at ep
    cases ep
    obtain ⟨j, h1, h2, ez⟩ := mem_rest hz
    rw [Array.length_toList] at h2
    have := k3 (j - x) (by lia) (by lia)
    rw [show x + (j - x) = j by lia, kx_list a j ez] at this
    simp [ahd] at this
    lia
  by_cases c2 : k > 0
  · rw [if_pos c2]
    have J2 := jn_cutA J m.aa k fun z hz w hw => by
      obtain ⟨j, h1, ez⟩ := mem_cut hz
      have := k2 j h1
      rw [kx_list a _ ez] at this
      simp [ahd] at this
      have := dropB_ge m eq w hw
      lia
    by_cases c3 : x + k + 1 = a.size
    · rw [if_pos (by simpa using c3)]
      exact wpS_pure ⟨hg', .inl ⟨_, rfl, good_restB m J2 c3⟩⟩
    · rw [if_neg (by simpa using c3)]
      have c4 : ¬ x + k = a.size := fun c4 => by
        obtain ⟨z, ez, hz⟩ := m.top
        have := k2 (a.size - 1 - x) (by lia)
        rw [show x + (a.size - 1 - x) = a.size - 1 by lia, kx_of ez] at this
        simp [ahd] at this
        have := hz q mq
        lia
      rw [if_neg (by simpa using c4)]
      exact w_loMid L hk m hg' J2 (by lia) hy after (by lia)
  · rw [if_neg c2]
    have k0 : k = 0 := by lia
    subst k0
    exact w_loMid L hk m hg' J hx hy after hn
theorem w_mergeLo (L : LtOk M A E s kd S rk) (hk : kindOf st = kd) (m : Mg S rk a b) {Q : Array Keyed → SortSt → Prop} (h : ∀ r st', Gl st st' → Good rk a b r → Q r st') : wpS M A E s (mergeLoS a b) Q st := by
  rw [mergeLoS_eq]
  refine wpS_bind (wpS_lift (wpAny_rule ⟨rfl, ?_⟩))
  obtain ⟨q, eq, sq, mq⟩ := m.atB m.nb
  refine wpS_bind (w_elem eq ?_)
  have J1 : Jn rk a.toList b.toList (#[q] : Array Keyed).toList 0 1 := by
    obtain ⟨z, ez, hz⟩ := m.bot
    rw [eq] at ez
    cases ez
    exact jn_pushB (o := #[]) Jn.start m.ab eq fun w hw => Int.le_of_lt (hz w (List.mem_of_mem_drop hw))
  by_cases c1 : 1 = b.size
  · rw [if_pos (by simpa using c1)]
    exact wpS_pure (h _ _ (Gl.refl _) (good_restA J1 m.aa m.ab c1))
  · rw [if_neg (by simpa using c1)]
    by_cases c2 : 0 + 1 = a.size
    · rw [if_pos (by simpa using c2)]
      exact wpS_pure (h _ _ (Gl.refl _) (good_restB m J1 c2))
    · rw [if_neg (by simpa using c2)]
      refine wpS_bind (wpS_get ?_)
      have na := m.na
      have nb := m.nb
      have G1 : Go rk a b #[q] 0 1 := ⟨J1, by lia, by lia⟩
      refine wpS_bind (wpS_mono (wpS_forRange (I := fun i c st' => Gl st st' ∧ ∃ o x y g, c = (none, o, x, y, g) ∧ Go rk a b o x y ∧ i + 1 ≤ x + y)
        (Q := fun c st' => Gl st st' ∧ ∃ r o x y g, c = (some r, o, x, y, g) ∧ Good rk a b r) ?turn ?last ⟨Gl.refl _, #[q], 0, 1, _, rfl, G1, by lia⟩) ?after)
      case after =>
        rintro c st' ⟨hg, r, o, x, y, g, rfl, hr⟩
        exact wpS_pure (h r st' hg hr)
      case last =>
        rintro c st' ⟨hg, o, x, y, g, rfl, G, hi⟩
        have := G.hx
        have := G.hy
        exfalso
        lia
      case turn =>
        rintro i c st' _ hi ⟨hg, o, x, y, g, rfl, G, hxy⟩
        dsimp only
        refine wpS_bind (wpS_mono (wpS_forRange (I := fun j c st2 => Gl st st2 ∧ ∃ o x y ca cb, c = (none, o, x, y, ca, cb) ∧ Go rk a b o x y ∧ i + 1 + j ≤ x + y)
          (Q := fun c st2 => Gl st st2 ∧ ∃ r o x y ca cb, c = (r, o, x, y, ca, cb) ∧ match r with
            | some r => Good rk a b r
            | none => Go rk a b o x y ∧ i + 2 ≤ x + y) ?iturn ?ilast ⟨hg, o, x, y, 0, 0, rfl, G, by lia⟩) ?iafter)
        case ilast =>
          rintro c st2 ⟨hg2, o, x, y, ca, cb, rfl, G, hj⟩
          have := G.hx
          have := G.hy
          exfalso
          lia
        case iturn =>
          rintro j c st2 _ hj ⟨hg2, o, x, y, ca, cb, rfl, G, hxy2⟩
          dsimp only
          obtain ⟨pb, eb, sb, mb⟩ := m.atB G.hy
          obtain ⟨pa, ea, sa, ma⟩ := m.atA (i := x) (by have := G.hx; lia)
          refine wpS_bind (w_elem eb (wpS_bind (w_elem ea (wpS_bind (L pb pa st2 _ sb sa (hg2.kind.trans hk) ?_)))))
          by_cases hw : rk pb < rk pa
          · simp only [hw, decide_true, if_true]
            refine wpS_bind (w_elem eb ?_)
            have J2 := jn_pushB G.jn m.ab eb fun z hz => Int.le_trans (Int.le_of_lt hw) (dropA_ge m ea z hz)
            by_cases c3 : y + 1 = b.size
            · rw [if_pos (by simpa using c3)]
              exact wpS_pure ⟨hg2, _, _, _, _, _, _, rfl, good_restA J2 m.aa m.ab c3⟩
            · rw [if_neg (by simpa using c3)]
              have G2 : Go rk a b (o.push pb) x (y + 1) := ⟨J2, G.hx, by have := G.hy; lia⟩
              split
              · exact wpS_pure ⟨hg2, _, _, _, _, _, _, rfl, G2, by lia⟩
              · exact wpS_pure ⟨hg2, _, _, _, _, _, rfl, G2, by lia⟩
          · simp only [hw, decide_false, Bool.false_eq_true, if_false]
            refine wpS_bind (w_elem ea ?_)
            have J2 := jn_pushA G.jn m.aa ea fun z hz => Int.le_trans (by lia) (dropB_ge m eb z hz)
            by_cases c3 : x + 1 + 1 = a.size
            · rw [if_pos (by simpa using c3)]
              exact wpS_pure ⟨hg2, _, _, _, _, _, _, rfl, good_restB m J2 c3⟩
            · rw [if_neg (by simpa using c3)]
              have G2 : Go rk a b (o.push pa) (x + 1) y := ⟨J2, by have := G.hx; lia, G.hy⟩
              split
              · exact wpS_pure ⟨hg2, _, _, _, _, _, _, rfl, G2, by lia⟩
              · exact wpS_pure ⟨hg2, _, _, _, _, _, rfl, G2, by lia⟩
        case iafter =>
          rintro c st2 ⟨hg2, r, o2, x2, y2, ca, cb, rfl, hr⟩
          cases r with
          | some r => exact wpS_pure ⟨hg2, r, _, _, _, _, rfl, hr⟩
          | none =>
            obtain ⟨G2, hxy2⟩ := hr
            dsimp only
            refine wpS_bind (wpS_lift (wpAny_rule ⟨rfl, ?_⟩))
            refine wpS_bind (wpS_mono (wpS_forRange (I := fun j c st3 => Gl st st3 ∧ ∃ o x y g ca cb, c = (none, o, x, y, g, ca, cb) ∧ Go rk a b o x y ∧ i + 2 + j ≤ x + y)
              (Q := fun c st3 => Gl st st3 ∧ ∃ r o x y g ca cb, c = (r, o, x, y, g, ca, cb) ∧ match r with
                | some r => Good rk a b r
                | none => Go rk a b o x y ∧ i + 2 ≤ x + y) ?gturn ?glast ⟨hg2, o2, x2, y2, _, _, _, rfl, G2, by lia⟩) ?gafter)
            case glast =>
              rintro c st3 ⟨hg3, o, x, y, g, ca, cb, rfl, G, hj⟩
              have := G.hx
              have := G.hy
              exfalso
              lia
            case gturn =>
              rintro j c st3 _ hj ⟨hg3, o, x, y, g, ca, cb, rfl, G, hxy3⟩
              have go : ∀ g', wpS M A E s (loTop a b ca cb g' o x y) (LoQ rk a b st (i + 2 + j + 1)) st3 := fun g' => w_loTop L hk m hg3 G hxy3
              dsimp only
              by_cases hgt : g > 1
              case' pos =>
                rw [if_pos hgt]
                refine wpS_mono (go (g - 1)) ?_
              case' neg =>
                rw [if_neg hgt]
                refine wpS_mono (go g) ?_
              all_goals
                intro r st4 q
                obtain ⟨hg4, q⟩ := q
                cases r with
                | done c' =>
                  obtain ⟨r, o, x, y, g, ca, cb⟩ := c'
                  rcases q with ⟨r', e, q⟩ | ⟨e, q, q'⟩
                  · simp only at e
                    subst e
                    exact ⟨hg4, _, _, _, _, _, _, _, rfl, q⟩
                  · simp only at e q q'
                    subst e
                    exact ⟨hg4, _, _, _, _, _, _, _, rfl, q, by lia⟩
                | yield c' =>
                  obtain ⟨r, o, x, y, g, ca, cb⟩ := c'
                  obtain ⟨e, q, q'⟩ := q
                  simp only at e q q'
                  subst e
                  exact ⟨hg4, _, _, _, _, _, _, rfl, q, by lia⟩
            case gafter =>
              rintro c st3 ⟨hg3, r, o3, x3, y3, g3, ca3, cb3, rfl, hr⟩
              cases r with
              | some r => exact wpS_pure ⟨hg3, r, _, _, _, _, rfl, hr⟩
              | none =>
                obtain ⟨G3, hxy3⟩ := hr
                dsimp only
                exact wpS_bind (wpS_modify (wpS_pure ⟨hg3.set _, _, _, _, _, rfl, G3, by lia⟩))
end
end Tim
namespace Tim
open PySem PyProof.Rows
def mergeHiS : Array Keyed → Array Keyed → StateT SortSt Sem (Array Keyed) := sortPriv% PySem.Builtin.mergeHi
def headA (a b out : Array Keyed) (na nb : Nat) : Array Keyed := a.extract 0 na ++ b.extract 0 nb ++ out.reverse
def headB (a b out : Array Keyed) (na nb : Nat) : Array Keyed := b.extract 0 nb ++ a.extract 0 na ++ out.reverse
theorem mergeHiS_eq (a b : Array Keyed) : mergeHiS a b = (do
  rule "list.sort.merge-hi"
  let all := a.size + b.size
  let mut x := a.size - 1
  let mut y := b.size
  let mut o : Array Keyed := #[← elem' a x]
  if x == 0 then return headA a b o x y
  if y == 1 then return headB a b o x y
  let mut g := gallopOf (← get)
  for _ in [0:all] do
    let mut ca := 0
    let mut cb := 0
    for _ in [0:all] do
      let some won ← lt' (← elem' b (y - 1)) (← elem' a (x - 1)) | return headA a b o x y
      if won then
        x := x - 1; o := o.push (← elem' a x); ca := ca + 1; cb := 0
        if x == 0 then return headA a b o x y
        if ca ≥ g then break
      else
        y := y - 1; o := o.push (← elem' b y); cb := cb + 1; ca := 0
        if y == 1 then return headB a b o x y
        if cb ≥ g then break
    rule "list.sort.gallop"
    g := g + 1
    for _ in [0:all] do
      if g > 1 then g := g - 1
      modify fun st => setGal st g
      let some j ← gallopS false (← elem' b (y - 1)) a 0 x (x - 1) | return headA a b o x y
      let k := x - j
      ca := k
      if k > 0 then
        o := o ++ (a.extract j x).reverse; x := j
        if x == 0 then return headA a b o x y
      y := y - 1; o := o.push (← elem' b y)
      if y == 1 then return headB a b o x y
      let some j ← gallopS true (← elem' a (x - 1)) b 0 y (y - 1) | return headA a b o x y
      let k := y - j
      cb := k
      if k > 0 then
        o := o ++ (b.extract j y).reverse; y := j
        if y == 1 then return headB a b o x y
        if y == 0 then return headA a b o x y
      x := x - 1; o := o.push (← elem' a x)
      if x == 0 then return headA a b o x y
      if ca < 7 && cb < 7 then break
    g := g + 1
    modify fun st => setGal st g
  unsupported "internal:list.sort.merge-bound") := rfl
section
variable {rk : Keyed → Int} {a b o : Array Keyed} {x y : Nat}
def JH (rk : Keyed → Int) (a b o : Array Keyed) (x y : Nat) : Prop := Jn (fun p => - rk p) a.toList.reverse b.toList.reverse o.toList (a.size - x) (b.size - y) ∧ x ≤ a.size ∧ y ≤ b.size
theorem JH.swap (h : JH rk a b o x y) : JH rk b a o y x := ⟨h.1.swap, h.2.2, h.2.1⟩
theorem rdrop (xs : Array Keyed) {k : Nat} (h : k ≤ xs.size) : xs.toList.reverse.drop (xs.size - k) = (xs.toList.take k).reverse := by
  have := rev_drop xs.toList k (by rw [Array.length_toList]; exact h)
  rwa [Array.length_toList] at this
theorem rcut (xs : Array Keyed) {i k : Nat} (hi : i ≤ k) (h : k ≤ xs.size) : (xs.toList.reverse.drop (xs.size - k)).take (k - i) = ((xs.toList.drop i).take (k - i)).reverse := by
  have := rev_cut xs.toList i k hi (by rw [Array.length_toList]; exact h)
  rwa [Array.length_toList] at this
theorem jh_cutA (h : JH rk a b o x y) (ha : Asc rk a.toList) {j : Nat} (hj : j ≤ x) (hx : ∀ p ∈ (a.toList.drop j).take (x - j), ∀ q ∈ b.toList.take y, rk q ≤ rk p) : JH rk a b (o ++ (a.extract j x).reverse) j y := by
  obtain ⟨J, h1, h2⟩ := h
  refine ⟨?_, by lia, h2⟩
  have := J.moreA (asc_rev ha) (x - j) (fun p hp q hq => by
    rw [rcut a hj h1] at hp
    rw [rdrop b h2] at hq
    have := hx p (List.mem_reverse.mp hp) q (List.mem_reverse.mp hq)
    show - rk p ≤ - rk q
    lia)
  rw [rcut a hj h1, show a.size - x + (x - j) = a.size - j by lia] at this
  rw [Array.toList_append, Array.toList_reverse, Array.toList_extract, List.extract_eq_take_drop]
  exact this
theorem jh_pushA {p : Keyed} (h : JH rk a b o x y) (ha : Asc rk a.toList) (h1 : 1 ≤ x) (e : a[x - 1]? = some p) (hle : ∀ q ∈ b.toList.take y, rk q ≤ rk p) : JH rk a b (o.push p) (x - 1) y := by
  have e' : a.toList[x - 1]? = some p := by rw [Array.getElem?_toList]; exact e
  have t1 : (a.toList.drop (x - 1)).take (x - (x - 1)) = [p] := by
    rw [show x - (x - 1) = 1 by lia]
    exact take_one e'
  have := jh_cutA h ha (j := x - 1) (by lia) (by rw [t1]; intro z hz; rw [List.mem_singleton.mp hz]; exact hle)
  have e2 : (o ++ (a.extract (x - 1) x).reverse) = o.push p := by
    apply Array.toList_inj.mp
    rw [Array.toList_append, Array.toList_reverse, Array.toList_extract, List.extract_eq_take_drop, t1, Array.toList_push]
    rfl
  rwa [e2] at this
theorem jh_cutB (h : JH rk a b o x y) (hb : Asc rk b.toList) {j : Nat} (hj : j ≤ y) (hx : ∀ p ∈ (b.toList.drop j).take (y - j), ∀ q ∈ a.toList.take x, rk q ≤ rk p) : JH rk a b (o ++ (b.extract j y).reverse) x j := (jh_cutA h.swap hb hj hx).swap
theorem jh_pushB {p : Keyed} (h : JH rk a b o x y) (hb : Asc rk b.toList) (h1 : 1 ≤ y) (e : b[y - 1]? = some p) (hle : ∀ q ∈ a.toList.take x, rk q ≤ rk p) : JH rk a b (o.push p) x (y - 1) := (jh_pushA h.swap hb h1 e hle).swap
theorem ext_head (xs : Array Keyed) (k : Nat) : (xs.extract 0 k).toList = xs.toList.take k := by
  rw [Array.toList_extract, List.extract_eq_take_drop, List.drop_zero, Nat.sub_zero]
theorem good_headB' (h : JH rk a b o x y) (ha : Asc rk a.toList) (hb : Asc rk b.toList) (hq : ∀ p ∈ a.toList.take x, ∀ q ∈ b.toList.take y, rk q ≤ rk p) : Good rk a b (headB a b o x y) := by
  obtain ⟨J, h1, h2⟩ := h
  have := J.done (asc_rev ha) (asc_rev hb) (fun p hp q hq' => by
    rw [rdrop a h1] at hp
    rw [rdrop b h2] at hq'
    have := hq p (List.mem_reverse.mp hp) q (List.mem_reverse.mp hq')
    show - rk p ≤ - rk q
    lia)
  rw [rdrop a h1, rdrop b h2] at this
  have e : (headB a b o x y).toList = (o.toList ++ (a.toList.take x).reverse ++ (b.toList.take y).reverse).reverse := by
    unfold headB
    rw [Array.toList_append, Array.toList_append, ext_head, ext_head, Array.toList_reverse]
    simp
  unfold Good
  rw [e]
  exact ⟨(List.reverse_perm _).trans (this.1.trans ((List.reverse_perm _).append (List.reverse_perm _))), asc_rev' this.2⟩
theorem good_headA' (h : JH rk a b o x y) (ha : Asc rk a.toList) (hb : Asc rk b.toList) (hq : ∀ p ∈ b.toList.take y, ∀ q ∈ a.toList.take x, rk q ≤ rk p) : Good rk a b (headA a b o x y) := by
  obtain ⟨p, q⟩ := good_headB' h.swap hb ha hq
  exact ⟨p.trans List.perm_append_comm, q⟩
theorem good_headA (h : JH rk a b o x y) (ha : Asc rk a.toList) (hb : Asc rk b.toList) (hx : x = 0) : Good rk a b (headA a b o x y) := by
  refine good_headA' h ha hb fun p _ q hq => ?_
  rw [hx, List.take_zero] at hq
  cases hq
end
section
variable {S : Keyed → Prop} {rk : Keyed → Int} {a b o : Array Keyed} {x y : Nat}
theorem good_headB (m : Mg S rk a b) (h : JH rk a b o x y) (hy : y = 1) : Good rk a b (headB a b o x y) := by
  obtain ⟨z, ez, hz⟩ := m.bot
  refine good_headB' h m.aa m.ab fun p hp q hq => ?_
  subst hy
  obtain ⟨j, hj, e⟩ := List.mem_iff_getElem.mp hq
  rw [List.length_take] at hj
  have j0 : j = 0 := by lia
  subst j0
  rw [List.getElem_take] at e
  have : b.toList[0]? = some q := by rw [← e, List.getElem?_eq_getElem]
  rw [Array.getElem?_toList, ez] at this
  cases this
  exact Int.le_of_lt (hz p (List.mem_of_mem_take hp))
theorem takeA_le (m : Mg S rk a b) {i : Nat} {p : Keyed} (h1 : 1 ≤ i) (e : a[i - 1]? = some p) : ∀ q ∈ a.toList.take i, rk q ≤ rk p := by
  have := take_le m.aa (i := i - 1) (x := p) (by rw [Array.getElem?_toList]; exact e)
  rwa [show i - 1 + 1 = i by lia] at this
theorem takeB_le (m : Mg S rk a b) {i : Nat} {p : Keyed} (h1 : 1 ≤ i) (e : b[i - 1]? = some p) : ∀ q ∈ b.toList.take i, rk q ≤ rk p := by
  have := take_le m.ab (i := i - 1) (x := p) (by rw [Array.getElem?_toList]; exact e)
  rwa [show i - 1 + 1 = i by lia] at this
theorem mem_head {l : List Keyed} {k : Nat} {p : Keyed} (h : p ∈ l.take k) : ∃ j, j < k ∧ l[j]? = some p := by
  have := mem_cut (l := l) (i := 0) (k := k) (p := p) (by simpa using h)
  obtain ⟨j, a, b⟩ := this
  exact ⟨j, a, by rwa [Nat.zero_add] at b⟩
end
abbrev HiSt := Option (Array Keyed) × Nat × Nat × Array Keyed × Nat × Nat × Nat
def hiTail (a b : Array Keyed) (ca cb g : Nat) (o : Array Keyed) (x y : Nat) : StateT SortSt Sem (ForInStep HiSt) := do
  let p ← elem' a (x - 1)
  if (x - 1 == 0) = true then pure (ForInStep.done (some (headA a b (o.push p) (x - 1) y), x - 1, y, o.push p, g, ca, cb))
  else if (decide (ca < 7) && decide (cb < 7)) = true then pure (ForInStep.done (none, x - 1, y, o.push p, g, ca, cb))
  else pure (ForInStep.yield (none, x - 1, y, o.push p, g, ca, cb))
def hiMid (a b : Array Keyed) (ca cb g : Nat) (o : Array Keyed) (x y : Nat) : StateT SortSt Sem (ForInStep HiSt) := do
  let p ← elem' b (y - 1)
  if (y - 1 == 1) = true then pure (ForInStep.done (some (headB a b (o.push p) x (y - 1)), x, y - 1, o.push p, g, ca, cb))
  else do
    let some j ← gallopS true (← elem' a (x - 1)) b 0 (y - 1) (y - 1 - 1) | pure (ForInStep.done (some (headA a b (o.push p) x (y - 1)), x, y - 1, o.push p, g, ca, cb))
    if y - 1 - j > 0 then
      if (j == 1) = true then pure (ForInStep.done (some (headB a b (o.push p ++ (b.extract j (y - 1)).reverse) x j), x, j, o.push p ++ (b.extract j (y - 1)).reverse, g, ca, y - 1 - j))
      else if (j == 0) = true then pure (ForInStep.done (some (headA a b (o.push p ++ (b.extract j (y - 1)).reverse) x j), x, j, o.push p ++ (b.extract j (y - 1)).reverse, g, ca, y - 1 - j))
      else hiTail a b ca (y - 1 - j) g (o.push p ++ (b.extract j (y - 1)).reverse) x j
    else hiTail a b ca (y - 1 - j) g (o.push p) x (y - 1)
def hiTop (a b : Array Keyed) (ca cb g : Nat) (o : Array Keyed) (x y : Nat) : StateT SortSt Sem (ForInStep HiSt) := do
  modify fun st => setGal st g
  let some j ← gallopS false (← elem' b (y - 1)) a 0 x (x - 1) | pure (ForInStep.done (some (headA a b o x y), x, y, o, g, ca, cb))
  if x - j > 0 then
    if (j == 0) = true then pure (ForInStep.done (some (headA a b (o ++ (a.extract j x).reverse) j y), j, y, o ++ (a.extract j x).reverse, g, x - j, cb))
    else hiMid a b (x - j) cb g (o ++ (a.extract j x).reverse) j y
  else hiMid a b (x - j) cb g o x y
section
variable {M : Model} {A : Around} {E : Value → Shared → Prop} {s : Shared} {kd : SortKind} {S : Keyed → Prop} {rk : Keyed → Int} {a b : Array Keyed} {st : SortSt}
structure GoH (rk : Keyed → Int) (a b o : Array Keyed) (x y : Nat) : Prop where
  jn : JH rk a b o x y
  hx : 1 ≤ x
  hy : 2 ≤ y
def HiQ (rk : Keyed → Int) (a b : Array Keyed) (st : SortSt) (n : Nat) (r : ForInStep HiSt) (st' : SortSt) : Prop := Gl st st' ∧ match r with
  | .done c => (∃ r, c.1 = some r ∧ Good rk a b r) ∨ (c.1 = none ∧ GoH rk a b c.2.2.2.1 c.2.1 c.2.2.1 ∧ c.2.1 + c.2.2.1 ≤ n)
  | .yield c => c.1 = none ∧ GoH rk a b c.2.2.2.1 c.2.1 c.2.2.1 ∧ c.2.1 + c.2.2.1 ≤ n
theorem w_hiTail (m : Mg S rk a b) {st' : SortSt} {n ca cb g x y : Nat} {o : Array Keyed} (hg : Gl st st') (J : JH rk a b o x y) (hx : 1 ≤ x) (hy : 2 ≤ y)
    (hle : ∀ p, a[x - 1]? = some p → ∀ q ∈ b.toList.take y, rk q ≤ rk p) (hn : x + y ≤ n + 1) : wpS M A E s (hiTail a b ca cb g o x y) (HiQ rk a b st n) st' := by
  have hz := J.2.1
  obtain ⟨p, e, _, _⟩ := m.atA (i := x - 1) (by lia)
  have J' := jh_pushA J m.aa hx e (hle p e)
  unfold hiTail
  refine wpS_bind (w_elem e ?_)
  by_cases c1 : x - 1 = 0
  · rw [if_pos (by simpa using c1)]
    exact wpS_pure ⟨hg, .inl ⟨_, rfl, good_headA J' m.aa m.ab c1⟩⟩
  · rw [if_neg (by simpa using c1)]
    by_cases c2 : (decide (ca < 7) && decide (cb < 7)) = true
    · rw [if_pos c2]
      exact wpS_pure ⟨hg, .inr ⟨rfl, ⟨J', by show 1 ≤ x - 1; lia, hy⟩, by show x - 1 + y ≤ n; lia⟩⟩
    · rw [if_neg c2]
      exact wpS_pure ⟨hg, rfl, ⟨J', by show 1 ≤ x - 1; lia, hy⟩, by show x - 1 + y ≤ n; lia⟩
theorem w_hiMid (L : LtOk M A E s kd S rk) (hk : kindOf st = kd) (m : Mg S rk a b) {st' : SortSt} {n ca cb g x y : Nat} {o : Array Keyed} (hg : Gl st st') (J : JH rk a b o x y) (hx : 1 ≤ x) (hy : 2 ≤ y)
    (hle : ∀ p, b[y - 1]? = some p → ∀ q ∈ a.toList.take x, rk q ≤ rk p) (hn : x + y ≤ n + 1) : wpS M A E s (hiMid a b ca cb g o x y) (HiQ rk a b st n) st' := by
  have hz1 := J.2.1
  have hz2 := J.2.2
  obtain ⟨p, e, _, _⟩ := m.atB (i := y - 1) (by lia)
  have J' := jh_pushB J m.ab (by lia) e (hle p e)
  unfold hiMid
  refine wpS_bind (w_elem e ?_)
  by_cases c1 : y - 1 = 1
  · rw [if_pos (by simpa using c1)]
    exact wpS_pure ⟨hg, .inl ⟨_, rfl, good_headB m J' c1⟩⟩
  · rw [if_neg (by simpa using c1)]
    obtain ⟨q, eq, sq, mq⟩ := m.atA (i := x - 1) (by lia)
    refine wpS_bind (w_elem eq ?_)
    refine wpS_bind (w_gallop L (hg.kind.trans hk) sq (fun i hi => ?_) (up_asc m.ab _ _ (by lia)) (by lia) fun j j1 j2 j3 => ?_)
    · obtain ⟨p, e, sp, _⟩ := m.atB (i := 0 + i) (by lia)
      exact ⟨p, e, sp⟩
    dsimp only
    have after : ∀ p', a[x - 1]? = some p' → ∀ z ∈ b.toList.take j, rk z ≤ rk p' := fun p' ep z hz => by
      rw [eq] at ep
      cases ep
      obtain ⟨i, h1, ez⟩ := mem_head hz
      have := j2 i h1
      rw [Nat.zero_add, kx_list b i ez] at this
      simp [ahd] at this
      lia
    by_cases c2 : y - 1 - j > 0
    · rw [if_pos c2]
      have J2 := jh_cutB J' m.ab (j := j) (by lia) fun z hz w hw => by
        obtain ⟨i, h1, ez⟩ := mem_cut hz
        have := j3 (j + i) (by lia) (by lia)
        rw [Nat.zero_add, kx_list b _ ez] at this
        simp [ahd] at this
        have := takeA_le m hx eq w hw
        lia
      by_cases c3 : j = 1
      · rw [if_pos (by simpa using c3)]
        exact wpS_pure ⟨hg, .inl ⟨_, rfl, good_headB m J2 c3⟩⟩
      · rw [if_neg (by simpa using c3)]
        have c4 : ¬ j = 0 := fun c4 => by
          obtain ⟨z, ez, hz⟩ := m.bot
          have := j3 0 (by lia) (by lia)
          rw [Nat.zero_add, kx_of ez] at this
          simp [ahd] at this
          have := hz q mq
          lia
        rw [if_neg (by simpa using c4)]
        exact w_hiTail m hg J2 hx (by lia) after (by lia)
    · rw [if_neg c2]
      have ej : j = y - 1 := by lia
      subst ej
      exact w_hiTail m hg J' hx (by lia) after (by lia)
theorem w_hiTop (L : LtOk M A E s kd S rk) (hk : kindOf st = kd) (m : Mg S rk a b) {st' : SortSt} {n ca cb g x y : Nat} {o : Array Keyed} (hg : Gl st st') (G : GoH rk a b o x y) (hn : x + y ≤ n + 1) :
    wpS M A E s (hiTop a b ca cb g o x y) (HiQ rk a b st n) st' := by
  obtain ⟨J, hx, hy⟩ := G
  have hz1 := J.2.1
  have hz2 := J.2.2
  unfold hiTop
  refine wpS_bind (wpS_modify ?_)
  have hg' := hg.set g
  obtain ⟨q, eq, sq, mq⟩ := m.atB (i := y - 1) (by lia)
  refine wpS_bind (w_elem eq ?_)
  refine wpS_bind (w_gallop L (hg'.kind.trans hk) sq (fun i hi => ?_) (up_asc m.aa _ _ (by lia)) (by lia) fun j j1 j2 j3 => ?_)
  · obtain ⟨p, e, sp, _⟩ := m.atA (i := 0 + i) (by lia)
    exact ⟨p, e, sp⟩
  dsimp only
  have after : ∀ p', b[y - 1]? = some p' → ∀ z ∈ a.toList.take j, rk z ≤ rk p' := fun p' ep z hz => by
    rw [eq] at ep
    cases ep
    obtain ⟨i, h1, ez⟩ := mem_head hz
    have := j2 i h1
    rw [Nat.zero_add, kx_list a i ez] at this
    simp [ahd] at this
    lia
  by_cases c2 : x - j > 0
  · rw [if_pos c2]
    have J2 := jh_cutA J m.aa (j := j) (by lia) fun z hz w hw => by
      obtain ⟨i, h1, ez⟩ := mem_cut hz
      have := j3 (j + i) (by lia) (by lia)
      rw [Nat.zero_add, kx_list a _ ez] at this
      simp [ahd] at this
      have := takeB_le m (by lia) eq w hw
      lia
    by_cases c3 : j = 0
    · rw [if_pos (by simpa using c3)]
      exact wpS_pure ⟨hg', .inl ⟨_, rfl, good_headA J2 m.aa m.ab c3⟩⟩
    · rw [if_neg (by simpa using c3)]
      exact w_hiMid L hk m hg' J2 (by lia) hy after (by lia)
  · rw [if_neg c2]
    have ej : j = x := by lia
    subst ej
    exact w_hiMid L hk m hg' J hx hy after hn
theorem w_mergeHi (L : LtOk M A E s kd S rk) (hk : kindOf st = kd) (m : Mg S rk a b) {Q : Array Keyed → SortSt → Prop} (h : ∀ r st', Gl st st' → Good rk a b r → Q r st') : wpS M A E s (mergeHiS a b) Q st := by
  rw [mergeHiS_eq]
  refine wpS_bind (wpS_lift (wpAny_rule ⟨rfl, ?_⟩))
  have na := m.na
  have nb := m.nb
  obtain ⟨q, eq, sq, mq⟩ := m.atA (i := a.size - 1) (by lia)
  refine wpS_bind (w_elem eq ?_)
  have J1 : JH rk a b #[q] (a.size - 1) b.size := by
    obtain ⟨z, ez, hz⟩ := m.top
    rw [eq] at ez
    cases ez
    have J0 : JH rk a b #[] a.size b.size := ⟨by rw [Nat.sub_self, Nat.sub_self]; exact Jn.start, Nat.le_refl _, Nat.le_refl _⟩
    exact jh_pushA (o := #[]) J0 m.aa na eq fun w hw => Int.le_of_lt (hz w (List.mem_of_mem_take hw))
  by_cases c1 : a.size - 1 = 0
  · rw [if_pos (by simpa using c1)]
    exact wpS_pure (h _ _ (Gl.refl _) (good_headA J1 m.aa m.ab c1))
  · rw [if_neg (by simpa using c1)]
    by_cases c2 : b.size = 1
    · rw [if_pos (by simpa using c2)]
      exact wpS_pure (h _ _ (Gl.refl _) (good_headB m J1 c2))
    · rw [if_neg (by simpa using c2)]
      refine wpS_bind (wpS_get ?_)
      have G1 : GoH rk a b #[q] (a.size - 1) b.size := ⟨J1, by lia, by lia⟩
      refine wpS_bind (wpS_mono (wpS_forRange (I := fun i c st' => Gl st st' ∧ ∃ x y o g, c = (none, x, y, o, g) ∧ GoH rk a b o x y ∧ x + y + i + 1 ≤ a.size + b.size)
        (Q := fun c st' => Gl st st' ∧ ∃ r x y o g, c = (some r, x, y, o, g) ∧ Good rk a b r) ?turn ?last ⟨Gl.refl _, _, _, #[q], _, rfl, G1, by lia⟩) ?after)
      case after =>
        rintro c st' ⟨hg, r, x, y, o, g, rfl, hr⟩
        exact wpS_pure (h r st' hg hr)
      case last =>
        rintro c st' ⟨hg, x, y, o, g, rfl, G, hi⟩
        have := G.hx
        have := G.hy
        exfalso
        lia
      case turn =>
        rintro i c st' _ hi ⟨hg, x, y, o, g, rfl, G, hxy⟩
        dsimp only
        refine wpS_bind (wpS_mono (wpS_forRange (I := fun j c st2 => Gl st st2 ∧ ∃ x y o ca cb, c = (none, x, y, o, ca, cb) ∧ GoH rk a b o x y ∧ x + y + i + 1 + j ≤ a.size + b.size)
          (Q := fun c st2 => Gl st st2 ∧ ∃ r x y o ca cb, c = (r, x, y, o, ca, cb) ∧ match r with
            | some r => Good rk a b r
            | none => GoH rk a b o x y ∧ x + y + i + 2 ≤ a.size + b.size) ?iturn ?ilast ⟨hg, x, y, o, 0, 0, rfl, G, by lia⟩) ?iafter)
        case ilast =>
          rintro c st2 ⟨hg2, x, y, o, ca, cb, rfl, G, hj⟩
          have := G.hx
          have := G.hy
          exfalso
          lia
        case iturn =>
          rintro j c st2 _ hj ⟨hg2, x, y, o, ca, cb, rfl, G, hxy2⟩
          dsimp only
          have g1 := G.hx
          have g2 := G.hy
          have z1 := G.jn.2.1
          have z2 := G.jn.2.2
          obtain ⟨pb, eb, sb, mb⟩ := m.atB (i := y - 1) (by lia)
          obtain ⟨pa, ea, sa, ma⟩ := m.atA (i := x - 1) (by lia)
          refine wpS_bind (w_elem eb (wpS_bind (w_elem ea (wpS_bind (L pb pa st2 _ sb sa (hg2.kind.trans hk) ?_)))))
          by_cases hw : rk pb < rk pa
          · simp only [hw, decide_true, if_true]
            refine wpS_bind (w_elem ea ?_)
            have J2 := jh_pushA G.jn m.aa g1 ea fun z hz => Int.le_trans (takeB_le m (by lia) eb z hz) (Int.le_of_lt hw)
            by_cases c3 : x - 1 = 0
            · rw [if_pos (by simpa using c3)]
              exact wpS_pure ⟨hg2, _, _, _, _, _, _, rfl, good_headA J2 m.aa m.ab c3⟩
            · rw [if_neg (by simpa using c3)]
              have G2 : GoH rk a b (o.push pa) (x - 1) y := ⟨J2, by lia, g2⟩
              split
              · exact wpS_pure ⟨hg2, _, _, _, _, _, _, rfl, G2, by lia⟩
              · exact wpS_pure ⟨hg2, _, _, _, _, _, rfl, G2, by lia⟩
          · simp only [hw, decide_false, Bool.false_eq_true, if_false]
            refine wpS_bind (w_elem eb ?_)
            have J2 := jh_pushB G.jn m.ab (by lia) eb fun z hz => Int.le_trans (takeA_le m g1 ea z hz) (by lia)
            by_cases c3 : y - 1 = 1
            · rw [if_pos (by simpa using c3)]
              exact wpS_pure ⟨hg2, _, _, _, _, _, _, rfl, good_headB m J2 c3⟩
            · rw [if_neg (by simpa using c3)]
              have G2 : GoH rk a b (o.push pb) x (y - 1) := ⟨J2, g1, by lia⟩
              split
              · exact wpS_pure ⟨hg2, _, _, _, _, _, _, rfl, G2, by lia⟩
              · exact wpS_pure ⟨hg2, _, _, _, _, _, rfl, G2, by lia⟩
        case iafter =>
          rintro c st2 ⟨hg2, r, x2, y2, o2, ca, cb, rfl, hr⟩
          cases r with
          | some r => exact wpS_pure ⟨hg2, r, _, _, _, _, rfl, hr⟩
          | none =>
            obtain ⟨G2, hxy2⟩ := hr
            dsimp only
            refine wpS_bind (wpS_lift (wpAny_rule ⟨rfl, ?_⟩))
            refine wpS_bind (wpS_mono (wpS_forRange (I := fun j c st3 => Gl st st3 ∧ ∃ x y o g ca cb, c = (none, x, y, o, g, ca, cb) ∧ GoH rk a b o x y ∧ x + y + i + 2 + j ≤ a.size + b.size)
              (Q := fun c st3 => Gl st st3 ∧ ∃ r x y o g ca cb, c = (r, x, y, o, g, ca, cb) ∧ match r with
                | some r => Good rk a b r
                | none => GoH rk a b o x y ∧ x + y + i + 2 ≤ a.size + b.size) ?gturn ?glast ⟨hg2, x2, y2, o2, _, _, _, rfl, G2, by lia⟩) ?gafter)
            case glast =>
              rintro c st3 ⟨hg3, x, y, o, g, ca, cb, rfl, G, hj⟩
              have := G.hx
              have := G.hy
              exfalso
              lia
            case gturn =>
              rintro j c st3 _ hj ⟨hg3, x, y, o, g, ca, cb, rfl, G, hxy3⟩
              have go : ∀ g', wpS M A E s (hiTop a b ca cb g' o x y) (HiQ rk a b st (x + y - 1)) st3 := fun g' => w_hiTop L hk m hg3 G (by lia)
              have g1 := G.hx
              dsimp only
              by_cases hgt : g > 1
              case' pos =>
                rw [if_pos hgt]
                refine wpS_mono (go (g - 1)) ?_
              case' neg =>
                rw [if_neg hgt]
                refine wpS_mono (go g) ?_
              all_goals
                intro r st4 q
                obtain ⟨hg4, q⟩ := q
                cases r with
                | done c' =>
                  obtain ⟨r, x', y', o', g', ca', cb'⟩ := c'
                  rcases q with ⟨r', e, q⟩ | ⟨e, q, q'⟩
                  · simp only at e
                    subst e
                    exact ⟨hg4, _, _, _, _, _, _, _, rfl, q⟩
                  · simp only at e q q'
                    subst e
                    exact ⟨hg4, _, _, _, _, _, _, _, rfl, q, by lia⟩
                | yield c' =>
                  obtain ⟨r, x', y', o', g', ca', cb'⟩ := c'
                  obtain ⟨e, q, q'⟩ := q
                  simp only at e q q'
                  subst e
                  exact ⟨hg4, _, _, _, _, _, _, rfl, q, by lia⟩
            case gafter =>
              rintro c st3 ⟨hg3, r, x3, y3, o3, g3, ca3, cb3, rfl, hr⟩
              cases r with
              | some r => exact wpS_pure ⟨hg3, r, _, _, _, _, rfl, hr⟩
              | none =>
                obtain ⟨G3, hxy3⟩ := hr
                dsimp only
                exact wpS_bind (wpS_modify (wpS_pure ⟨hg3.set _, _, _, _, _, rfl, G3, by lia⟩))
end
end Tim
namespace Tim
open PySem PyProof.Rows
theorem wpS_set {M : Model} {A : Around} {E : Value → Shared → Prop} {s : Shared} {σ : Type} {v : σ} {Q : PUnit → σ → Prop} {st : σ} (h : Q ⟨⟩ v) : wpS M A E s (set v : StateT σ Sem PUnit) Q st := by
  unfold wpS
  rw [StateT.run_set]
  exact wpAny_pure ⟨rfl, h⟩
def wrt (base : Nat) (l : List (Keyed × Nat)) (xs : Array Keyed) : Array Keyed := l.foldl (fun a q => a.setIfInBounds (base + q.2) q.1) xs
theorem mergeAt_eq (i : Nat) : mergeAt' i = (do
  let c ← get
  let (some (sa, na, pw), some (sb, nb, _)) := ((pendingOf c)[i]?, (pendingOf c)[i + 1]?) | unsupported "internal:list.sort.pending"
  set (setPending c (((pendingOf c).setIfInBounds i (sa, na + nb, pw)).eraseIdxIfInBounds (i + 1)))
  let some k ← gallopS false (← elem' (arrOf c) sb) (arrOf c) sa na 0 | return false
  let (sa, na) := (sa + k, na - k)
  if na == 0 then return true
  let some nb ← gallopS true (← elem' (arrOf c) (sa + na - 1)) (arrOf c) sb nb (nb - 1) | return false
  if nb == 0 then return true
  let x := (arrOf c).extract sa sb
  let y := (arrOf c).extract sb (sb + nb)
  let r ← if na ≤ nb then mergeLoS x y else mergeHiS x y
  modify fun c => setArr c (wrt sa r.toList.zipIdx (arrOf c))
  return (failedOf (← get)).isNone) := rfl
theorem wrt_at (base : Nat) : ∀ (l : List Keyed) (k : Nat) (xs : Array Keyed), base + k + l.length ≤ xs.size → ∀ j, (wrt base (l.zipIdx k) xs)[j]? = if base + k ≤ j ∧ j < base + k + l.length then l[j - (base + k)]? else xs[j]?
  | [], k, xs, _, j => by
    rw [if_neg (by simp)]
    rfl
  | p :: r, k, xs, h, j => by
    have h' : base + k + (r.length + 1) ≤ xs.size := h
    have ih := wrt_at base r (k + 1) (xs.setIfInBounds (base + k) p) (by rw [Array.size_setIfInBounds]; lia) j
    rw [List.zipIdx_cons]
    show (wrt base (r.zipIdx (k + 1)) (xs.setIfInBounds (base + k) p))[j]? = _
    rw [ih, List.length_cons]
    by_cases c1 : base + (k + 1) ≤ j ∧ j < base + (k + 1) + r.length
    · rw [if_pos c1, if_pos (by lia), show j - (base + k) = j - (base + (k + 1)) + 1 by lia, List.getElem?_cons_succ]
    · rw [if_neg c1, Array.getElem?_setIfInBounds]
      by_cases c2 : base + k = j
      · rw [if_pos c2, if_pos (by lia), if_pos (by lia), show j - (base + k) = 0 by lia]
        rfl
      · rw [if_neg c2, if_neg (by lia)]
theorem wrt_list (base : Nat) (l : List Keyed) (xs : Array Keyed) (h : base + l.length ≤ xs.size) : (wrt base l.zipIdx xs).toList = xs.toList.take base ++ l ++ xs.toList.drop (base + l.length) := by
  apply List.ext_getElem?
  intro j
  have := wrt_at base l 0 xs (by lia) j
  rw [Array.getElem?_toList]
  rw [this]
  have e1 : (xs.toList.take base).length = base := by rw [List.length_take, Array.length_toList]; lia
  by_cases c1 : j < base
  · rw [if_neg (by lia), List.append_assoc, List.getElem?_append_left (by lia), List.getElem?_take_of_lt c1, Array.getElem?_toList]
  · rw [List.append_assoc, List.getElem?_append_right (by lia), e1]
    by_cases c2 : j < base + l.length
    · rw [if_pos (by lia), List.getElem?_append_left (by lia)]
      rfl
    · rw [if_neg (by lia), List.getElem?_append_right (by lia), List.getElem?_drop, ← Array.getElem?_toList]
      congr 1
      lia
def Runs (rk : Keyed → Int) (xs : Array Keyed) : Nat → List (Nat × Nat × Nat) → Nat → Prop
  | u, [], v => u = v
  | u, r :: l, v => r.1 = u ∧ 1 ≤ r.2.1 ∧ Up rk xs u (u + r.2.1) ∧ Runs rk xs (u + r.2.1) l v
section
variable {rk : Keyed → Int} {xs ys : Array Keyed}
theorem Runs.split : ∀ {l1 l2 : List (Nat × Nat × Nat)} {u v : Nat}, Runs rk xs u (l1 ++ l2) v ↔ ∃ w, Runs rk xs u l1 w ∧ Runs rk xs w l2 v
  | [], l2, u, v => ⟨fun h => ⟨u, rfl, h⟩, fun ⟨w, e, h⟩ => by cases e; exact h⟩
  | r :: l1, l2, u, v => by
    constructor
    · rintro ⟨a, b, c, d⟩
      obtain ⟨w, h1, h2⟩ := Runs.split.mp d
      exact ⟨w, ⟨a, b, c, h1⟩, h2⟩
    · rintro ⟨w, ⟨a, b, c, d⟩, h2⟩
      exact ⟨a, b, c, Runs.split.mpr ⟨w, d, h2⟩⟩
theorem Runs.le : ∀ {l : List (Nat × Nat × Nat)} {u v : Nat}, Runs rk xs u l v → u + l.length ≤ v
  | [], u, v, h => by cases h; simp
  | r :: l, u, v, ⟨_, b, _, d⟩ => by
    have := Runs.le d
    rw [List.length_cons]
    lia
theorem Up.same {lo hi : Nat} (h : Up rk xs lo hi) (e : ∀ k, lo ≤ k → k < hi → ys[k]? = xs[k]?) : Up rk ys lo hi := fun i j a b c => by
  rw [kx_same (e i a (by lia)), kx_same (e j (by lia) c)]
  exact h i j a b c
theorem Runs.same : ∀ {l : List (Nat × Nat × Nat)} {u v : Nat}, Runs rk xs u l v → (∀ k, u ≤ k → k < v → ys[k]? = xs[k]?) → Runs rk ys u l v
  | [], u, v, h, _ => h
  | r :: l, u, v, ⟨a, b, c, d⟩, e => by
    have := Runs.le d
    exact ⟨a, b, c.same fun k h1 h2 => e k h1 (by lia), d.same fun k h1 h2 => e k (by lia) h2⟩
theorem Runs.pow : ∀ {l l' : List (Nat × Nat × Nat)} {u v : Nat}, Runs rk xs u l v → l'.map (fun r => (r.1, r.2.1)) = l.map (fun r => (r.1, r.2.1)) → Runs rk xs u l' v
  | [], l', u, v, h, e => by
    have : l' = [] := by simpa using e
    subst this
    exact h
  | r :: l, l', u, v, ⟨a, b, c, d⟩, e => by
    cases l' with
    | nil => simp at e
    | cons r' l' =>
      simp only [List.map_cons, List.cons.injEq, Prod.mk.injEq] at e
      obtain ⟨⟨e1, e2⟩, e3⟩ := e
      exact ⟨e1.trans a, by lia, by rw [e2]; exact c, by rw [e2]; exact d.pow e3⟩
end
section
variable {M : Model} {A : Around} {E : Value → Shared → Prop} {s : Shared} {kd : SortKind} {S : Keyed → Prop} {rk : Keyed → Int} {n : Nat}
theorem asc_cut {xs : Array Keyed} {i j : Nat} (hj : j ≤ xs.size) (h : Up rk xs i j) : Asc rk (xs.extract i j).toList := by
  unfold Asc
  rw [List.pairwise_iff_getElem]
  intro p q hp hq hpq
  have hl : (xs.extract i j).toList.length = j - i := by rw [Array.length_toList, Array.size_extract]; lia
  have e : ∀ p (hp : p < (xs.extract i j).toList.length), rk (xs.extract i j).toList[p] = kx rk xs (i + p) := fun p hp => by
    refine (kx_of ?_).symm
    have h1 : (xs.extract i j)[p]? = some (xs.extract i j).toList[p] := by rw [← Array.getElem?_toList, List.getElem?_eq_getElem]
    rw [← h1, Array.getElem?_extract, if_pos (by lia)]
  rw [e p hp, e q hq]
  exact h _ _ (by lia) (by lia) (by lia)
theorem mem_ext {xs : Array Keyed} {i j : Nat} (hj : j ≤ xs.size) {p : Keyed} (h : p ∈ (xs.extract i j).toList) : ∃ k, i ≤ k ∧ k < j ∧ xs[k]? = some p := by
  obtain ⟨q, hq, e⟩ := List.mem_iff_getElem.mp h
  have hl : (xs.extract i j).toList.length = j - i := by rw [Array.length_toList, Array.size_extract]; lia
  refine ⟨i + q, by lia, by lia, ?_⟩
  have h1 : (xs.extract i j)[q]? = some p := by rw [← Array.getElem?_toList, List.getElem?_eq_getElem hq, e]
  rw [← h1, Array.getElem?_extract, if_pos (by lia)]
theorem cut_at {xs : Array Keyed} {i j k : Nat} (h : i + k < j) (hj : j ≤ xs.size) : (xs.extract i j)[k]? = xs[i + k]? := by
  rw [Array.getElem?_extract, if_pos (by lia)]
theorem Mv.wrote {st : SortSt} {a m b : Nat} {r : Array Keyed} (h1 : a ≤ m) (h2 : m ≤ b) (hb : b ≤ (arrOf st).size) (hr : r.toList.Perm (((arrOf st).extract a m).toList ++ ((arrOf st).extract m b).toList)) :
    Mv a b st (setArr st (wrt a r.toList.zipIdx (arrOf st))) ∧ (∀ j, a ≤ j → j < b → ∃ p, (wrt a r.toList.zipIdx (arrOf st))[j]? = some p ∧ p ∈ r.toList ∧ r.toList[j - a]? = some p) := by
  have hl : r.toList.length = b - a := by
    rw [hr.length_eq, List.length_append, Array.length_toList, Array.length_toList, Array.size_extract, Array.size_extract]
    lia
  have hw := wrt_list a r.toList (arrOf st) (by lia)
  have hat := wrt_at a r.toList 0 (arrOf st) (by lia)
  refine ⟨⟨?_, fun k hk => ?_, rfl, rfl, rfl⟩, fun j ha hb' => ?_⟩
  · rw [Array.perm_iff_toList_perm]
    show (wrt a r.toList.zipIdx (arrOf st)).toList.Perm (arrOf st).toList
    rw [hw, hl, show a + (b - a) = b by lia]
    have e : (arrOf st).toList = (arrOf st).toList.take a ++ (((arrOf st).extract a m).toList ++ ((arrOf st).extract m b).toList) ++ (arrOf st).toList.drop b := by
      rw [Array.toList_extract, Array.toList_extract, List.extract_eq_take_drop, List.extract_eq_take_drop]
      have e1 : (arrOf st).toList.drop a = ((arrOf st).toList.drop a).take (m - a) ++ (arrOf st).toList.drop m := by
        have := drop_split (arrOf st).toList a (m - a)
        rwa [show a + (m - a) = m by lia] at this
      have e2 : (arrOf st).toList.drop m = ((arrOf st).toList.drop m).take (b - m) ++ (arrOf st).toList.drop b := by
        have := drop_split (arrOf st).toList m (b - m)
        rwa [show m + (b - m) = b by lia] at this
      rw [List.append_assoc, List.append_assoc, ← e2, ← e1, List.take_append_drop]
    refine List.Perm.trans ?_ (List.Perm.of_eq e.symm)
    exact (hr.append_left _).append_right _
  · show (wrt a r.toList.zipIdx (arrOf st))[k]? = _
    rw [hat k, if_neg (by lia)]
  · have hlt : j - a < r.toList.length := by lia
    refine ⟨r.toList[j - a], ?_, by simp, List.getElem?_eq_getElem hlt⟩
    rw [hat j, if_pos (by lia), Nat.add_zero, List.getElem?_eq_getElem hlt]
structure Merged (rk : Keyed → Int) (lo hi : Nat) (p : Array (Nat × Nat × Nat)) (st st' : SortSt) : Prop where
  perm : (arrOf st').Perm (arrOf st)
  out : ∀ k, k < lo ∨ hi ≤ k → (arrOf st')[k]? = (arrOf st)[k]?
  kind : kindOf st' = kindOf st
  failed : failedOf st' = failedOf st
  pend : pendingOf st' = p
  up : Up rk (arrOf st') lo hi
theorem w_mergeAt (L : LtOk M A E s kd S rk) {st : SortSt} (B : Sane kd S n st) {i sa na pw nb p2 : Nat} (e1 : (pendingOf st)[i]? = some (sa, na, pw)) (e2 : (pendingOf st)[i + 1]? = some (sa + na, nb, p2)) (ha : 1 ≤ na) (hb : 1 ≤ nb) (hn : sa + na + nb ≤ n)
    (u1 : Up rk (arrOf st) sa (sa + na)) (u2 : Up rk (arrOf st) (sa + na) (sa + na + nb)) {Q : Bool → SortSt → Prop}
    (h : ∀ st', Merged rk sa (sa + na + nb) (((pendingOf st).setIfInBounds i (sa, na + nb, pw)).eraseIdxIfInBounds (i + 1)) st st' → Q true st') : wpS M A E s (mergeAt' i) Q st := by
  rw [mergeAt_eq]
  refine wpS_bind (wpS_get ?_)
  rw [e1, e2]
  dsimp only
  refine wpS_bind (wpS_set ?_)
  have hall : ∀ j, j < n → ∃ p, (arrOf st)[j]? = some p ∧ S p := fun j hj => by
    obtain ⟨p, a, b, _⟩ := B.at rk hj
    exact ⟨p, a, b⟩
  have hz := B.size
  obtain ⟨q, eq, sq⟩ := hall (sa + na) (by lia)
  have kq : kx rk (arrOf st) (sa + na) = rk q := kx_of eq
  refine wpS_bind (w_elem eq ?_)
  refine wpS_bind (w_gallop L B.kind sq (fun j hj => hall (sa + j) (by lia)) u1 (by lia) fun k k1 k2 k3 => ?_)
  dsimp only
  have low : ∀ j, sa ≤ j → j < sa + k → kx rk (arrOf st) j ≤ kx rk (arrOf st) (sa + na) := fun j a b => by
    have := k2 (j - sa) (by lia)
    rw [show sa + (j - sa) = j by lia] at this
    simp [ahd] at this
    rw [kq]
    exact this
  have high : ∀ j, sa + k ≤ j → j < sa + na → kx rk (arrOf st) (sa + na) < kx rk (arrOf st) j := fun j a b => by
    have := k3 (j - sa) (by lia) (by lia)
    rw [show sa + (j - sa) = j by lia] at this
    simp [ahd] at this
    rw [kq]
    lia
  have joined : kx rk (arrOf st) (sa + na - 1) ≤ kx rk (arrOf st) (sa + na) → Up rk (arrOf st) sa (sa + na + nb) := fun hle i j a b c => by
    by_cases c1 : j < sa + na
    · exact u1 i j a b c1
    · by_cases c2 : sa + na ≤ i
      · exact u2 i j c2 b c
      · have h1 := u1 i (sa + na - 1) a (by lia) (by lia)
        have h2 := u2 (sa + na) j (Nat.le_refl _) (by lia) c
        lia
  by_cases c0 : na - k = 0
  · rw [if_pos (by simpa using c0)]
    exact wpS_pure (h _ ⟨Array.Perm.refl _, fun _ _ => rfl, rfl, rfl, rfl, joined (low _ (by lia) (by lia))⟩)
  · rw [if_neg (by simpa using c0)]
    have el : sa + k + (na - k) - 1 = sa + na - 1 := by lia
    rw [el]
    obtain ⟨z, ez, sz⟩ := hall (sa + na - 1) (by lia)
    have kz : kx rk (arrOf st) (sa + na - 1) = rk z := kx_of ez
    refine wpS_bind (w_elem ez ?_)
    refine wpS_bind (w_gallop L B.kind sz (fun j hj => hall (sa + na + j) (by lia)) u2 (by lia) fun k' k1' k2' k3' => ?_)
    dsimp only
    have low' : ∀ j, sa + na ≤ j → j < sa + na + k' → kx rk (arrOf st) j < kx rk (arrOf st) (sa + na - 1) := fun j a b => by
      have := k2' (j - (sa + na)) (by lia)
      rw [show sa + na + (j - (sa + na)) = j by lia] at this
      simp [ahd] at this
      rw [kz]
      exact this
    have high' : ∀ j, sa + na + k' ≤ j → j < sa + na + nb → kx rk (arrOf st) (sa + na - 1) ≤ kx rk (arrOf st) j := fun j a b => by
      have := k3' (j - (sa + na)) (by lia) (by lia)
      rw [show sa + na + (j - (sa + na)) = j by lia] at this
      simp [ahd] at this
      rw [kz]
      lia
    by_cases c1 : k' = 0
    · rw [if_pos (by simpa using c1)]
      exact wpS_pure (h _ ⟨Array.Perm.refl _, fun _ _ => rfl, rfl, rfl, rfl, joined (high' _ (by lia) (by lia))⟩)
    · rw [if_neg (by simpa using c1)]
      have m : Mg S rk ((arrOf st).extract (sa + k) (sa + na)) ((arrOf st).extract (sa + na) (sa + na + k')) := by
        refine ⟨fun p hp => ?_, fun p hp => ?_, asc_cut (by lia) fun i j a b c => u1 i j (by lia) b c, asc_cut (by lia) fun i j a b c => u2 i j a b (by lia), by rw [Array.size_extract]; lia, by rw [Array.size_extract]; lia, ⟨z, ?_, fun p hp => ?_⟩, ⟨q, ?_, fun p hp => ?_⟩⟩
        · obtain ⟨j, h1, h2, e⟩ := mem_ext (by lia) hp
          obtain ⟨p', e', sp⟩ := hall j (by lia)
          rw [e] at e'
          cases e'
          exact sp
        · obtain ⟨j, h1, h2, e⟩ := mem_ext (by lia) hp
          obtain ⟨p', e', sp⟩ := hall j (by lia)
          rw [e] at e'
          cases e'
          exact sp
        · rw [Array.size_extract, cut_at (by lia) (by lia), ← ez]
          congr 1
          lia
        · obtain ⟨j, h1, h2, e⟩ := mem_ext (by lia) hp
          have := low' j h1 h2
          rwa [kz, kx_of e] at this
        · rw [cut_at (by lia) (by lia), ← eq]
          rfl
        · obtain ⟨j, h1, h2, e⟩ := mem_ext (by lia) hp
          have := high j h1 h2
          rwa [kq, kx_of e] at this
      have fin : ∀ (r : Array Keyed) (st' : SortSt), Gl (setPending st (((pendingOf st).setIfInBounds i (sa, na + nb, pw)).eraseIdxIfInBounds (i + 1))) st' → Good rk ((arrOf st).extract (sa + k) (sa + na)) ((arrOf st).extract (sa + na) (sa + na + k')) r →
          wpS M A E s ((modify fun c => setArr c (wrt (sa + k) r.toList.zipIdx (arrOf c)) : StateT SortSt Sem PUnit) >>= fun _ => get >>= fun c => pure (failedOf c).isNone) Q st' := by
        intro r st' hg hr
        have ha' : arrOf st' = arrOf st := hg.arr
        refine wpS_bind (wpS_modify (wpS_bind (wpS_get (wpS_pure ?_))))
        have hf : failedOf st' = none := hg.failed.trans B.failed
        show Q (failedOf st').isNone _
        rw [hf]
        have hw := Mv.wrote (st := st) (a := sa + k) (m := sa + na) (b := sa + na + k') (r := r) (by lia) (by lia) (by lia) hr.1
        obtain ⟨v, at'⟩ := hw
        have ascr := List.pairwise_iff_getElem.mp hr.2
        have mid : ∀ j, sa + k ≤ j → j < sa + na + k' → kx rk (arrOf st) (sa + na) ≤ kx rk (wrt (sa + k) r.toList.zipIdx (arrOf st)) j ∧ kx rk (wrt (sa + k) r.toList.zipIdx (arrOf st)) j ≤ kx rk (arrOf st) (sa + na - 1) := fun j a b => by
          obtain ⟨p, e, hp, _⟩ := at' j a b
          rw [kx_of e]
          rcases List.mem_append.mp (hr.1.mem_iff.mp hp) with hp | hp
          · obtain ⟨j', h1, h2, e'⟩ := mem_ext (by lia) hp
            rw [← kx_of (rk := rk) e']
            exact ⟨Int.le_of_lt (high j' h1 h2), u1 j' (sa + na - 1) (by lia) (by lia) (by lia)⟩
          · obtain ⟨j', h1, h2, e'⟩ := mem_ext (by lia) hp
            rw [← kx_of (rk := rk) e']
            exact ⟨u2 _ j' (Nat.le_refl _) h1 (by lia), Int.le_of_lt (low' j' h1 h2)⟩
        have out : ∀ j, j < sa + k ∨ sa + na + k' ≤ j → kx rk (wrt (sa + k) r.toList.zipIdx (arrOf st)) j = kx rk (arrOf st) j := fun j hj => kx_same (v.out j hj)
        rw [show (setArr st' (wrt (sa + k) r.toList.zipIdx (arrOf st'))) = setArr st' (wrt (sa + k) r.toList.zipIdx (arrOf st)) by rw [ha']]
        refine h _ ⟨v.perm, fun j hj => v.out j (by lia), hg.kind, hg.failed, hg.pend, fun i j a b c => ?_⟩
        show kx rk (wrt (sa + k) r.toList.zipIdx (arrOf st)) i ≤ kx rk (wrt (sa + k) r.toList.zipIdx (arrOf st)) j
        by_cases i1 : i < sa + k
        · rw [out i (.inl i1)]
          have li := low i a i1
          by_cases j1 : j < sa + k
          · rw [out j (.inl j1)]
            exact u1 i j a b (by lia)
          · by_cases j2 : j < sa + na + k'
            · have := (mid j (by lia) j2).1
              lia
            · rw [out j (.inr (by lia))]
              have := u2 (sa + na) j (Nat.le_refl _) (by lia) c
              lia
        · by_cases i2 : i < sa + na + k'
          · by_cases j2 : j < sa + na + k'
            · obtain ⟨p, ep, _, gp⟩ := at' i (by lia) i2
              obtain ⟨p', ep', _, gp'⟩ := at' j (by lia) j2
              rw [kx_of ep, kx_of ep']
              obtain ⟨l1, x1⟩ := List.getElem?_eq_some_iff.mp gp
              obtain ⟨l2, x2⟩ := List.getElem?_eq_some_iff.mp gp'
              rcases Nat.lt_or_ge i j with hij | hij
              · have := ascr (i - (sa + k)) (j - (sa + k)) l1 l2 (by lia)
                rwa [x1, x2] at this
              · have eij : i = j := by lia
                subst eij
                rw [gp] at gp'
                cases gp'
                exact Int.le_refl _
            · rw [out j (.inr (by lia))]
              have h1 := (mid i (by lia) i2).2
              have h2 := high' j (by lia) c
              lia
          · rw [out i (.inr (by lia)), out j (.inr (by lia))]
            exact u2 i j (by lia) b c
      by_cases c2 : na - k ≤ k'
      · rw [if_pos c2]
        exact wpS_bind (w_mergeLo (st := setPending st (((pendingOf st).setIfInBounds i (sa, na + nb, pw)).eraseIdxIfInBounds (i + 1))) L B.kind m fun r st' hg hr => fin r st' hg hr)
      · rw [if_neg c2]
        exact wpS_bind (w_mergeHi (st := setPending st (((pendingOf st).setIfInBounds i (sa, na + nb, pw)).eraseIdxIfInBounds (i + 1))) L B.kind m fun r st' hg hr => fin r st' hg hr)
end
end Tim
namespace Tim
open PySem PyProof.Rows
theorem pend_list {p : Array (Nat × Nat × Nat)} {l1 l2 : List (Nat × Nat × Nat)} {r1 r2 r : Nat × Nat × Nat} {i : Nat} (h : p.toList = l1 ++ r1 :: r2 :: l2) (hi : l1.length = i) :
    ((p.setIfInBounds i r).eraseIdxIfInBounds (i + 1)).toList = l1 ++ r :: l2 := by
  have hs : i + 1 < (p.setIfInBounds i r).size := by
    rw [Array.size_setIfInBounds, ← Array.length_toList, h]
    simp
    lia
  rw [Array.eraseIdxIfInBounds, dif_pos hs, Array.toList_eraseIdx, Array.toList_setIfInBounds, h, ← hi, List.set_append_right _ _ (Nat.le_refl _), Nat.sub_self, List.set_cons_zero,
    List.eraseIdx_append_of_length_le (by lia)]
  congr 1
  rw [show l1.length + 1 - l1.length = 1 by lia]
  rfl
theorem list_two {α : Type} {l : List α} {i : Nat} (h : i + 1 < l.length) : ∃ l1 r1 r2 l2, l = l1 ++ r1 :: r2 :: l2 ∧ l1.length = i := by
  refine ⟨l.take i, l[i], l[i + 1], l.drop (i + 2), ?_, by rw [List.length_take]; lia⟩
  rw [← List.drop_eq_getElem_cons h, ← List.drop_eq_getElem_cons (by lia), List.take_append_drop]
section
variable {M : Model} {A : Around} {E : Value → Shared → Prop} {s : Shared} {kd : SortKind} {S : Keyed → Prop} {rk : Keyed → Int} {n : Nat}
structure Sr (rk : Keyed → Int) (kd : SortKind) (S : Keyed → Prop) (n : Nat) (st : SortSt) (lo : Nat) (st' : SortSt) : Prop where
  perm : (arrOf st').Perm (arrOf st)
  sane : Sane kd S n st'
  runs : Runs rk (arrOf st') 0 (pendingOf st').toList lo
theorem Sr.merge {st st' : SortSt} {lo i : Nat} (h : Sr rk kd S n st lo st') (hi : i + 1 < (pendingOf st').size) :
    ∃ sa na pw nb p2, (pendingOf st')[i]? = some (sa, na, pw) ∧ (pendingOf st')[i + 1]? = some (sa + na, nb, p2) ∧ 1 ≤ na ∧ 1 ≤ nb ∧ sa + na + nb ≤ lo ∧ Up rk (arrOf st') sa (sa + na) ∧ Up rk (arrOf st') (sa + na) (sa + na + nb) ∧
      ∀ st4, Merged rk sa (sa + na + nb) (((pendingOf st').setIfInBounds i (sa, na + nb, pw)).eraseIdxIfInBounds (i + 1)) st' st4 →
        Sr rk kd S n st lo st4 ∧ (pendingOf st4).size + 1 = (pendingOf st').size ∧ ∀ k, lo ≤ k → (arrOf st4)[k]? = (arrOf st')[k]? := by
  obtain ⟨l1, ⟨a1, n1, q1⟩, ⟨a2, n2, q2⟩, l2, e, el⟩ := list_two (l := (pendingOf st').toList) (i := i) (by rw [Array.length_toList]; exact hi)
  have R := h.runs
  rw [e] at R
  obtain ⟨w, R1, R2⟩ := Runs.split.mp R
  obtain ⟨x1, x2, x3, x4, x5, x6, x7⟩ := R2
  simp only at x1 x2 x3 x4 x5 x6 x7
  subst x1 x4
  have le := Runs.le x7
  have g1 : (pendingOf st')[i]? = some (a1, n1, q1) := by
    rw [← Array.getElem?_toList, e, List.getElem?_append_right (by lia), ← el, Nat.sub_self]
    rfl
  have g2 : (pendingOf st')[i + 1]? = some (a1 + n1, n2, q2) := by
    rw [← Array.getElem?_toList, e, List.getElem?_append_right (by lia), show i + 1 - l1.length = 1 by lia]
    rfl
  refine ⟨a1, n1, q1, n2, q2, g1, g2, x2, x5, by lia, x3, x6, fun st4 m => ⟨⟨m.perm.trans h.perm, ?_, ?_⟩, ?_, fun k hk => m.out k (by lia)⟩⟩
  · exact ⟨m.perm.size_eq.trans h.sane.size, fun p hp => h.sane.all p ((Array.perm_iff_toList_perm.mp m.perm).mem_iff.mp hp), m.kind.trans h.sane.kind, m.failed.trans h.sane.failed⟩
  · rw [m.pend, pend_list e el]
    refine Runs.split.mpr ⟨a1, R1.same fun k _ hk => m.out k (.inl hk), rfl, by show 1 ≤ n1 + n2; lia, ?_, ?_⟩
    · show Up rk (arrOf st4) a1 (a1 + (n1 + n2))
      rw [← Nat.add_assoc]
      exact m.up
    · show Runs rk (arrOf st4) (a1 + (n1 + n2)) l2 lo
      rw [← Nat.add_assoc]
      exact x7.same fun k hk _ => m.out k (.inr hk)
  · rw [m.pend, ← Array.length_toList, pend_list e el, ← Array.length_toList, e]
    simp
    lia
theorem Sr.mv {st st' st2 : SortSt} {lo hi : Nat} (h : Sr rk kd S n st lo st') (v : Mv lo hi st' st2) : Sr rk kd S n st lo st2 :=
  ⟨v.perm.trans h.perm, v.sane h.sane, by rw [v.pend]; exact h.runs.same fun k _ hk => v.out k (.inl hk)⟩
theorem Sr.setP {st st' : SortSt} {lo hi : Nat} {p : Array (Nat × Nat × Nat)} (h : Sr rk kd S n st lo st') (r : Runs rk (arrOf st') 0 p.toList hi) : Sr rk kd S n st hi (setPending st' p) :=
  ⟨h.perm, ⟨h.sane.size, h.sane.all, h.sane.kind, h.sane.failed⟩, r⟩
theorem mod_last (p : Array (Nat × Nat × Nat)) (pw : Nat) : (p.modify (p.size - 1) fun (x : Nat × Nat × Nat) => (x.1, x.2.1, pw)).toList.map (fun r => (r.1, r.2.1)) = p.toList.map (fun r => (r.1, r.2.1)) := by
  apply List.ext_getElem?
  intro j
  rw [List.getElem?_map, List.getElem?_map, Array.getElem?_toList, Array.getElem?_toList, Array.getElem?_modify]
  split
  · cases p[j]? <;> rfl
  · rfl
theorem w_sortRuns (L : LtOk M A E s kd S rk) {st : SortSt} (B : Sane kd S n st) (h2 : 2 ≤ n) (hp : pendingOf st = #[]) {Q : Unit → SortSt → Prop}
    (h : ∀ st', (arrOf st').Perm (arrOf st) → failedOf st' = none → Up rk (arrOf st') 0 n → Q () st') : wpS M A E s sortRuns' Q st := by
  rw [sortRuns'_eq]
  refine wpS_bind (wpS_get ?_)
  dsimp only
  simp only [B.size]
  have start : Sr rk kd S n st 0 st := ⟨Array.Perm.refl _, B, by rw [hp]; rfl⟩
  refine wpS_bind (wpS_mono (wpS_forRange (I := fun x c st' => ∃ lo, c = (none, lo) ∧ Sr rk kd S n st lo st' ∧ lo ≤ n ∧ min x n ≤ lo)
    (Q := fun c st' => c = (none, n) ∧ Sr rk kd S n st n st') ?turn ?last ⟨0, rfl, start, by lia, by lia⟩) ?after)
  case last =>
    rintro c st' ⟨lo, rfl, R, h1, h3⟩
    have e : lo = n := by lia
    subst e
    exact ⟨rfl, R⟩
  case turn =>
    rintro x c st' _ hx ⟨lo, rfl, R, hlo, hxl⟩
    dsimp only
    by_cases hge : lo ≥ n
    · rw [if_pos hge]
      have e : lo = n := by lia
      subst e
      exact wpS_pure ⟨rfl, R⟩
    rw [if_neg hge]
    refine wpS_bind (w_countRun L R.sane (by lia) (by lia) fun k st2 v2 k1 k2 u2 => ?_)
    have R2 := R.mv v2
    dsimp only
    by_cases hlt : k < minRun' n n 0
    case' pos =>
      rw [if_pos hlt]
      refine wpS_bind (wpS_lift (wpAny_rule ⟨rfl, ?_⟩))
      refine wpS_bind (w_binarySort L R2.sane (by lia) (by lia) u2 fun st3 v3 u3 => ?_)
      have R3 := R2.mv v3
      simp only [Bool.not_true, Bool.false_eq_true, if_false]
      have m1 : 1 ≤ min (n - lo) (minRun' n n 0) := by lia
      have m2 : min (n - lo) (minRun' n n 0) ≤ n - lo := by lia
      clear hlt v3
      generalize min (n - lo) (minRun' n n 0) = m at *
    case' neg =>
      rw [if_neg hlt]
      have R3 := R2
      have u3 := u2
      have m1 := k1
      have m2 := k2
      clear hlt
      generalize st2 = st3 at *
      generalize k = m at *
    all_goals
      refine wpS_bind (wpS_get ?_)
      have fin : ∀ (st5 : SortSt) (p : Array (Nat × Nat × Nat)), Sr rk kd S n st lo st5 → Up rk (arrOf st5) lo (lo + m) → Runs rk (arrOf st5) 0 p.toList lo →
          Sr rk kd S n st (lo + m) (setPending (setPending st5 p) ((pendingOf (setPending st5 p)).push (lo, m, 0))) := fun st5 p R5 u5 rp => by
        refine (R5.setP rp).setP ?_
        show Runs rk (arrOf st5) 0 (p.push (lo, m, 0)).toList (lo + m)
        rw [Array.toList_push]
        exact Runs.split.mpr ⟨lo, rp, rfl, m1, u5, rfl⟩
      cases hb : (pendingOf st3).back? with
      | none =>
        dsimp only
        exact wpS_bind (wpS_modify (wpS_pure ⟨lo + m, rfl, fin st3 (pendingOf st3) R3 u3 R3.runs, by lia, by lia⟩))
      | some q =>
        obtain ⟨s1, n1, q1⟩ := q
        dsimp only
        refine wpS_bind (wpS_mono (wpS_forRange (I := fun _ c st4 => c = (none, ()) ∧ Sr rk kd S n st lo st4 ∧ Up rk (arrOf st4) lo (lo + m))
          (Q := fun c st4 => c = (none, ()) ∧ Sr rk kd S n st lo st4 ∧ Up rk (arrOf st4) lo (lo + m)) ?mturn (fun _ _ z => z) ⟨rfl, R3, u3⟩) ?mafter)
        case mturn =>
          rintro j c st4 _ hj ⟨rfl, R4, u4⟩
          refine wpS_bind (wpS_get ?_)
          by_cases c1 : (pendingOf st4).size > 1
          · obtain ⟨sa, na, pw, nb, p2, g1, g2, a1, a2, a3, a4, a5, a6⟩ := R4.merge (i := (pendingOf st4).size - 2) (by lia)
            rw [if_pos c1, g1]
            dsimp only
            split
            · exact wpS_pure ⟨rfl, R4, u4⟩
            · refine wpS_bind (w_mergeAt L R4.sane g1 g2 a1 a2 (by lia) a4 a5 fun st5 mm => ?_)
              obtain ⟨R5, _, o5⟩ := a6 st5 mm
              simp only [Bool.not_true, Bool.false_eq_true, if_false]
              exact wpS_pure ⟨rfl, R5, u4.same fun k hk _ => o5 k hk⟩
          · rw [if_neg c1]
            exact wpS_pure ⟨rfl, R4, u4⟩
        case mafter =>
          rintro c st4 ⟨rfl, R4, u4⟩
          dsimp only
          refine wpS_bind (wpS_modify (wpS_bind (wpS_modify (wpS_pure ⟨lo + m, rfl, ?_, by lia, by lia⟩))))
          exact fin st4 _ R4 u4 (R4.runs.pow (mod_last _ _))
  case after =>
    rintro c st' ⟨rfl, R⟩
    dsimp only
    refine wpS_bind (wpS_mono (wpS_forRange (I := fun x c st4 => c = (none, ()) ∧ Sr rk kd S n st n st4 ∧ (pendingOf st4).size ≤ max 1 (n - x))
      (Q := fun c st4 => c = (none, ()) ∧ Sr rk kd S n st n st4 ∧ (pendingOf st4).size ≤ 1) ?fturn ?flast ⟨rfl, R, ?ffirst⟩) ?fafter)
    case ffirst =>
      have := Runs.le R.runs
      rw [Array.length_toList] at this
      lia
    case flast =>
      rintro c st4 ⟨hc, R4, h4⟩
      exact ⟨hc, R4, by lia⟩
    case fturn =>
      rintro j c st4 _ hj ⟨rfl, R4, h4⟩
      refine wpS_bind (wpS_get ?_)
      by_cases c1 : (pendingOf st4).size ≤ 1
      · rw [if_pos c1]
        exact wpS_pure ⟨rfl, R4, c1⟩
      · rw [if_neg c1]
        have go : ∀ i, i + 1 < (pendingOf st4).size → wpS M A E s (mergeAt' i) (fun b st5 => b = true ∧ Sr rk kd S n st n st5 ∧ (pendingOf st5).size ≤ max 1 (n - (j + 1))) st4 := fun i hi => by
          obtain ⟨sa, na, pw, nb, p2, g1, g2, a1, a2, a3, a4, a5, a6⟩ := R4.merge hi
          refine w_mergeAt L R4.sane g1 g2 a1 a2 (by lia) a4 a5 fun st5 mm => ?_
          obtain ⟨R5, z5, _⟩ := a6 st5 mm
          exact ⟨rfl, R5, by lia⟩
        refine wpS_bind (wpS_mono (go _ ?_) ?_)
        · repeat' split
          all_goals lia
        · rintro b st5 ⟨rfl, R5, z5⟩
          simp only [Bool.not_true, Bool.false_eq_true, if_false]
          exact wpS_pure ⟨rfl, R5, z5⟩
    case fafter =>
      rintro c st4 ⟨rfl, R4, h4⟩
      refine wpS_pure (h st4 R4.perm R4.sane.failed ?_)
      have hr := R4.runs
      have hl : (pendingOf st4).toList.length ≤ 1 := by rw [Array.length_toList]; exact h4
      cases e : (pendingOf st4).toList with
      | nil =>
        rw [e] at hr
        have : 0 = n := hr
        lia
      | cons r l =>
        rw [e] at hr hl
        have : l = [] := by simpa using hl
        subst this
        obtain ⟨_, _, u, z⟩ := hr
        have z' : 0 + r.2.1 = n := z
        rwa [z'] at u
end
end Tim
namespace Tim
open PySem PyProof.Rows
def KLt (prog : Program) (w : World) (A : Around) (s : Shared) (kd : SortKind) (x y : Value) (r : Bool) : Prop :=
  ∀ (E : Value → Shared → Prop) (Q : Bool → Shared → Prop), Q r s → wpAny (model prog w) A (keyLt' kd x y) Q E s
theorem ltOk_of {prog : Program} {w : World} {A : Around} {E : Value → Shared → Prop} {s : Shared} {kd : SortKind} {S : Keyed → Prop} {rk : Keyed → Int} (h : ∀ x y, S x → S y → KLt prog w A s kd x.1 y.1 (decide (rk x < rk y))) :
    LtOk (model prog w) A E s kd S rk := by
  intro x y st Q sx sy hk q
  rw [lt'_eq]
  refine wpS_bind (wpS_get ?_)
  rw [hk]
  refine wpS_bind (wpS_lift (wpAny_attempt (h x y sx sy _ _ ⟨rfl, ?_⟩)))
  exact wpS_pure q
section
variable {α : Type}
theorem count_le {p q : α → Bool} : ∀ (l : List α), (∀ z ∈ l, p z = true → q z = true) → (l.filter p).length ≤ (l.filter q).length
  | [], _ => Nat.le_refl _
  | z :: l, h => by
    have ih := count_le (p := p) (q := q) l fun y hy => h y (List.mem_cons_of_mem _ hy)
    rw [List.filter_cons, List.filter_cons]
    cases e : p z with
    | true =>
      rw [h z (List.mem_cons_self ..) e]
      simp only [if_true, List.length_cons]
      lia
    | false =>
      cases q z with
      | true => simp only [Bool.false_eq_true, if_false, if_true, List.length_cons]; lia
      | false => simpa using ih
theorem count_lt {p q : α → Bool} {y : α} : ∀ (l : List α), (∀ z ∈ l, p z = true → q z = true) → y ∈ l → p y = false → q y = true → (l.filter p).length < (l.filter q).length
  | [], _, hy, _, _ => nomatch hy
  | z :: l, h, hy, h1, h2 => by
    have hl : ∀ w ∈ l, p w = true → q w = true := fun w hw => h w (List.mem_cons_of_mem _ hw)
    rw [List.filter_cons, List.filter_cons]
    rcases List.mem_cons.mp hy with rfl | hy
    · rw [h1, h2]
      have := count_le l hl
      simp only [Bool.false_eq_true, if_false, if_true, List.length_cons]
      lia
    · have ih := count_lt l hl hy h1 h2
      cases e : p z with
      | true =>
        rw [h z (List.mem_cons_self ..) e]
        simp only [if_true, List.length_cons]
        lia
      | false =>
        cases q z with
        | true => simp only [Bool.false_eq_true, if_false, if_true, List.length_cons]; lia
        | false => simpa using ih
def rank (lt : α → α → Bool) (l : List α) (x : α) : Int := ((l.filter fun y => lt y x).length : Nat)
theorem rank_lt {lt : α → α → Bool} {l : List α} (irr : ∀ x ∈ l, lt x x = false) (tr : ∀ x ∈ l, ∀ y ∈ l, ∀ z ∈ l, lt x y = true → lt y z = true → lt x z = true)
    (nt : ∀ x ∈ l, ∀ y ∈ l, ∀ z ∈ l, lt x z = true → lt x y = true ∨ lt y z = true) {x y : α} (hx : x ∈ l) (hy : y ∈ l) : lt x y = decide (rank lt l x < rank lt l y) := by
  unfold rank
  cases e : lt x y with
  | true =>
    have := count_lt (p := fun z => lt z x) (q := fun z => lt z y) l (fun z hz h => tr z hz x hx y hy h e) hx (irr x hx) e
    exact (decide_eq_true (by lia)).symm
  | false =>
    have := count_le (p := fun z => lt z y) (q := fun z => lt z x) l (fun z hz h => (nt z hz x hx y hy h).resolve_right (by rw [e]; exact Bool.false_ne_true))
    exact (decide_eq_false (by lia)).symm
end
structure Sorted (rk : Value → Int) (vs out : List Value) : Prop where
  perm : out.Perm vs
  asc : out.Pairwise fun x y => rk x ≤ rk y
section
variable {prog : Program} {w : World} {A : Around} {E : Value → Shared → Prop} {s : Shared}
end
end Tim
namespace Tim
structure STO {α : Type} (lt : α → α → Bool) : Prop where
  irr : ∀ a, lt a a = false
  tr : ∀ a b c, lt a b = true → lt b c = true → lt a c = true
  tri : ∀ a b, lt a b = false → lt b a = false → a = b
section
variable {α β : Type}
theorem STO.asym {lt : α → α → Bool} (h : STO lt) {a b : α} (x : lt a b = true) : lt b a = false := by
  cases e : lt b a with
  | false => rfl
  | true =>
    have := h.tr a b a x e
    rw [h.irr] at this
    cases this
theorem STO.nt {lt : α → α → Bool} (h : STO lt) {a c : α} (b : α) (x : lt a c = true) : lt a b = true ∨ lt b c = true := by
  cases e : lt a b with
  | true => exact .inl rfl
  | false =>
    cases f : lt b a with
    | true => exact .inr (h.tr b a c f x)
    | false =>
      have := h.tri a b e f
      subst this
      exact .inr x
theorem STO.map {lt : α → α → Bool} (h : STO lt) (f : β → α) (inj : ∀ a b, f a = f b → a = b) : STO fun a b => lt (f a) (f b) :=
  ⟨fun a => h.irr _, fun a b c => h.tr _ _ _, fun a b x y => inj a b (h.tri _ _ x y)⟩
def lexB [DecidableEq α] (lt : α → α → Bool) : List α → List α → Bool
  | [], [] => false
  | [], _ :: _ => true
  | _ :: _, [] => false
  | a :: as, b :: bs => if a = b then lexB lt as bs else lt a b
theorem STO.lex [DecidableEq α] {lt : α → α → Bool} (h : STO lt) : STO (lexB lt) := by
  refine ⟨fun a => ?_, fun a => ?_, fun a => ?_⟩
  · induction a with
    | nil => rfl
    | cons x a ih => rw [lexB, if_pos rfl]; exact ih
  · induction a with
    | nil =>
      intro b c h1 h2
      cases c with
      | nil => cases b with
        | nil => exact h1
        | cons y b => cases h2
      | cons z c => rfl
    | cons x a ih =>
      intro b c h1 h2
      cases b with
      | nil => cases h1
      | cons y b =>
        cases c with
        | nil => cases h2
        | cons z c =>
          rw [lexB] at h1 h2 ⊢
          by_cases xy : x = y
          · subst xy
            rw [if_pos rfl] at h1
            by_cases xz : x = z
            · subst xz
              rw [if_pos rfl] at h2 ⊢
              exact ih b c h1 h2
            · rw [if_neg xz] at h2 ⊢
              exact h2
          · rw [if_neg xy] at h1
            by_cases yz : y = z
            · subst yz
              rw [if_neg xy]
              exact h1
            · rw [if_neg yz] at h2
              have hxz := h.tr x y z h1 h2
              have : ¬ x = z := fun e => by
                subst e
                rw [h.irr] at hxz
                cases hxz
              rw [if_neg this]
              exact hxz
  · induction a with
    | nil =>
      intro b h1 h2
      cases b with
      | nil => rfl
      | cons y b => cases h1
    | cons x a ih =>
      intro b h1 h2
      cases b with
      | nil => cases h2
      | cons y b =>
        rw [lexB] at h1 h2
        by_cases xy : x = y
        · subst xy
          rw [if_pos rfl] at h1 h2
          rw [ih b h1 h2]
        · rw [if_neg xy] at h1
          rw [if_neg (Ne.symm xy)] at h2
          exact absurd (h.tri x y h1 h2) xy
theorem sto_nat : STO (fun a b : Nat => decide (a < b)) :=
  ⟨fun a => by simp, fun a b c h1 h2 => by simp at *; lia, fun a b h1 h2 => by simp at *; lia⟩
theorem sto_int : STO (fun a b : Int => decide (a < b)) :=
  ⟨fun a => by simp, fun a b c h1 h2 => by simp at *; lia, fun a b h1 h2 => by simp at *; lia⟩
theorem lex_nat : ∀ (a b : List Nat), decide (a < b) = lexB (fun x y : Nat => decide (x < y)) a b
  | [], [] => rfl
  | [], _ :: _ => by simp [lexB]
  | _ :: _, [] => by simp [lexB]
  | x :: a, y :: b => by
    rw [lexB, ← lex_nat a b]
    by_cases e : x = y
    · subst e
      rw [if_pos rfl]
      simp
    · rw [if_neg e]
      have : (x :: a < y :: b) ↔ x < y := by
        rw [List.cons_lt_cons_iff]
        constructor
        · rintro (h | h)
          · exact h
          · exact absurd h.1 e
        · exact .inl
      simp [this]
theorem STO.uniq {lt : α → α → Bool} (h : STO lt) : ∀ {a b : List α}, a.Perm b → a.Pairwise (fun x y => lt y x = false) → b.Pairwise (fun x y => lt y x = false) → a = b
  | [], b, p, _, _ => (List.nil_perm.mp p).symm ▸ rfl
  | x :: a, [], p, _, _ => by have := p.length_eq; simp at this
  | x :: a, y :: b, p, pa, pb => by
    obtain ⟨pa1, pa2⟩ := List.pairwise_cons.mp pa
    obtain ⟨pb1, pb2⟩ := List.pairwise_cons.mp pb
    have e : x = y := by
      have hx : x ∈ y :: b := p.mem_iff.mp (List.mem_cons_self ..)
      have hy : y ∈ x :: a := p.mem_iff.mpr (List.mem_cons_self ..)
      rcases List.mem_cons.mp hx with e | hx
      · exact e
      · rcases List.mem_cons.mp hy with e | hy
        · exact e.symm
        · exact h.tri x y (pb1 x hx) (pa1 y hy)
    subst e
    rw [h.uniq (List.Perm.cons_inv p) pa2 pb2]
theorem lexB_at [DecidableEq α] {lt : α → α → Bool} : ∀ (i : Nat) (a b : List α) (c d : α), a.take i = b.take i → a[i]? = some c → b[i]? = some d → c ≠ d → lexB lt a b = lt c d
  | 0, [], _, _, _, _, h, _, _ => by simp at h
  | 0, _ :: _, [], _, _, _, _, h, _ => by simp at h
  | 0, x :: a, y :: b, c, d, _, h1, h2, hn => by
    simp at h1 h2
    subst h1 h2
    rw [lexB, if_neg hn]
  | i + 1, [], _, _, _, _, h, _, _ => by simp at h
  | i + 1, _ :: _, [], _, _, _, _, h, _ => by simp at h
  | i + 1, x :: a, y :: b, c, d, e, h1, h2, hn => by
    rw [List.take_succ_cons, List.take_succ_cons] at e
    obtain ⟨exy, e'⟩ := List.cons.inj e
    subst exy
    rw [lexB, if_pos rfl]
    exact lexB_at i a b c d e' (by simpa using h1) (by simpa using h2) hn
theorem lexB_end [DecidableEq α] {lt : α → α → Bool} : ∀ (a b : List α), a.take (min a.length b.length) = b.take (min a.length b.length) → lexB lt a b = decide (a.length < b.length)
  | [], [], _ => by simp [lexB]
  | [], _ :: _, _ => by simp [lexB]
  | _ :: _, [], _ => by simp [lexB]
  | x :: a, y :: b, e => by
    rw [List.length_cons, List.length_cons, Nat.add_min_add_right, List.take_succ_cons, List.take_succ_cons] at e
    obtain ⟨exy, e'⟩ := List.cons.inj e
    subst exy
    rw [lexB, if_pos rfl, lexB_end a b e', List.length_cons, List.length_cons]
    simp
end
end Tim
namespace L2
open PySem PySem.Spec PyProof.Rows
abbrev Key := Sum Int Str
def keyIs : Key → Value → Bool
  | .inl k, v => Value.isInt k v
  | .inr x, v => Value.isStrOf x v
def keyH (w : World) : Key → Int
  | .inl k => hashInt k
  | .inr x => hashStr w x
theorem keyIs_shape : ∀ {k : Key} {v : Value}, keyIs k v = true → (∃ i t, k = Sum.inl i ∧ v = Value.int i t) ∨ (∃ x t, k = Sum.inr x ∧ v = Value.str x t)
  | .inl i, v, h => by
    obtain ⟨t, e⟩ := Value.isInt_shape (k := i) (v := v) h
    exact .inl ⟨i, t, rfl, e⟩
  | .inr x, v, h => by
    obtain ⟨t, e⟩ := Value.isStrOf_shape (x := x) (v := v) h
    exact .inr ⟨x, t, rfl, e⟩
theorem keyIs_int (i : Int) (t : Tok) : keyIs (.inl i) (.int i t) = true := by simp [keyIs, Value.isInt]
theorem keyIs_str (x : Str) (t : Tok) : keyIs (.inr x) (.str x t) = true := by simp [keyIs, Value.isStrOf]
theorem key_ll (a b : Int) : decide ((Sum.inl a : Key) = Sum.inl b) = (a == b) := by
  by_cases e : a = b
  · subst e; simp
  · have h : ¬ (Sum.inl a : Key) = Sum.inl b := fun q => e (Sum.inl.inj q)
    rw [decide_eq_false h]
    exact (beq_eq_false_iff_ne.mpr e).symm
theorem key_rr (a b : Str) : decide ((Sum.inr a : Key) = Sum.inr b) = decide (a = b) := by
  by_cases e : a = b
  · subst e; simp
  · have h : ¬ (Sum.inr a : Key) = Sum.inr b := fun q => e (Sum.inr.inj q)
    rw [decide_eq_false h, decide_eq_false e]
theorem key_lr (a : Int) (b : Str) : decide ((Sum.inl a : Key) = Sum.inr b) = false := decide_eq_false (fun q => nomatch q)
theorem key_rl (a : Str) (b : Int) : decide ((Sum.inr a : Key) = Sum.inl b) = false := decide_eq_false (fun q => nomatch q)
def mixKind (prog : Program) (w : World) : PySem.KeyKind prog w Key where
  is := keyIs
  hash := keyH w
  inj := fun v a b ha hb => by
    rcases keyIs_shape ha with ⟨i, t, rfl, rfl⟩ | ⟨x, t, rfl, rfl⟩
    · rcases keyIs_shape hb with ⟨j, u, rfl, e⟩ | ⟨y, u, rfl, e⟩
      · injection e with e1 _; rw [e1]
      · exact nomatch e
    · rcases keyIs_shape hb with ⟨j, u, rfl, e⟩ | ⟨y, u, rfl, e⟩
      · exact nomatch e
      · injection e with e1 _; rw [e1]
  byValue := fun k v h => by
    rcases keyIs_shape h with ⟨i, t, rfl, rfl⟩ | ⟨x, t, rfl, rfl⟩ <;> rfl
  pyHash := fun hv h => by
    rcases keyIs_shape hv with ⟨i, t, rfl, rfl⟩ | ⟨x, t, rfl, rfl⟩
    · exact wpAny_pyHash_int h
    · exact wpAny_pyHash_str h
  eqBool := fun hu hv h => by
    rcases keyIs_shape hu with ⟨i, t, rfl, rfl⟩ | ⟨x, t, rfl, rfl⟩
    · rcases keyIs_shape hv with ⟨j, u, rfl, rfl⟩ | ⟨y, u, rfl, rfl⟩
      · rw [key_ll] at h; exact wpAny_eqBool_int h
      · rw [key_lr] at h; exact SeqAt.EqAt.int_str i t y u _ _ _ _ h
    · rcases keyIs_shape hv with ⟨j, u, rfl, rfl⟩ | ⟨y, u, rfl, rfl⟩
      · rw [key_rl] at h; exact SeqAt.EqAt.str_int x t j u _ _ _ _ h
      · rw [key_rr] at h; exact wpAny_eqBool_str h
  «strs» := fun k x t v h => by
    rcases keyIs_shape h with ⟨i, u, rfl, e⟩ | ⟨y, u, rfl, e⟩
    · exact nomatch e
    · injection e with e1 _
      subst e1
      cases v <;> rfl
theorem mixKind_int (prog : Program) (w : World) (i : Int) (t : Tok) : (mixKind prog w).is (.inl i) (.int i t) = true := keyIs_int i t
theorem mixKind_str (prog : Program) (w : World) (x : Str) (t : Tok) : (mixKind prog w).is (.inr x) (.str x t) = true := keyIs_str x t
end L2
namespace L2
open PySem PySem.Spec PyProof.Rows
inductive V where
  | non | bl (b : Bool) | int (i : Int) | str (x : Str) | byt (b : Array UInt8) | flt (b : UInt64) | ref (a : Addr) | ty (n : String)
  deriving DecidableEq
def RelV : V → Value → Prop
  | .non, u => u = Value.none
  | .bl b, u => u = Value.bool b
  | .int i, u => ∃ t, u = Value.int i t
  | .str x, u => ∃ t, u = Value.str x t
  | .byt b, u => ∃ t, u = Value.bytes b t
  | .flt b, u => ∃ t, u = Value.float b t
  | .ref a, u => u = Value.ref a
  | .ty n, u => u = Value.type n
abbrev Vals : List V → List Value → Prop := Paired RelV
theorem Vals.length {xs : List V} {us : List Value} (r : Vals xs us) : xs.length = us.length := Paired.length r
theorem Vals.get : ∀ {xs : List V} {us : List Value} {i : Nat} {x : V}, Vals xs us → xs[i]? = some x → ∃ u, us[i]? = some u ∧ RelV x u
  | _, _, _, _, .nil, e => by simp at e
  | _, _, 0, _, .cons r _, e => by simp at e; subst e; exact ⟨_, rfl, r⟩
  | _, _, i + 1, x, .cons _ t, e => by
    obtain ⟨u, h1, h2⟩ := Vals.get (i := i) (x := x) t (by simpa using e)
    exact ⟨u, by simpa using h1, h2⟩
theorem Vals.append : ∀ {xs ys : List V} {us ws : List Value}, Vals xs us → Vals ys ws → Vals (xs ++ ys) (us ++ ws)
  | _, _, _, _, .nil, s => s
  | _, _, _, _, .cons r t, s => .cons r (Vals.append t s)
theorem Vals.take : ∀ {xs : List V} {us : List Value} (n : Nat), Vals xs us → Vals (xs.take n) (us.take n)
  | _, _, 0, _ => .nil
  | _, _, _ + 1, .nil => .nil
  | _, _, n + 1, .cons r t => .cons r (Vals.take n t)
theorem Vals.drop : ∀ {xs : List V} {us : List Value} (n : Nat), Vals xs us → Vals (xs.drop n) (us.drop n)
  | _, _, 0, r => r
  | _, _, _ + 1, .nil => .nil
  | _, _, n + 1, .cons _ t => Vals.drop n t
def RelO : Option V → Option Value → Prop
  | some v, some u => RelV v u
  | none, none => True
  | _, _ => False
def KV {κ : Type} : List (κ × V) → List (κ × Value) → Prop := Paired fun (p : κ × V) (q : κ × Value) => p.1 = q.1 ∧ RelV p.2 q.2
def kV : Key → V
  | .inl i => .int i
  | .inr x => .str x
inductive HO where
  /-- a list -/
  | lst (xs : List V)
  /-- a tuple (never changes) -/
  | tup (xs : List V)
  /-- a dict whose keys are ints and texts; one whose keys are tuples of ints and texts (the empty one is both) -/
  | dK (kvs : List (Key × V)) | dT (kvs : List (List Key × V))
  /-- a set of ints: its members, its size -/
  | set (S : Int → Bool) (n : Nat)
  /-- an instance of the class at C, its dict at dx, its attributes -/
  | ins (C dx : Addr) (fs : List (Str × V))
  /-- the dict of the instance at x -/
  | own (x : Addr)
  /-- the dict of an exception -/
  | xd (fs : List (Str × V))
  /-- a bound method, f of x -/
  | met (f x : Addr)
  /-- a range object lo, lo + 1, .. below hi -/
  | rng (lo hi : Int)
  /-- a thing that is known to the object (the script; a dict while a loop walks it): read, never written while it is so -/
  | frz (o : Obj) (u : HO)
  /-- a code object's table -/
  | tbl (ps : Array Value)
  /-- any other thing, by what is true of its one object (a def of one's own: SetO a S n := HO.ext fun h => ..) -/
  | ext (φ : Heap → Prop)
abbrev Hp := Addr → Option HO
def upd (H : Hp) (a : Addr) (o : HO) : Hp := fun b => if b = a then some o else H b
theorem upd_same {H : Hp} {a : Addr} {o : HO} : upd H a o a = some o := by unfold upd; rw [if_pos rfl]
theorem upd_ne {H : Hp} {a b : Addr} {o : HO} (h : b ≠ a) : upd H a o b = H b := by unfold upd; rw [if_neg h]
theorem upd_upd {H : Hp} {a : Addr} {o u : HO} : upd (upd H a o) a u = upd H a u := by
  funext b; unfold upd; split <;> rfl
theorem ne_of_none {H : Hp} {a b : Addr} {o : HO} (h : H a = some o) (h' : H b = none) : a ≠ b := by
  intro e; subst e; rw [h] at h'; cases h'
section
variable (P : Program) (w : World)
def ObjOk (H : Hp) (h : Heap) (a : Addr) : HO → Prop
  | .lst xs => xs.length ≤ sizeLine ∧ ∃ (its : List Value) (n : Nat), Vals xs its ∧ h.get? a = some { cls := .type "list", data := .seq its.toArray n }
  | .tup xs => xs.length ≤ sizeLine ∧ ∃ its : List Value, Vals xs its ∧ IsTup h a its.toArray
  | .dK kvs => kvs.length ≤ sizeLine ∧ (a == sysModules) = false ∧ ∃ vs, KV kvs vs ∧ h.DictOf (mixKind P w) a vs
  | .dT kvs => kvs.length ≤ sizeLine ∧ (a == sysModules) = false ∧ ∃ xs : List (List Key × Addr × Value),
      Paired (fun (p : List Key × V) (q : List Key × Addr × Value) => p.1 = q.1 ∧ H q.2.1 = some (.tup (p.1.map kV)) ∧ RelV p.2 q.2.2) kvs xs ∧
      ∃ o es ep, h.get? a = some o ∧ o.ExactDict ∧ o.data = .dict es ep ∧ es.toList = xs.map (entryOfKey (tupleKind (mixKind P w))) ∧ (xs.map (·.1)).Nodup
  | .set S n => h.SetOf (intKind P w) a S n
  | .ins C dx fs => H dx = some (.own a) ∧ fs.length ≤ 1000 ∧ dx ≠ a ∧ h.get? a = some (PySem.W.instObj C dx) ∧
      ∃ mA, h.Ns1 dx mA ∧ (∀ f, RelO (fs.lookup f) (mA f)) ∧ PySem.Within mA (fs.map (·.1))
  | .own _ => ∃ o, h.get? a = some o
  | .xd fs => ∃ mA, h.Ns1 a mA ∧ ∀ f, RelO (fs.lookup f) (mA f)
  | .rng lo hi => ∃ t u v, h.get? a = some { cls := .type "range", data := .fields #[.int lo t, .int hi u, .int 1 v] }
  | .frz o u => h.get? a = some o ∧ ObjOk H h a u
  | .tbl ps => h.get? a = some { cls := .none, data := .fields ps }
  | .met f x => h.get? a = some (PySem.W.methodObj (.ref f) (.ref x))
  | .ext φ => φ h ∧ (∃ o, h.get? a = some o) ∧ ∀ h1 h2 : Heap, φ h1 → (∀ o, h1.get? a = some o → h2.get? a = some o) → φ h2
def HOk (H : Hp) (h : Heap) : Prop := ∀ a o, H a = some o → ObjOk P w H h a o
end
section
variable {P : Program} {w : World} {H H' : Hp} {h h' : Heap} {a : Addr} {o : HO}
theorem ObjOk.lt (x : ObjOk P w H h a o) : a < h.objs.size := by
  cases o with
  | lst xs => obtain ⟨_, _, _, _, e⟩ := x; exact Heap.lt_size e
  | tup xs => obtain ⟨_, _, _, p⟩ := x; exact p.lt
  | dK kvs => obtain ⟨_, _, _, _, o, _, _, e, _⟩ := x; exact Heap.lt_size e
  | dT kvs => obtain ⟨_, _, _, _, o, _, _, e, _⟩ := x; exact Heap.lt_size e
  | set S n => obtain ⟨o, _, _, _, e, _⟩ := x; exact Heap.lt_size e
  | ins C dx fs => obtain ⟨_, _, _, e, _⟩ := x; exact Heap.lt_size e
  | own y => obtain ⟨_, e⟩ := x; exact Heap.lt_size e
  | xd fs => obtain ⟨_, ⟨_, _, _, e, _⟩, _⟩ := x; exact Heap.lt_size e
  | rng lo hi => obtain ⟨_, _, _, e⟩ := x; exact Heap.lt_size e
  | frz ob u => obtain ⟨e, _⟩ := x; exact Heap.lt_size e
  | tbl ps => exact Heap.lt_size (show h.get? a = some _ from x)
  | met f y => exact Heap.lt_size (show h.get? a = some _ from x)
  | ext φ => obtain ⟨_, ⟨_, e⟩, _⟩ := x; exact Heap.lt_size e
theorem Paired.mapP {α β : Type} {F G : α → β → Prop} : ∀ {l₁ : List α} {l₂ : List β}, Paired F l₁ l₂ → (∀ a b, F a b → G a b) → Paired G l₁ l₂
  | _, _, .nil, _ => .nil
  | _, _, .cons r t, f => .cons (f _ _ r) (Paired.mapP t f)
theorem ObjOk.stay (x : ObjOk P w H h a o) (k : ∀ b u, (b = a ∨ H b = some (.own a)) → h.get? b = some u → h'.get? b = some u)
    (ho : ∀ b, H b = some (.own a) → H' b = some (.own a)) (ht : ∀ b xs, H b = some (.tup xs) → H' b = some (.tup xs)) : ObjOk P w H' h' a o := by
  induction o with
  | lst xs => obtain ⟨z, its, n, r, e⟩ := x; exact ⟨z, its, n, r, k _ _ (.inl rfl) e⟩
  | tup xs => obtain ⟨z, its, r, ob, e, c⟩ := x; exact ⟨z, its, r, ob, k _ _ (.inl rfl) e, c⟩
  | dK kvs => obtain ⟨z, y, vs, r, ob, es, ep, e, c⟩ := x; exact ⟨z, y, vs, r, ob, es, ep, k _ _ (.inl rfl) e, c⟩
  | dT kvs =>
    obtain ⟨z, y, xs, r, ob, es, ep, e, c⟩ := x
    exact ⟨z, y, xs, Paired.mapP r fun p q z => ⟨z.1, ht _ _ z.2.1, z.2.2⟩, ob, es, ep, k _ _ (.inl rfl) e, c⟩
  | set S n => obtain ⟨ob, es, ep, t, e, c⟩ := x; exact ⟨ob, es, ep, t, k _ _ (.inl rfl) e, c⟩
  | ins C dx fs =>
    obtain ⟨d, z, ne, e, mA, ⟨od, es, ep, e2, c⟩, r⟩ := x
    exact ⟨ho _ d, z, ne, k _ _ (.inl rfl) e, mA, ⟨od, es, ep, k _ _ (.inr d) e2, c⟩, r⟩
  | own y => obtain ⟨ob, e⟩ := x; exact ⟨ob, k _ _ (.inl rfl) e⟩
  | xd fs => obtain ⟨mA, ⟨od, es, ep, e, c⟩, r⟩ := x; exact ⟨mA, ⟨od, es, ep, k _ _ (.inl rfl) e, c⟩, r⟩
  | rng lo hi => obtain ⟨t, u, v, e⟩ := x; exact ⟨t, u, v, k _ _ (.inl rfl) e⟩
  | frz ob u ih => obtain ⟨e, q⟩ := x; exact ⟨k _ _ (.inl rfl) e, ih q⟩
  | tbl ps =>
    have e : h.get? a = some { cls := .none, data := .fields ps } := x
    show h'.get? a = some { cls := .none, data := .fields ps }
    exact k a _ (.inl rfl) e
  | met f y =>
    have e : h.get? a = some (PySem.W.methodObj (.ref f) (.ref y)) := x
    show h'.get? a = some (PySem.W.methodObj (.ref f) (.ref y))
    exact k a _ (.inl rfl) e
  | ext φ => obtain ⟨p, ⟨o, e⟩, st⟩ := x; exact ⟨st _ _ p fun o q => k _ _ (.inl rfl) q, ⟨o, k _ _ (.inl rfl) e⟩, st⟩
theorem HOk.lt (x : HOk P w H h) (e : H a = some o) : a < h.objs.size := (x a o e).lt
theorem HOk.fresh (x : HOk P w H h) (e : h.objs.size ≤ a) : H a = none := by
  cases q : H a with
  | none => rfl
  | some u => exact absurd (Nat.lt_of_lt_of_le (x.lt q) e) (Nat.lt_irrefl _)
theorem HOk.kept (x : HOk P w H h) (k : ∀ b u, h.get? b = some u → h'.get? b = some u) : HOk P w H h' := fun a o e =>
  (x a o e).stay (fun b u _ q => k b u q) (fun _ q => q) fun _ _ q => q
theorem HOk.laid (x : HOk P w H h) (k : ∀ b u, h.get? b = some u → h'.get? b = some u) (hp : h.objs.size ≤ a) (new : ObjOk P w (upd H a o) h' a o) : HOk P w (upd H a o) h' := fun b u e => by
  have hn := x.fresh hp
  by_cases hb : b = a
  · subst hb; rw [upd_same] at e; cases e; exact new
  · rw [upd_ne hb] at e
    exact (x b u e).stay (fun c v _ q => k c v q) (fun c q => by rw [upd_ne (ne_of_none q hn)]; exact q) fun c xs q => by rw [upd_ne (ne_of_none q hn)]; exact q
end
def Rd (H : Hp) (a : Addr) (u : HO) : Prop := H a = some u ∨ ∃ o, H a = some (.frz o u)
theorem Rd.ok {P : Program} {w : World} {H : Hp} {h : Heap} {a : Addr} {u : HO} (r : Rd H a u) (x : HOk P w H h) : ObjOk P w H h a u := by
  rcases r with r | ⟨o, r⟩
  · exact x a u r
  · obtain ⟨_, q⟩ := x a _ r
    exact q
def Mut : Option HO → Prop
  | some (.lst _) => True
  | some (.dK _) => True
  | some (.dT _) => True
  | some (.set _ _) => True
  | some (.ins _ _ _) => True
  | some (.ext _) => True
  | _ => False
section
variable {P : Program} {w : World} {H : Hp} {h h' : Heap} {x e : Addr} {o' : HO}
theorem HOk.write (ok : HOk P w H h) (mu : Mut (H x)) (he : e = x ∨ H e = some (.own x)) (k : ∀ b u, b ≠ e → h.get? b = some u → h'.get? b = some u) (heo : ∃ u, h'.get? e = some u)
    (new : ObjOk P w (upd H x o') h' x o') : HOk P w (upd H x o') h' := fun b u q => by
  have nown : ∀ c y, H c = some (.own y) → c ≠ x := fun c y r z => by subst z; rw [r] at mu; exact mu
  have ntup : ∀ c xs, H c = some (.tup xs) → c ≠ x := fun c xs r z => by subst z; rw [r] at mu; exact mu
  by_cases hb : b = x
  · subst hb; rw [upd_same] at q; cases q; exact new
  · rw [upd_ne hb] at q
    by_cases hbe : b = e
    · have q' : H b = some (.own x) := by
        rcases he with z | z
        · exact absurd (hbe.trans z) hb
        · rw [hbe]; exact z
      rw [q] at q'; cases q'
      obtain ⟨v, hv⟩ := heo
      exact ⟨v, by rw [hbe]; exact hv⟩
    · refine (ok b u q).stay (fun c v hc r => k c v ?_ r) (fun c r => by rw [upd_ne (nown c b r)]; exact r) fun c xs r => by rw [upd_ne (ntup c xs r)]; exact r
      rcases hc with rfl | hc
      · exact hbe
      · rintro rfl
        rcases he with z | z
        · exact nown c b hc z
        · rw [hc] at z; cases z; exact hb rfl
end
structure Un (fs ex : List Addr) (H H' : Hp) (h h' : Heap) : Prop where
  keep : ∀ b o, h.get? b = some o → H b = none → b ∉ fs → b ∉ ex → h'.get? b = some o
  slot : ∀ b o, h.get? b = some o → H b = none → b ∈ fs → b ∉ ex → ∃ sl, h'.get? b = some { o with slots := sl }
  free : ∀ b o, h.get? b = some o → H b = none → b ∉ ex → H' b = none
  there : ∀ b o, h.get? b = some o → b ∉ ex → ∃ o', h'.get? b = some o'
  tups : ∀ b xs, H b = some (.tup xs) → H' b = some (.tup xs)
  frzs : ∀ b o u, H b = some (.frz o u) → H' b = some (.frz o u)
  tbls : ∀ b ps, H b = some (.tbl ps) → ∃ more, H' b = some (.tbl (ps ++ more))
section
variable {fs fs' ex ex' : List Addr} {H H1 H2 : Hp} {h h1 h2 h' : Heap} {a x e : Addr} {o : HO}
theorem Un.any (u : Un fs ex H H1 h h1) {b : Addr} {ob : Obj} (q : h.get? b = some ob) (n : H b = none) (hx : b ∉ ex) : ∃ sl, h1.get? b = some { ob with slots := sl } := by
  by_cases hb : b ∈ fs
  · exact u.slot b ob q n hb hx
  · exact ⟨ob.slots, u.keep b ob q n hb hx⟩
theorem Un.kept (k : ∀ b u, h.get? b = some u → h'.get? b = some u) : Un fs ex H H h h' :=
  ⟨fun b ob q _ _ _ => k b ob q, fun b ob q _ _ _ => ⟨ob.slots, k b ob q⟩, fun _ _ _ n _ => n, fun b ob q _ => ⟨ob, k b ob q⟩, fun _ _ q => q, fun _ _ _ q => q, fun _ ps q => ⟨#[], by rw [q]; simp⟩⟩
theorem Un.refl : Un fs ex H H h h := Un.kept fun _ _ q => q
theorem Un.laid (k : ∀ b u, h.get? b = some u → h'.get? b = some u) (hp : h.objs.size ≤ a) (hn : H a = none) : Un fs ex H (upd H a o) h h' where
  keep := fun b u q _ _ _ => k b u q
  slot := fun b u q _ _ _ => ⟨u.slots, k b u q⟩
  free := fun b u q n _ => by rw [upd_ne (Nat.ne_of_lt (Nat.lt_of_lt_of_le (Heap.lt_size q) hp))]; exact n
  there := fun b u q _ => ⟨u, k b u q⟩
  tups := fun b xs q => by rw [upd_ne (ne_of_none q hn)]; exact q
  frzs := fun b u xs q => by rw [upd_ne (ne_of_none q hn)]; exact q
  tbls := fun b ps q => ⟨#[], by rw [upd_ne (ne_of_none q hn), q]; simp⟩
theorem Un.write (mu : Mut (H x)) (he : e = x ∨ H e = some (.own x)) (k : ∀ b u, b ≠ e → h.get? b = some u → h'.get? b = some u) (heo : ∃ u, h'.get? e = some u) : Un fs ex H (upd H x o) h h' := by
  have hx : ∀ b, H b = none → b ≠ x := fun b n z => by subst z; rw [n] at mu; exact mu
  have hb : ∀ b, H b = none → b ≠ e := fun b n z => by
    subst z
    rcases he with r | r
    · exact hx b n r
    · rw [n] at r; cases r
  have hm : ∀ b u, H b = some u → ¬ Mut (some u) → b ≠ x := fun b u q nm z => by subst z; rw [q] at mu; exact nm mu
  refine ⟨fun b u q n _ _ => k b u (hb b n) q, fun b u q n _ _ => ⟨u.slots, k b u (hb b n) q⟩, fun b u q n _ => by rw [upd_ne (hx b n)]; exact n, fun b u q _ => ?_,
    fun b xs q => by rw [upd_ne (hm b _ q fun z => z)]; exact q, fun b u xs q => by rw [upd_ne (hm b _ q fun z => z)]; exact q, fun b ps q => ⟨#[], by rw [upd_ne (hm b _ q fun z => z), q]; simp⟩⟩
  by_cases hbe : b = e
  · subst hbe; exact heo
  · exact ⟨u, k b u hbe q⟩
end
def trk (h : Heap) (H : Hp) : List Addr := (List.range h.objs.size).filter fun a => (H a).isSome
def hidT (h : Heap) (H : Hp) : Heap := PySem.W.hideAll h (trk h H)
theorem hidT_size (h : Heap) (H : Hp) : (hidT h H).objs.size = h.objs.size := PySem.W.hideAll_size _ _
theorem hidT_get {h : Heap} {H : Hp} {b : Addr} {o : Obj} (e : h.get? b = some o) (n : H b = none) : (hidT h H).get? b = some o :=
  PySem.W.hideAll_get _ e fun hm => by
    have q : (H b).isSome = true := (List.mem_filter.mp hm).2
    rw [n] at q; simp at q
theorem of_hidT {h : Heap} {H : Hp} {b : Addr} {o : Obj} (e : (hidT h H).get? b = some o) : h.get? b = some o ∧ H b = none := by
  have e' : h.get? b = some o := PySem.W.of_hideAll (trk h H) e
  refine ⟨e', ?_⟩
  cases q : H b with
  | none => rfl
  | some x =>
    have hm : b ∈ trk h H := List.mem_filter.mpr ⟨List.mem_range.mpr (Heap.lt_size e'), by simp [q]⟩
    have z : (hidT h H).get? b = none := PySem.W.hideAll_none (trk h H) hm
    rw [z] at e; cases e
end L2
namespace L2
open PySem PySem.Spec PyProof.Rows
structure Mod (K : PySem.W.Frag) (mg : Str → Option Value) (base : Heap) : Prop where
  kin : K.In base
  glob : base.Ns mainGlobals mg
  blt : ∃ mb, base.Ns builtinsNs mb ∧ ∀ x : Str, x ≠ "__name__" → mb x = bootBuiltins x
  nolimit : base.NoLimit
structure Cx where
  prog : Program
  w : World
  K : PySem.W.Frag
  mg : Str → Option Value
  base : Heap
  A : Around
  N : List Str
  s₀ : Shared
  H₀ : Hp
  env : Env
  outer : List Env
  stack : List Env
  ex : List Addr
  fn : Str → Bool
  calm : Bool
  pn : List (Addr × Obj)
  xe : Value → Shared → Prop
def frs (l : List Env) : List Addr := l.filterMap (·.frame)
abbrev Cx.fs (X : Cx) : List Addr := frs X.outer
def Vis (sc : Scope) (x : Str) : Prop := sc.names.lookup x = some .local ∨ sc.names.lookup x = some .cell ∨ sc.names.lookup x = some .free
def Loc (sc : Scope) (x : Str) : Prop := sc.names.lookup x = some .local ∨ sc.names.lookup x = some .cell
def Look (env : Env) (h : Heap) (m : Str → Option Value) (x : Str) (u : Value) : Prop :=
  (env.kindOf x = some .local ∧ m x = some u) ∨ ((env.kindOf x = some .cell ∨ env.kindOf x = some .free) ∧ ∃ c, env.cells.lookup x = some c ∧ h.IsCell c (some u))
structure Cx.Ok (X : Cx) : Prop where
  mod : Mod X.K X.mg X.base
  kind : X.env.scope.kind = .function
  glob : X.env.globals = mainGlobals
  blt : X.env.builtins = builtinsNs
  above : X.s₀.heap.objs.size ≤ X.env.locals
  inj : ∀ x y c, X.env.cells.lookup x = some c → X.env.cells.lookup y = some c → x = y
  has : ∀ x, (X.env.kindOf x = some .cell ∨ X.env.kindOf x = some .free) → ∃ c, X.env.cells.lookup x = some c
  cab : ∀ x c, X.fn x = true → X.env.cells.lookup x = some c → X.s₀.heap.objs.size ≤ c
  hd : X.calm = true → X.A.handled = none
  frames : X.A.frames = some X.stack
  stk : X.stack = X.outer ∨ (X.stack = X.env :: X.outer ∧ X.env.frame = some X.env.locals)
  exf : ∀ b ∈ X.ex, b ≠ X.env.locals ∧ ∀ x c, X.env.cells.lookup x = some c → c ≠ b
  bs : ∀ b o, X.base.get? b = some o → X.s₀.heap.get? b = some o ∧ X.H₀ b = none
  bsz : X.base.objs.size ≤ X.s₀.heap.objs.size
  noex : ∀ b o, X.base.get? b = some o → b ∉ X.ex
  exfs : ∀ b ∈ X.ex, b ∉ X.fs
  funs : X.s₀.heap.FunFrames X.base X.outer
  frf : ∀ b ∈ X.fs, X.H₀ b = none
structure Inv (X : Cx) (pins : List (Addr × Obj)) (σ : List (Option V)) (H : Hp) (s : Shared) : Prop where
  ok : X.Ok
  os : s.os = X.s₀.os
  bare : AllBare s.gens
  base : Un X.fs X.ex X.H₀ H X.s₀.heap s.heap
  loc : ∃ m, s.heap.Ns X.env.locals m ∧ ∀ (i : Nat) (x : Str) (v : V), X.N[i]? = some x → σ[i]? = some (some v) → Vis X.env.scope x → ∃ u, RelV v u ∧ Look X.env s.heap m x u
  cell : ∀ x c, X.env.cells.lookup x = some c → ∃ v, s.heap.IsCell c v
  free : H X.env.locals = none
  freeC : ∀ x c, X.env.cells.lookup x = some c → H c = none
  pin : ∀ p ∈ X.pn ++ pins, s.heap.get? p.1 = some p.2 ∧ H p.1 = none ∧ p.1 ≠ X.env.locals ∧ p.1 ∉ X.fs ∧ ∀ v, p.2.data ≠ .cell v
  hok : HOk X.prog X.w H s.heap
  len : σ.length = X.N.length
section
variable {X : Cx} {pins : List (Addr × Obj)} {σ : List (Option V)} {H H' : Hp} {s : Shared} {h' : Heap}
theorem Cx.Ok.nofr (ok : X.Ok) {b : Addr} {o : Obj} (e : X.base.get? b = some o) : b ∉ X.fs := fun hb => by
  have := (ok.funs.mem hb).1
  rw [e] at this; cases this
theorem Inv.bs (I : Inv X pins σ H s) : ∀ b o, X.base.get? b = some o → s.heap.get? b = some o ∧ H b = none := fun b o e =>
  ⟨I.base.keep b o (I.ok.bs b o e).1 (I.ok.bs b o e).2 (I.ok.nofr e) (I.ok.noex b o e), I.base.free b o (I.ok.bs b o e).1 (I.ok.bs b o e).2 (I.ok.noex b o e)⟩
theorem Inv.bk (I : Inv X pins σ H s) : ∀ b o, X.base.get? b = some o → s.heap.get? b = some o := fun b o e => (I.bs b o e).1
theorem Inv.mod (I : Inv X pins σ H s) : Mod X.K X.mg X.base := I.ok.mod
theorem Inv.kIn (I : Inv X pins σ H s) : X.K.In s.heap := I.ok.mod.kin.keeps I.bk
theorem Inv.lt (I : Inv X pins σ H s) : X.env.locals < s.heap.objs.size := let ⟨_, hn, _⟩ := I.loc; hn.lt
theorem Inv.sz (I : Inv X pins σ H s) : X.s₀.heap.objs.size ≤ s.heap.objs.size := Nat.le_trans I.ok.above (Nat.le_of_lt I.lt)
theorem Inv.nofs (I : Inv X pins σ H s) {a : Addr} (h : s.heap.objs.size ≤ a) : a ∉ X.fs := fun hb => by
  obtain ⟨_, o, ho, _⟩ := I.ok.funs.mem hb
  exact absurd (Nat.lt_of_lt_of_le (Heap.lt_size ho) (Nat.le_trans I.sz h)) (Nat.lt_irrefl _)
theorem Inv.cne (I : Inv X pins σ H s) : ∀ x c, X.env.cells.lookup x = some c → c ≠ X.env.locals := fun x c e z => by
  obtain ⟨v, o, ho, hd⟩ := I.cell x c e
  obtain ⟨m, ⟨o', es, ep, ho', hd', _⟩, _⟩ := I.loc
  rw [z, ho'] at ho; cases ho; rw [hd'] at hd; cases hd
theorem Inv.funs (I : Inv X pins σ H s) : s.heap.FunFrames X.base X.outer := by
  have all : ∀ (l : List Env), (∀ b ∈ frs l, b ∈ X.fs) → X.s₀.heap.FunFrames X.base l → s.heap.FunFrames X.base l := by
    intro l
    induction l with
    | nil => intro _ _; trivial
    | cons env r ih =>
      intro hs hl
      obtain ⟨hk, ⟨L, o, hf, hn, ho, hd⟩, hr⟩ := hl
      have hL : L ∈ X.fs := hs L (by unfold frs; rw [List.filterMap_cons, hf]; exact List.mem_cons_self)
      obtain ⟨sl, e⟩ := I.base.slot L o ho (I.ok.frf L hL) hL fun z => I.ok.exfs L z hL
      exact ⟨hk, ⟨L, _, hf, hn, e, hd⟩, ih (fun b hb => hs b (by unfold frs; rw [List.filterMap_cons, hf]; exact List.mem_cons_of_mem _ hb)) hr⟩
  exact all X.outer (fun _ hb => hb) I.ok.funs
theorem Inv.stack (I : Inv X pins σ H s) : s.heap.FunFrames X.base X.stack := by
  rcases I.ok.stk with e | ⟨e, hf⟩
  · rw [e]; exact I.funs
  · rw [e]
    obtain ⟨m, hn, _⟩ := I.loc
    refine .cons (by rw [I.ok.kind]; decide) hf hn ?_ I.funs
    exact Heap.get?_none_of_le (Nat.le_trans I.ok.bsz I.ok.above)
theorem Inv.stkSub (I : Inv X pins σ H s) : ∀ b ∈ frs X.stack, b ∈ X.env.locals :: X.fs := fun b hb => by
  rcases I.ok.stk with e | ⟨e, hf⟩
  · rw [e] at hb; exact List.mem_cons_of_mem _ hb
  · rw [e] at hb
    unfold frs at hb
    rw [List.filterMap_cons, hf] at hb
    exact hb
theorem Inv.stkFree (I : Inv X pins σ H s) : ∀ b ∈ frs X.stack, H b = none := fun b hb => by
  rcases List.mem_cons.mp (I.stkSub b hb) with e | hb
  · rw [e]; exact I.free
  · obtain ⟨_, o, ho, _⟩ := I.ok.funs.mem hb
    exact I.base.free b o ho (I.ok.frf b hb) fun z => I.ok.exfs b z hb
theorem Inv.step {g' : Array GenState} {t' : Nat} {d' : Drawn} {ch : List Addr} (I : Inv X pins σ H s)
    (hch : ∀ b ∈ ch, (b ∈ X.ex ∨ X.s₀.heap.objs.size ≤ b) ∧ b ≠ X.env.locals ∧ (∀ x c, X.env.cells.lookup x = some c → c ≠ b) ∧ ∀ p ∈ X.pn ++ pins, p.1 ≠ b)
    (keep : ∀ b o, b ≠ X.env.locals → b ∉ X.fs → b ∉ ch → s.heap.get? b = some o → H b = none → h'.get? b = some o)
    (slot : ∀ b o, b ≠ X.env.locals → b ∈ X.fs → b ∉ ch → s.heap.get? b = some o → H b = none → ∃ sl, h'.get? b = some { o with slots := sl }) (free : ∀ b o, b ∉ ch → s.heap.get? b = some o → H b = none → H' b = none)
    (there : ∀ b o, b ∉ ch → s.heap.get? b = some o → ∃ o', h'.get? b = some o')
    (tups : ∀ b xs, H b = some (.tup xs) → H' b = some (.tup xs)) (frzs : ∀ b o u, H b = some (.frz o u) → H' b = some (.frz o u)) (tbls : ∀ b ps, H b = some (.tbl ps) → ∃ more, H' b = some (.tbl (ps ++ more)))
    (ns : ∀ m, s.heap.Ns X.env.locals m → h'.Ns X.env.locals m) (hok : HOk X.prog X.w H' h') (hg : AllBare g') :
    Inv X pins σ H' { s with heap := h', gens := g', drawn := d', toks := t' } := by
  have neL : ∀ b o, X.s₀.heap.get? b = some o → b ≠ X.env.locals := fun b o e => Nat.ne_of_lt (Nat.lt_of_lt_of_le (Heap.lt_size e) I.ok.above)
  have neC : ∀ b o, X.s₀.heap.get? b = some o → b ∉ X.ex → b ∉ ch := fun b o e hx hb => by
    rcases (hch b hb).1 with z | z
    · exact hx z
    · exact absurd (Nat.lt_of_lt_of_le (Heap.lt_size e) z) (Nat.lt_irrefl _)
  have cellK : ∀ x c, X.env.cells.lookup x = some c → ∀ v, s.heap.IsCell c v → h'.IsCell c v := fun x c e v ⟨o, ho, hd⟩ => by
    have nch : c ∉ ch := fun z => (hch c z).2.2.1 x c e rfl
    by_cases hc : c ∈ X.fs
    · obtain ⟨sl, q⟩ := slot c o (I.cne x c e) hc nch ho (I.freeC x c e)
      exact ⟨_, q, hd⟩
    · exact ⟨o, keep c o (I.cne x c e) hc nch ho (I.freeC x c e), hd⟩
  refine ⟨I.ok, I.os, hg, ⟨fun b o e n hb hx => ?_, fun b o e n hb hx => ?_, fun b o e n hx => ?_, fun b o e hx => ?_, fun b xs e => tups b xs (I.base.tups b xs e), fun b o xs e => frzs b o xs (I.base.frzs b o xs e), fun b ps e => ?_⟩, ?_, fun x c e => ?_, ?_, fun x c e => ?_, fun p hp => ?_, hok, I.len⟩
  · exact keep b o (neL b o e) hb (neC b o e hx) (I.base.keep b o e n hb hx) (I.base.free b o e n hx)
  · obtain ⟨sl, e1⟩ := I.base.slot b o e n hb hx
    obtain ⟨sl', e2⟩ := slot b _ (neL b o e) hb (neC b o e hx) e1 (I.base.free b o e n hx)
    exact ⟨sl', e2⟩
  · obtain ⟨o', e1⟩ := I.base.there b o e hx
    exact free b o' (neC b o e hx) e1 (I.base.free b o e n hx)
  · obtain ⟨o', e1⟩ := I.base.there b o e hx
    exact there b o' (neC b o e hx) e1
  · obtain ⟨m1, e1⟩ := I.base.tbls b ps e
    obtain ⟨m2, e2⟩ := tbls b _ e1
    exact ⟨m1 ++ m2, by rw [e2, Array.append_assoc]⟩
  · obtain ⟨m, hn, hl⟩ := I.loc
    refine ⟨m, ns m hn, fun i x v e1 e2 e3 => ?_⟩
    obtain ⟨u, r, l⟩ := hl i x v e1 e2 e3
    refine ⟨u, r, ?_⟩
    rcases l with l | ⟨k, c, e, z⟩
    · exact .inl l
    · exact .inr ⟨k, c, e, cellK x c e _ z⟩
  · obtain ⟨v, z⟩ := I.cell x c e
    exact ⟨v, cellK x c e v z⟩
  · obtain ⟨m, ⟨o, _, _, ho, _⟩, _⟩ := I.loc
    exact free _ o (fun z => (hch _ z).2.1 rfl) ho I.free
  · obtain ⟨v, o, ho, hd⟩ := I.cell x c e
    exact free c o (fun z => (hch c z).2.2.1 x c e rfl) ho (I.freeC x c e)
  · obtain ⟨e, n, ne, nf, d⟩ := I.pin p hp
    have nch : p.1 ∉ ch := fun z => (hch p.1 z).2.2.2 p hp rfl
    exact ⟨keep p.1 p.2 ne nf nch e n, free p.1 p.2 nch e n, ne, nf, d⟩
theorem Inv.un {t' : Nat} (I : Inv X pins σ H s) (u : Un X.fs [] H H' s.heap h') (hok : HOk X.prog X.w H' h') : Inv X pins σ H' { s with heap := h', toks := t' } := by
  obtain ⟨m, ⟨o, es, ep, ho, r⟩, _⟩ := id I.loc
  obtain ⟨sl, hL⟩ := u.any ho I.free (by simp)
  exact I.step (g' := s.gens) (d' := s.drawn) (ch := []) (fun _ z => nomatch z) (fun b o _ hb _ e n => u.keep b o e n hb (by simp)) (fun b o _ hb _ e n => u.slot b o e n hb (by simp)) (fun b o _ e n => u.free b o e n (by simp)) (fun b o _ e => u.there b o e (by simp)) u.tups u.frzs u.tbls (fun m' hm => by
    obtain ⟨o', es', ep', ho', r'⟩ := hm
    rw [ho] at ho'; cases ho'
    exact ⟨_, es', ep', hL, r'⟩) hok I.bare
theorem Inv.call {g' : Array GenState} {t' : Nat} {d' : Drawn} {ch : List Addr} (I : Inv X pins σ H s) (u : Un (frs X.stack) ch H H' s.heap h') (hok : HOk X.prog X.w H' h') (hg : AllBare g')
    (hch : ∀ b ∈ ch, (b ∈ X.ex ∨ X.s₀.heap.objs.size ≤ b) ∧ b ≠ X.env.locals ∧ (∀ x c, X.env.cells.lookup x = some c → c ≠ b) ∧ ∀ p ∈ X.pn ++ pins, p.1 ≠ b) :
    Inv X pins σ H' { s with heap := h', gens := g', drawn := d', toks := t' } := by
  obtain ⟨m, ⟨o, es, ep, ho, r⟩, _⟩ := id I.loc
  obtain ⟨sl, hL⟩ := u.any ho I.free fun z => (hch _ z).2.1 rfl
  exact I.step (ch := ch) hch (fun b o hL hb hc e n => u.keep b o e n (fun z => (List.mem_cons.mp (I.stkSub b z)).elim hL hb) hc) (fun b o _ _ hc e n => u.any e n hc) (fun b o hc e n => u.free b o e n hc) (fun b o hc e => u.there b o e hc) u.tups u.frzs u.tbls (fun m' hm => by
    obtain ⟨o', es', ep', ho', r'⟩ := hm
    rw [ho] at ho'; cases ho'
    exact ⟨_, es', ep', hL, r'⟩) hok hg
theorem Inv.turned {t' : Nat} {it : Addr} (I : Inv X pins σ H s) (k : ∀ b o, b ≠ it → s.heap.get? b = some o → h'.get? b = some o) (hn : H it = none) (hL : it ≠ X.env.locals)
    (h1 : it ∈ X.ex ∨ X.s₀.heap.objs.size ≤ it) (h2 : ∀ x c, X.env.cells.lookup x = some c → c ≠ it) (h3 : ∀ p ∈ X.pn ++ pins, p.1 ≠ it) : Inv X pins σ H { s with heap := h', toks := t' } := by
  have nit : ∀ b u, H b = some u → b ≠ it := fun b u e z => by rw [z, hn] at e; cases e
  refine I.step (g' := s.gens) (d' := s.drawn) (ch := [it]) (fun b hb => ?_) (fun b o _ _ hc e _ => k b o (fun z => hc (by simp [z])) e) (fun b o _ _ hc e _ => ⟨o.slots, k b o (fun z => hc (by simp [z])) e⟩) (fun _ _ _ _ n => n)
    (fun b o hc e => ⟨o, k b o (fun z => hc (by simp [z])) e⟩) (fun _ _ e => e) (fun _ _ _ e => e) (fun b ps e => ⟨#[], by rw [e]; simp⟩) (fun m hm => ?_) (fun b u e => ?_) I.bare
  · have e : b = it := by simpa using hb
    subst e
    exact ⟨h1, hL, h2, h3⟩
  · obtain ⟨o, es, ep, ho, r⟩ := hm
    exact ⟨o, es, ep, k _ o (Ne.symm hL) ho, r⟩
  · refine (I.hok b u e).stay (fun c v hc q => k c v ?_ q) (fun _ q => q) fun _ _ q => q
    rcases hc with z | z
    · rw [z]; exact nit b u e
    · exact nit c _ z
theorem Inv.tok (I : Inv X pins σ H s) (t : Nat) : Inv X pins σ H { s with toks := t } := I.un (h' := s.heap) (t' := t) Un.refl I.hok
theorem Inv.kept {t' : Nat} (I : Inv X pins σ H s) (k : ∀ b u, s.heap.get? b = some u → h'.get? b = some u) : Inv X pins σ H { s with heap := h', toks := t' } := I.un (Un.kept k) (I.hok.kept k)
theorem Inv.laid {a : Addr} {o : HO} {t' : Nat} (I : Inv X pins σ H s) (k : ∀ b u, s.heap.get? b = some u → h'.get? b = some u) (hp : s.heap.objs.size ≤ a) (new : ObjOk X.prog X.w (upd H a o) h' a o) :
    Inv X pins σ (upd H a o) { s with heap := h', toks := t' } := I.un (Un.laid k hp (I.hok.fresh hp)) (I.hok.laid k hp new)
theorem Inv.write {x e : Addr} {o : HO} {t' : Nat} (I : Inv X pins σ H s) (mu : Mut (H x)) (he : e = x ∨ H e = some (.own x)) (k : ∀ b u, b ≠ e → s.heap.get? b = some u → h'.get? b = some u) (heo : ∃ u, h'.get? e = some u)
    (new : ObjOk X.prog X.w (upd H x o) h' x o) : Inv X pins σ (upd H x o) { s with heap := h', toks := t' } := I.un (Un.write mu he k heo) (I.hok.write mu he k heo new)
theorem Inv.pins_of {pins' : List (Addr × Obj)} (I : Inv X pins σ H s) (h : ∀ p ∈ pins', s.heap.get? p.1 = some p.2 ∧ H p.1 = none ∧ p.1 ≠ X.env.locals ∧ p.1 ∉ X.fs ∧ ∀ v, p.2.data ≠ .cell v) : Inv X pins' σ H s :=
  ⟨I.ok, I.os, I.bare, I.base, I.loc, I.cell, I.free, I.freeC, fun p hp => (List.mem_append.mp hp).elim (fun z => I.pin p (List.mem_append_left _ z)) (h p), I.hok, I.len⟩
theorem nodup_ix {N : List Str} (hN : N.Nodup) {i j : Nat} {x : Str} (a : N[i]? = some x) (b : N[j]? = some x) : i = j := by
  obtain ⟨h1, e1⟩ := List.getElem?_eq_some_iff.mp a
  obtain ⟨h2, e2⟩ := List.getElem?_eq_some_iff.mp b
  exact (List.getElem_inj hN).mp (e1.trans e2.symm)
theorem store_ok2 {M : Model} {A : Around} {E : Value → Shared → Prop} {i : Nat} {x : Str} {v : V} {u : Value} {Q : Unit → Shared → Prop} (I : Inv X pins σ H s) (hN : X.N.Nodup) (hi : X.N[i]? = some x) (hx : Loc X.env.scope x) (r : RelV v u)
    (h : ∀ s', Inv X pins (σ.set i (some v)) H s' → (∃ a, Heap.SameBut a s.heap s'.heap ∧ (a = X.env.locals ∨ X.env.cells.lookup x = some a)) → Q () s') (hf : X.fn x = true ∨ X.env.scope.names.lookup x = some .local := by first | exact .inl rfl | exact .inr rfl | assumption) : wpAny M A (storeName X.env x u) Q E s := by
  obtain ⟨m, hn, hl⟩ := id I.loc
  have hcls : (X.env.scope.kind == .class || (X.env.scope.kind == .module && X.env.locals != X.env.globals)) = false := by rw [I.ok.kind]; rfl
  have hiσ : i < σ.length := by rw [I.len]; exact (List.getElem?_eq_some_iff.mp hi).1
  have cne := I.cne
  have tracked : ∀ {a : Addr} {h' : Heap}, (∃ o, s.heap.get? a = some o ∧ H a = none) → Heap.SameBut a s.heap h' → HOk X.prog X.w H h' := fun {a h'} ha hs b ob e => by
    obtain ⟨_, _, hfree⟩ := ha
    refine (I.hok b ob e).stay (fun c w' hc q => (hs.2 c ?_).trans q) (fun _ q => q) fun _ _ q => q
    rintro rfl
    rcases hc with rfl | hc
    · rw [hfree] at e; cases e
    · rw [hfree] at hc; cases hc
  rcases hx with hk | hk
  · refine wpAny_storeName_local hk hn (fun h' hn' hs => ?_) hcls
    obtain ⟨oL, _, _, hoL, _⟩ := id hn
    refine h _ ⟨I.ok, I.os, I.bare, ⟨fun b o e n hb hx => ?_, fun b o e n hb hx => ?_, I.base.free, fun b o e hx => ?_, I.base.tups, I.base.frzs, I.base.tbls⟩, ⟨_, hn', fun j y v' e1 e2 e3 => ?_⟩, fun y c e => ?_, I.free, I.freeC, fun p hp => ?_, tracked ⟨oL, hoL, I.free⟩ hs, by simpa using I.len⟩ ⟨_, hs, .inl rfl⟩
    · exact (hs.2 b (Nat.ne_of_lt (Nat.lt_of_lt_of_le (Heap.lt_size e) I.ok.above))).trans (I.base.keep b o e n hb hx)
    · obtain ⟨sl, e1⟩ := I.base.slot b o e n hb hx
      exact ⟨sl, (hs.2 b (Nat.ne_of_lt (Nat.lt_of_lt_of_le (Heap.lt_size e) I.ok.above))).trans e1⟩
    · obtain ⟨o', e1⟩ := I.base.there b o e hx
      exact ⟨o', (hs.2 b (Nat.ne_of_lt (Nat.lt_of_lt_of_le (Heap.lt_size e) I.ok.above))).trans e1⟩
    · by_cases hj : j = i
      · subst hj
        rw [hi] at e1; cases e1
        rw [List.getElem?_set_self hiσ] at e2
        cases e2
        exact ⟨u, r, .inl ⟨hk, by simp⟩⟩
      · rw [List.getElem?_set_ne (Ne.symm hj)] at e2
        obtain ⟨u', r', q⟩ := hl j y v' e1 e2 e3
        refine ⟨u', r', ?_⟩
        rcases q with ⟨k, e⟩ | ⟨k, c, e, z⟩
        · refine .inl ⟨k, ?_⟩
          have : y ≠ x := fun e => hj (nodup_ix hN e1 (e ▸ hi))
          simp [this, e]
        · exact .inr ⟨k, c, e, z.sameBut hs (cne y c e)⟩
    · obtain ⟨w', z⟩ := I.cell y c e
      exact ⟨w', z.sameBut hs (cne y c e)⟩
    · obtain ⟨e, n, ne, nf, d⟩ := I.pin p hp
      exact ⟨(hs.2 p.1 ne).trans e, n, ne, nf, d⟩
  · have hfn : X.fn x = true := by
      rcases hf with z | z
      · exact z
      · rw [z] at hk; cases hk
    obtain ⟨c, hc⟩ := I.ok.has x (.inl hk)
    obtain ⟨w', z⟩ := I.cell x c hc
    refine wpAny_storeName_cell I.ok.kind hk hc z (fun h' hc' hs => ?_)
    obtain ⟨oc, hoc, hocd⟩ := id z
    refine h { s with heap := h' } ⟨I.ok, I.os, I.bare, ⟨fun b o e n hb hx => ?_, fun b o e n hb hx => ?_, I.base.free, fun b o e hx => ?_, I.base.tups, I.base.frzs, I.base.tbls⟩, ⟨m, hn.sameBut hs (Ne.symm (cne x c hc)), fun j y v' e1 e2 e3 => ?_⟩, fun y c' e => ?_, I.free, I.freeC, fun p hp => ?_, tracked ⟨oc, hoc, I.freeC x c hc⟩ hs, by simpa using I.len⟩ ⟨c, hs, .inr hc⟩
    · exact (hs.2 b (Nat.ne_of_lt (Nat.lt_of_lt_of_le (Heap.lt_size e) (I.ok.cab x c hfn hc)))).trans (I.base.keep b o e n hb hx)
    · obtain ⟨sl, e1⟩ := I.base.slot b o e n hb hx
      exact ⟨sl, (hs.2 b (Nat.ne_of_lt (Nat.lt_of_lt_of_le (Heap.lt_size e) (I.ok.cab x c hfn hc)))).trans e1⟩
    · obtain ⟨o', e1⟩ := I.base.there b o e hx
      exact ⟨o', (hs.2 b (Nat.ne_of_lt (Nat.lt_of_lt_of_le (Heap.lt_size e) (I.ok.cab x c hfn hc)))).trans e1⟩
    · by_cases hj : j = i
      · subst hj
        rw [hi] at e1; cases e1
        rw [List.getElem?_set_self hiσ] at e2
        cases e2
        exact ⟨u, r, .inr ⟨.inl hk, c, hc, hc'⟩⟩
      · rw [List.getElem?_set_ne (Ne.symm hj)] at e2
        obtain ⟨u', r', q⟩ := hl j y v' e1 e2 e3
        refine ⟨u', r', ?_⟩
        rcases q with q | ⟨k, c', e, z'⟩
        · exact .inl q
        · refine .inr ⟨k, c', e, z'.sameBut hs ?_⟩
          rintro rfl
          exact hj (nodup_ix hN e1 (I.ok.inj _ _ _ e hc ▸ hi))
    · by_cases hcc : c' = c
      · subst hcc; exact ⟨_, hc'⟩
      · obtain ⟨w2, z2⟩ := I.cell y c' e
        exact ⟨w2, z2.sameBut hs hcc⟩
    · obtain ⟨e, n, ne, nf, d⟩ := I.pin p hp
      refine ⟨(hs.2 p.1 ?_).trans e, n, ne, nf, d⟩
      intro q
      rw [q, hoc] at e
      have q' : oc = p.2 := Option.some.inj e
      exact d w' (by rw [← q']; exact hocd)
theorem store_ok {M : Model} {A : Around} {E : Value → Shared → Prop} {i : Nat} {x : Str} {v : V} {u : Value} {Q : Unit → Shared → Prop} (I : Inv X pins σ H s) (hN : X.N.Nodup) (hi : X.N[i]? = some x) (hx : Loc X.env.scope x) (r : RelV v u)
    (h : ∀ s', Inv X pins (σ.set i (some v)) H s' → Q () s') (hf : X.fn x = true ∨ X.env.scope.names.lookup x = some .local := by first | exact .inl rfl | exact .inr rfl | assumption) : wpAny M A (storeName X.env x u) Q E s :=
  store_ok2 I hN hi hx r (fun s' I' _ => h s' I') hf
theorem Inv.call' {s' : Shared} {ch : List Addr} (I : Inv X pins σ H s) (ho : s'.os = s.os) (u : Un (frs X.stack) ch H H' s.heap s'.heap) (hok : HOk X.prog X.w H' s'.heap) (hg : AllBare s'.gens)
    (hch : ∀ b ∈ ch, (b ∈ X.ex ∨ X.s₀.heap.objs.size ≤ b) ∧ b ≠ X.env.locals ∧ (∀ x c, X.env.cells.lookup x = some c → c ≠ b) ∧ ∀ p ∈ X.pn ++ pins, p.1 ≠ b) : Inv X pins σ H' s' := by
  obtain ⟨h', g', d', t', o'⟩ := s'
  have e : o' = s.os := ho
  subst e
  exact I.call (g' := g') (t' := t') (d' := d') u hok hg hch
end
abbrev XK := Value → Option Addr → Hp → Prop
abbrev St := List (Option V)
abbrev VK := V → Hp → Prop
abbrev TE := St → Hp → VK → Prop
abbrev TT := St → Hp → (Bool → Hp → Prop) → Prop
abbrev TA := St → Hp → (List V → Hp → Prop) → Prop
structure Ends where
  nx : St → Hp → Prop
  rt : VK
  bk : St → Hp → Prop := fun _ _ => False
  ct : St → Hp → Prop := fun _ _ => False
abbrev TS := Ends → St → Hp → Prop
def EP (X : Cx) (pins : List (Addr × Obj)) (σ : St) (Q : VK) (u : Value) (s' : Shared) : Prop := ∃ v H', Inv X pins σ H' s' ∧ RelV v u ∧ Q v H'
def TP (X : Cx) (pins : List (Addr × Obj)) (σ : St) (Q : Bool → Hp → Prop) (b : Bool) (s' : Shared) : Prop := ∃ H', Inv X pins σ H' s' ∧ Q b H'
def AP (X : Cx) (pins : List (Addr × Obj)) (σ : St) (Q : List V → Hp → Prop) (us : List Value) (s' : Shared) : Prop := ∃ vs H', Inv X pins σ H' s' ∧ Vals vs us ∧ Q vs H'
def SP (X : Cx) (pins : List (Addr × Obj)) (D : Ends) (f : Flow) (s' : Shared) : Prop :=
  match f with
  | .next => ∃ σ' H', Inv X pins σ' H' s' ∧ D.nx σ' H'
  | .brk => ∃ σ' H', Inv X pins σ' H' s' ∧ D.bk σ' H'
  | .cont => ∃ σ' H', Inv X pins σ' H' s' ∧ D.ct σ' H'
  | .ret u => ∃ v σ' H', Inv X pins σ' H' s' ∧ RelV v u ∧ D.rt v H'
def PE (X : Cx) (e : Expr) (t : TE) : Prop :=
  ∀ (pins : List (Addr × Obj)) (s : Shared) (σ : St) (H : Hp) (Q : VK), Inv X pins σ H s → t σ H Q → wpAny (model X.prog X.w) X.A (eval e X.env) (EP X pins σ Q) X.xe s
def PT (X : Cx) (e : Expr) (t : TT) : Prop :=
  ∀ (pins : List (Addr × Obj)) (s : Shared) (σ : St) (H : Hp) (Q : Bool → Hp → Prop), Inv X pins σ H s → t σ H Q → wpAny (model X.prog X.w) X.A (isTrue e X.env (eval e X.env)) (TP X pins σ Q) X.xe s
def PW (X : Cx) (e : Expr) (t : TT) : Prop :=
  ∀ (whole : Sem Value) (pins : List (Addr × Obj)) (s : Shared) (σ : St) (H : Hp) (Q : Bool → Hp → Prop), Inv X pins σ H s → t σ H Q → wpAny (model X.prog X.w) X.A (isTrue e X.env whole) (TP X pins σ Q) X.xe s
theorem PW.pt {X : Cx} {e : Expr} {t : TT} (h : PW X e t) : PT X e t := h _
def PA (X : Cx) (es : List Expr) (t : TA) : Prop :=
  ∀ (pos : Pos) (pins : List (Addr × Obj)) (s : Shared) (σ : St) (H : Hp) (Q : List V → Hp → Prop), Inv X pins σ H s → t σ H Q → wpAny (model X.prog X.w) X.A (spliced (backTo pos (starEach es X.env))) (AP X pins σ Q) X.xe s
def PS (X : Cx) (st : Stmt) (t : TS) : Prop :=
  ∀ (pins : List (Addr × Obj)) (s : Shared) (σ : St) (H : Hp) (D : Ends), Inv X pins σ H s → t D σ H → wpAny (model X.prog X.w) X.A (exec st X.env) (SP X pins D) X.xe s
def PSs (X : Cx) (st : List Stmt) (t : TS) : Prop :=
  ∀ (pins : List (Addr × Obj)) (s : Shared) (σ : St) (H : Hp) (D : Ends), Inv X pins σ H s → t D σ H → wpAny (model X.prog X.w) X.A (execs st X.env) (SP X pins D) X.xe s
theorem thn {α : Type} {t : Sem α} {Q Q' : α → Shared → Prop} {M : Model} {A : Around} {E : Value → Shared → Prop} {s : Shared} (h : wpAny M A t Q E s) (hQ : ∀ a s, Q a s → Q' a s) : wpAny M A t Q' E s := wpAny_mono h hQ fun _ _ x => x
end L2
namespace L2
open PySem PySem.Spec PyProof.Rows
section
variable {X : Cx}
def tVar (i : Nat) : TE := fun σ H Q => ∃ v, σ[i]? = some (some v) ∧ Q v H
def tC (v : V) : TE := fun _ H Q => Q v H
theorem pe_var {i : Nat} {x : Str} {pos : Pos} (hN : X.N[i]? = some x) (hv : Vis X.env.scope x) (hd : (x == ("__debug__" : Str)) = false := by decide) (hcd : (x == ("__classdict__" : Str)) = false := by decide) : PE X (.Name x pos) (tVar i) := by
  intro pins s σ H Q I h
  obtain ⟨v, e, h⟩ := h
  obtain ⟨m, hn, hl⟩ := I.loc
  obtain ⟨u, r, l⟩ := hl i x v hN e hv
  have fin : EP X pins σ Q u s := ⟨v, H, I, r, h⟩
  rcases l with ⟨hk, hm⟩ | ⟨hk, c, hc, hcell⟩
  · exact wpAny_Name (wpAny_loadName_local I.ok.kind hk hn hm fin) hd
  · rcases hk with hk | hk
    · exact wpAny_Name (wpAny_loadName_cell I.ok.kind hk hc hcell fin) hd
    · exact wpAny_Name (wpAny_loadName_free I.ok.kind hk hc hcell fin hcd) hd
theorem pe_int {i j pos} : PE X (.Constant (.int i) j pos) (tC (.int i)) := fun _ _ _ H _ I h => wpAny_Constant_int ⟨.int i, H, I.tok _, ⟨_, rfl⟩, h⟩
theorem pe_bl {b j pos} : PE X (.Constant (.bool b) j pos) (tC (.bl b)) := fun _ _ _ H _ I h => Constant_bool ⟨.bl b, H, I, rfl, h⟩
theorem pe_non {j pos} : PE X (.Constant .none j pos) (tC .non) := fun _ _ _ H _ I h => Constant_none ⟨.non, H, I, rfl, h⟩
theorem pe_str {x j pos} : PE X (.Constant (.str x) j pos) (tC (.str x)) := fun _ _ _ H _ I h => Calls.Constant_str ⟨.str x, H, I.tok _, ⟨_, rfl⟩, h⟩
def Gl (X : Cx) (x : Str) : Prop := X.env.kindOf x = some .globalImplicit
theorem ld_glob {E : Value → Shared → Prop} {pins : List (Addr × Obj)} {s : Shared} {σ : St} {H : Hp} {x : Str} {u : Value} {pos : Pos} {Q : Value → Shared → Prop} (I : Inv X pins σ H s) (hg : Gl X x) (hm : X.mg x = some u) (h : Q u s)
    (hd : (x == ("__debug__" : Str)) = false := by decide) : wpAny (model X.prog X.w) X.A (eval (.Name x pos) X.env) Q E s :=
  Calls.Name_function_global I.ok.kind hg (Calls.loadGlobal_global (by rw [I.ok.glob]; exact I.mod.glob.keeps I.bk) hm h) hd
theorem ld_blt {E : Value → Shared → Prop} {pins : List (Addr × Obj)} {s : Shared} {σ : St} {H : Hp} {x : Str} {u : Value} {pos : Pos} {Q : Value → Shared → Prop} (I : Inv X pins σ H s) (hg : Gl X x) (hm : X.mg x = none) (hv : bootBuiltins x = some u) (h : Q u s)
    (hn : x ≠ "__name__" := by decide) (hd : (x == ("__debug__" : Str)) = false := by decide) : wpAny (model X.prog X.w) X.A (eval (.Name x pos) X.env) Q E s := by
  obtain ⟨mb, h1, h2⟩ := I.mod.blt
  exact Calls.Name_function_global I.ok.kind hg (Calls.loadGlobal_builtin (by rw [I.ok.glob]; exact I.mod.glob.keeps I.bk) hm (by rw [I.ok.blt]; exact h1.keeps I.bk) ((h2 x hn).trans hv) h) hd
theorem pe_glob {x : Str} {v : V} {u : Value} {pos : Pos} (hg : Gl X x) (hm : X.mg x = some u) (r : RelV v u) (hd : (x == ("__debug__" : Str)) = false := by decide) : PE X (.Name x pos) (tC v) :=
  fun _ _ _ H _ I h => ld_glob I hg hm ⟨v, H, I, r, h⟩ hd
theorem pe_bltn {x : Str} {v : V} {u : Value} {pos : Pos} (hg : Gl X x) (hm : X.mg x = none) (hv : bootBuiltins x = some u) (r : RelV v u) (hn : x ≠ "__name__" := by decide) (hd : (x == ("__debug__" : Str)) = false := by decide) : PE X (.Name x pos) (tC v) :=
  fun _ _ _ H _ I h => ld_blt I hg hm hv ⟨v, H, I, r, h⟩ hn hd
variable {a b : Expr} {ta tb : TE} {pos : Pos}
def tB (t : TE) : TT := fun σ H Q => t σ H fun x H1 => ∃ c, x = .bl c ∧ Q c H1
theorem pt_val {e : Expr} {t : TE} (h : PE X e t) (he : ∀ whole, isTrue e X.env whole = (do let v ← whole; standAt e.pos; holding [v] (truthy v)) := by intro _; rfl) : PT X e (tB t) := by
  intro pins s σ H Q I hw
  refine isTrue_plain (thn (h pins s σ H _ I hw) fun v s1 ⟨x, H1, I1, r1, q1⟩ => ?_) (he _)
  obtain ⟨d, rfl, q⟩ := q1
  cases r1
  exact wpAny_truthy_bool ⟨H1, I1, q⟩
variable {tA tB' : TT} {rest : List Expr}
def tAnd (t u : TT) : TT := fun σ H Q => t σ H fun c H1 => if c = true then u σ H1 Q else Q false H1
def tOr (t u : TT) : TT := fun σ H Q => t σ H fun c H1 => if c = true then Q true H1 else u σ H1 Q
def tNot (t : TT) : TT := fun σ H Q => t σ H fun c H1 => Q (!c) H1
theorem pw_and1 (ha : PT X a tA) : PW X (.BoolOp .And [a] pos) tA := by
  intro wh pins s σ H Q I h
  refine isTrue_and (thn (ha pins s σ H Q I h) fun c s1 e => ?_)
  cases c with
  | true => exact isTrue_and_nil e
  | false => exact e
theorem pw_or1 (ha : PT X a tA) : PW X (.BoolOp .Or [a] pos) tA := by
  intro wh pins s σ H Q I h
  refine isTrue_or (thn (ha pins s σ H Q I h) fun c s1 e => ?_)
  cases c with
  | false => exact isTrue_or_nil e
  | true => exact e
theorem pw_and (ha : PT X a tA) (hb : PW X (.BoolOp .And (b :: rest) pos) tB') : PW X (.BoolOp .And (a :: b :: rest) pos) (tAnd tA tB') := by
  intro wh pins s σ H Q I h
  refine isTrue_and (thn (ha pins s σ H _ I h) fun c s1 ⟨H1, I1, q1⟩ => ?_)
  cases c with
  | true => exact hb wh pins s1 σ H1 Q I1 q1
  | false => exact ⟨H1, I1, q1⟩
theorem pw_or (ha : PT X a tA) (hb : PW X (.BoolOp .Or (b :: rest) pos) tB') : PW X (.BoolOp .Or (a :: b :: rest) pos) (tOr tA tB') := by
  intro wh pins s σ H Q I h
  refine isTrue_or (thn (ha pins s σ H _ I h) fun c s1 ⟨H1, I1, q1⟩ => ?_)
  cases c with
  | true => exact ⟨H1, I1, q1⟩
  | false => exact hb wh pins s1 σ H1 Q I1 q1
theorem pt_not (ha : PT X a tA) : PT X (.UnaryOp .Not a pos) (tNot tA) := by
  intro pins s σ H Q I h
  exact isTrue_not (ha pins s σ H (fun c H1 => Q (!c) H1) I h)
def tAndV (ta tb : TE) : TE := fun σ H Q => ta σ H fun x H1 => ∃ c, x = .bl c ∧ if c = true then tb σ H1 Q else Q (.bl false) H1
def tNotV (ta : TE) : TE := fun σ H Q => ta σ H fun x H1 => ∃ c, x = .bl c ∧ Q (.bl (!c)) H1
theorem pe_one {op} {t : TE} (h : PE X a t) : PE X (.BoolOp op [a] pos) t := fun pins s σ H Q I hw => BoolOp_one (h pins s σ H Q I hw)
theorem pe_and (ha : PE X a ta) (hb : PE X (.BoolOp .And (b :: rest) pos) tb) : PE X (.BoolOp .And (a :: b :: rest) pos) (tAndV ta tb) := by
  intro pins s σ H Q I h
  refine BoolOp_and (thn (ha pins s σ H _ I h) fun v s1 ⟨x, H1, I1, r1, q1⟩ => ?_)
  obtain ⟨c, rfl, q1⟩ := q1
  cases r1
  refine wpAny_truthy_bool ?_
  cases c with
  | true => exact hb pins s1 σ H1 Q I1 q1
  | false => exact ⟨.bl false, H1, I1, rfl, q1⟩
theorem pe_not (ha : PE X a ta) : PE X (.UnaryOp .Not a pos) (tNotV ta) := by
  intro pins s σ H Q I h
  refine UnaryOp_ (thn (ha pins s σ H _ I h) fun v s1 ⟨x, H1, I1, r1, q1⟩ => ?_)
  obtain ⟨c, rfl, q1⟩ := q1
  cases r1
  exact not_of (wpAny_truthy_bool ⟨.bl (!c), H1, I1, rfl, q1⟩)
def tIf (t : TT) (ta tb : TE) : TE := fun σ H Q => t σ H fun c H1 => if c = true then ta σ H1 Q else tb σ H1 Q
theorem pe_ifExp {c : Expr} (hc : PT X c tA) (ha : PE X a ta) (hb : PE X b tb) : PE X (.IfExp c a b pos) (tIf tA ta tb) := by
  intro pins s σ H Q I h
  refine wpAny_IfExp (thn (hc pins s σ H _ I h) fun d s1 ⟨H1, I1, q1⟩ => ?_)
  cases d with
  | true => exact ha pins s1 σ H1 Q I1 q1
  | false => exact hb pins s1 σ H1 Q I1 q1
end
end L2
namespace L2
open PySem PySem.Spec PyProof.Rows
def SqL (K : PySem.W.Frag) (H : Hp) (a : Addr) (xs : List V) : Prop :=
  Rd H a (.lst xs) ∨
    ∃ (o : Obj) (its : Array Value) (n : Nat), K.lookup a = some o ∧ o.cls = .type "list" ∧ o.dict = none ∧ o.data = .seq its n ∧ its.size ≤ sizeLine ∧ Vals xs its.toList
def SqT (K : PySem.W.Frag) (H : Hp) (a : Addr) (xs : List V) : Prop :=
  Rd H a (.tup xs) ∨
    ∃ (o : Obj) (its : Array Value) (n : Nat), K.lookup a = some o ∧ o.cls = .type "tuple" ∧ o.data = .seq its n ∧ its.size ≤ sizeLine ∧ Vals xs its.toList
def absV : Value → Option V
  | .none => some .non
  | .bool b => some (.bl b)
  | .int i _ => some (.int i)
  | .str x _ => some (.str x)
  | .bytes b _ => some (.byt b)
  | .float b _ => some (.flt b)
  | .ref a => some (.ref a)
  | .type n => some (.ty n)
  | _ => none
theorem RelV.abs {x : V} {u : Value} (r : RelV x u) : absV u = some x := by
  cases x with
  | non => cases r; rfl
  | bl _ => cases r; rfl
  | int _ => obtain ⟨t, rfl⟩ := r; rfl
  | str _ => obtain ⟨t, rfl⟩ := r; rfl
  | byt _ => obtain ⟨t, rfl⟩ := r; rfl
  | flt _ => obtain ⟨t, rfl⟩ := r; rfl
  | ref _ => cases r; rfl
  | ty _ => cases r; rfl
theorem RelV.inj {x y : V} {u : Value} (r : RelV x u) (q : RelV y u) : x = y := Option.some.inj (r.abs.symm.trans q.abs)
theorem Vals.inj : ∀ {xs ys : List V} {us : List Value}, Vals xs us → Vals ys us → xs = ys
  | _, _, _, .nil, .nil => rfl
  | _, _, _, .cons r t, .cons r' t' => by rw [r.inj r', Vals.inj t t']
section
variable {X : Cx} {pins : List (Addr × Obj)} {σ : St} {H : Hp} {s : Shared} {a : Addr} {xs ys : List V}
theorem SqL.of {K : PySem.W.Frag} (h : H a = some (.lst xs)) : SqL K H a xs := .inl (.inl h)
theorem SqT.of {K : PySem.W.Frag} (h : H a = some (.tup xs)) : SqT K H a xs := .inl (.inl h)
theorem Inv.list (I : Inv X pins σ H s) (h : SqL X.K H a xs) : ∃ its : List Value, Vals xs its ∧ PlainL s.heap a its.toArray ∧ xs.length ≤ sizeLine := by
  rcases h with h | ⟨o, its, n, hk, hc, hd, hs, hz, r⟩
  · obtain ⟨z, its, n, r, e⟩ := h.ok I.hok
    exact ⟨its, r, ⟨_, n, e, rfl, rfl, rfl⟩, z⟩
  · refine ⟨its.toList, r, ⟨o, n, I.kIn a o hk, hc, hd, by simpa using hs⟩, ?_⟩
    have e := r.length
    simp only [Array.length_toList] at e
    lia
theorem Inv.tuple (I : Inv X pins σ H s) (h : SqT X.K H a xs) : ∃ its : List Value, Vals xs its ∧ IsTup s.heap a its.toArray ∧ xs.length ≤ sizeLine := by
  rcases h with h | ⟨o, its, n, hk, hc, hs, hz, r⟩
  · obtain ⟨z, its, r, p⟩ := h.ok I.hok
    exact ⟨its, r, p, z⟩
  · refine ⟨its.toList, r, ⟨o, I.kIn a o hk, hc, n, by simpa using hs⟩, ?_⟩
    have e := r.length
    simp only [Array.length_toList] at e
    lia
theorem Inv.list_inj (I : Inv X pins σ H s) (h : SqL X.K H a xs) (h' : SqL X.K H a ys) : xs = ys := by
  obtain ⟨its, r, ⟨o, n, e, _, _, d⟩, _⟩ := I.list h
  obtain ⟨its', r', ⟨o', n', e', _, _, d'⟩, _⟩ := I.list h'
  rw [e] at e'; cases e'
  rw [d] at d'
  injection d' with d1 _
  have : its = its' := by simpa using congrArg Array.toList d1
  subst this
  exact r.inj r'
theorem Inv.tuple_inj (I : Inv X pins σ H s) (h : SqT X.K H a xs) (h' : SqT X.K H a ys) : xs = ys := by
  obtain ⟨its, r, ⟨o, e, _, n, d⟩, _⟩ := I.tuple h
  obtain ⟨its', r', ⟨o', e', _, n', d'⟩, _⟩ := I.tuple h'
  rw [e] at e'; cases e'
  rw [d] at d'
  injection d' with d1 _
  have : its = its' := by simpa using congrArg Array.toList d1
  subst this
  exact r.inj r'
end
abbrev Cx.wish (X : Cx) (E : Value → Shared → Prop) : Cx := { X with xe := E }
abbrev Cx.nox (X : Cx) : Cx := X.wish fun _ _ => False
theorem Cx.Ok.wish {X : Cx} (ok : X.Ok) (E : Value → Shared → Prop) : (X.wish E).Ok :=
  ⟨ok.mod, ok.kind, ok.glob, ok.blt, ok.above, ok.inj, ok.has, ok.cab, ok.hd, ok.frames, ok.stk, ok.exf, ok.bs, ok.bsz, ok.noex, ok.exfs, ok.funs, ok.frf⟩
theorem Cx.Ok.unwish {X : Cx} {E : Value → Shared → Prop} (ok : (X.wish E).Ok) : X.Ok :=
  ⟨ok.mod, ok.kind, ok.glob, ok.blt, ok.above, ok.inj, ok.has, ok.cab, ok.hd, ok.frames, ok.stk, ok.exf, ok.bs, ok.bsz, ok.noex, ok.exfs, ok.funs, ok.frf⟩
section
variable {X : Cx} {pins : List (Addr × Obj)} {σ : St} {H : Hp} {s : Shared} {E : Value → Shared → Prop}
theorem Inv.wish (I : Inv X pins σ H s) (E : Value → Shared → Prop) : Inv (X.wish E) pins σ H s := ⟨I.ok.wish E, I.os, I.bare, I.base, I.loc, I.cell, I.free, I.freeC, I.pin, I.hok, I.len⟩
theorem Inv.unwish (I : Inv (X.wish E) pins σ H s) : Inv X pins σ H s := ⟨I.ok.unwish, I.os, I.bare, I.base, I.loc, I.cell, I.free, I.freeC, I.pin, I.hok, I.len⟩
theorem SP.unwish {D : Ends} {f : Flow} {s' : Shared} (h : SP (X.wish E) pins D f s') : SP X pins D f s' := by
  cases f with
  | next => obtain ⟨σ', H', I, q⟩ := h; exact ⟨σ', H', I.unwish, q⟩
  | brk => obtain ⟨σ', H', I, q⟩ := h; exact ⟨σ', H', I.unwish, q⟩
  | cont => obtain ⟨σ', H', I, q⟩ := h; exact ⟨σ', H', I.unwish, q⟩
  | ret u => obtain ⟨v, σ', H', I, r, q⟩ := h; exact ⟨v, σ', H', I.unwish, r, q⟩
theorem PSs.nox {st : List Stmt} {t : TS} (h : PSs X.nox st t) : PSs X st t := fun pins s σ H D I hw =>
  wpAny_mono (h pins s σ H D (I.wish _) hw) (fun _ _ q => q.unwish) fun _ _ z => False.elim z
end
section
variable {X : Cx} {st : Stmt} {rest : List Stmt} {t u : TS} {e : Expr} {te : TE} {pos : Pos}
def tNext : TS := fun D σ H => D.nx σ H
def tSeq (t u : TS) : TS := fun D σ H => t { D with nx := u D } σ H
theorem pss_nil : PSs X [] tNext := fun _ _ σ H _ I h => wpAny_execs_nil ⟨σ, H, I, h⟩
theorem pss_cons (h1 : PS X st t) (h2 : PSs X rest u) : PSs X (st :: rest) (tSeq t u) := by
  intro pins s σ H D I h
  refine wpAny_execs_cons (thn (h1 pins s σ H { D with nx := u D } I h) fun f s1 q => ?_)
  cases f with
  | next =>
    obtain ⟨σ', H', I', q⟩ := q
    exact h2 pins s1 σ' H' D I' q
  | ret v => exact q
  | brk => exact q
  | cont => exact q
theorem pss_one (h1 : PS X st t) : PSs X [st] t := by
  intro pins s σ H D I h
  refine wpAny_execs_cons (thn (h1 pins s σ H D I h) fun f s1 q => ?_)
  cases f with
  | next => exact wpAny_execs_nil q
  | ret v => exact q
  | brk => exact q
  | cont => exact q
theorem Inv.quiet {pins : List (Addr × Obj)} {σ : St} {H : Hp} {s : Shared} (I : Inv X pins σ H s) : interactive X.env = false := by simp [interactive, I.ok.kind]
def tDrop (te : TE) : TS := fun D σ H => te σ H fun _ H1 => D.nx σ H1
theorem ps_expr (he : PE X e te) (hs : swapsWith e none pos.line X.env = pure false := by rfl) : PS X (.Expr e pos) (tDrop te) := by
  intro pins s σ H D I h
  exact wpAny_Expr_any (thn (he pins s σ H _ I h) fun v s1 ⟨x, H1, I1, r1, q1⟩ => ⟨σ, H1, I1, q1⟩) I.quiet hs
def tRet (te : TE) : TS := fun D σ H => te σ H D.rt
theorem ps_ret (he : PE X e te) : PS X (.Return (some e) pos) (tRet te) := by
  intro pins s σ H D I h
  exact wpAny_Return_some (thn (he pins s σ H _ I h) fun v s1 ⟨x, H1, I1, r1, q1⟩ => ⟨x, σ, H1, I1, r1, q1⟩)
def tIfS (c : TT) (t u : TS) : TS := fun D σ H => c σ H fun b H1 => if b = true then t D σ H1 else u D σ H1
theorem ps_if {c : Expr} {a b : List Stmt} {tc : TT} (hc : PT X c tc) (ha : PSs X a t) (hb : PSs X b u) : PS X (.If c a b pos) (tIfS tc t u) := by
  intro pins s σ H D I h
  refine wpAny_If (thn (hc pins s σ H _ I h) fun d s1 ⟨H1, I1, q1⟩ => ?_)
  cases d with
  | true => exact ha pins s1 σ H1 D I1 q1
  | false => exact hb pins s1 σ H1 D I1 q1
end
abbrev TG := V → St → Hp → (St → Hp → Prop) → Prop
abbrev TGs := List V → St → Hp → (St → Hp → Prop) → Prop
def PG (X : Cx) (target : Expr) (t : TG) : Prop :=
  ∀ (pins : List (Addr × Obj)) (s : Shared) (σ : St) (H : Hp) (v : V) (u : Value) (Q : St → Hp → Prop), Inv X pins σ H s → RelV v u → t v σ H Q →
    wpAny (model X.prog X.w) X.A (assign target X.env u) (fun _ s' => ∃ σ' H', Inv X pins σ' H' s' ∧ Q σ' H') X.xe s
def PGs (X : Cx) (ts : List Expr) (t : TGs) : Prop :=
  ∀ (pins : List (Addr × Obj)) (s : Shared) (σ : St) (H : Hp) (vs : List V) (us : List Value) (Q : St → Hp → Prop), Inv X pins σ H s → Vals vs us → t vs σ H Q →
    wpAny (model X.prog X.w) X.A (assignInOrder ((assignEach ts X.env).map (·.2)) us) (fun _ s' => ∃ σ' H', Inv X pins σ' H' s' ∧ Q σ' H') X.xe s
section
variable {X : Cx} {pos : Pos}
def gName (i : Nat) : TG := fun v σ H Q => Q (σ.set i (some v)) H
theorem pg_name {i : Nat} {x : Str} (hN : X.N.Nodup) (hi : X.N[i]? = some x) (hx : Loc X.env.scope x) (hf : X.fn x = true ∨ X.env.scope.names.lookup x = some .local := by first | exact .inl rfl | exact .inr rfl | assumption) : PG X (.Name x pos) (gName i) := by
  intro pins s σ H v u Q I r h
  exact wpAny_assign_Name (store_ok I hN hi hx r (fun s' I' => ⟨_, H, I', h⟩) hf)
def gNil : TGs := fun vs σ H Q => vs = [] ∧ Q σ H
def gCons (t : TG) (u : TGs) : TGs := fun vs σ H Q => ∃ v r, vs = v :: r ∧ t v σ H fun σ' H' => u r σ' H' Q
theorem pgs_nil : PGs X [] gNil := by
  intro pins s σ H vs us Q I r h
  obtain ⟨e, h⟩ := h
  subst e
  cases r
  exact assignInOrder_nil ⟨σ, H, I, h⟩
theorem pgs_cons {e : Expr} {es : List Expr} {t : TG} {u : TGs} (h1 : PG X e t) (h2 : PGs X es u)
    (hs : (assignEach (e :: es) X.env).map (·.2) = assign e X.env :: (assignEach es X.env).map (·.2) := by rfl) : PGs X (e :: es) (gCons t u) := by
  intro pins s σ H vs us Q I r h
  obtain ⟨v, vr, e1, h⟩ := h
  subst e1
  cases r with
  | cons r rr =>
    rw [hs]
    refine assignInOrder_cons (thn (h1 pins s σ H _ _ _ I r h) fun _ s1 ⟨σ1, H1, I1, q1⟩ => ?_)
    exact h2 pins s1 σ1 H1 _ _ Q I1 rr q1
def gTup (K : PySem.W.Frag) (n : Nat) (t : TGs) : TG := fun v σ H Q => ∃ a xs, v = .ref a ∧ SqT K H a xs ∧ xs.length = n ∧ t xs σ H Q
theorem pg_tup {es : List Expr} {k : Nat} {t : TGs} {n : Nat} (hc : X.calm = true) (h : PGs X es t)
    (hn : (assignEach es X.env).length = n := by rfl) (hst : (assignEach es X.env).findIdx? (·.1) = none := by rfl) : PG X (.Tuple es k pos) (gTup X.K n t) := by
  intro pins s σ H v u Q I r hw
  obtain ⟨a, xs, e1, hq, hl, hw⟩ := hw
  subst e1
  cases r
  obtain ⟨its, rv, ht, hz⟩ := I.tuple hq
  refine assign_Tuple_tuple (I.ok.hd hc) ht (by simp [hn, ← hl, rv.length]) hst fun h' hx => ?_
  have I1 : Inv X pins σ H { s with heap := h' } := I.kept (t' := s.toks) fun b o e => hx b o (Nat.ne_of_lt (Heap.lt_size e)) e
  exact h pins _ σ H xs _ Q I1 (by simpa using rv) hw
def tAsg (te : TE) (g : TG) : TS := fun D σ H => te σ H fun x H1 => g x σ H1 D.nx
theorem ps_set {i : Nat} {x : Str} {e : Expr} {te : TE} {pos' : Pos} (hN : X.N.Nodup) (hi : X.N[i]? = some x) (hx : Loc X.env.scope x) (he : PE X e te) (hs : swapsWith e (some (.Name x pos')) pos.line X.env = pure false := by rfl) (hf : X.fn x = true ∨ X.env.scope.names.lookup x = some .local := by first | exact .inl rfl | exact .inr rfl | assumption) :
    PS X (.Assign [.Name x pos'] e pos) (tAsg te (gName i)) := by
  intro pins s σ H D I h
  refine wpAny_Assign_Name (thn (he pins s σ H _ I h) fun v s1 ⟨y, H1, I1, r1, q1⟩ => ?_) hs
  exact store_ok I1 hN hi hx r1 (fun s2 I2 => ⟨_, H1, I2, q1⟩) hf
end
section
variable {X : Cx} {pos : Pos}
def tWhile (c : TT) (tb : TS) : TS := fun D σ H => ∃ W : Nat → St → Hp → Prop, (∃ m, W m σ H) ∧ ∀ m σ H, W m σ H →
  c σ H fun b H1 => if b = true then ∃ N : St → Hp → Prop, (∀ σ' H', N σ' H' → ∃ m', m' < m ∧ W m' σ' H') ∧ tb { D with nx := N, ct := N, bk := D.nx } σ H1 else D.nx σ H1
theorem ps_while {c : Expr} {body : List Stmt} {tc : TT} {tb : TS} (hp : PassesOwn (model X.prog X.w) X.A X.env X.xe) (hc : PT X c tc) (hb : PSs X body tb) : PS X (.While c body [] pos) (tWhile tc tb) := by
  intro pins s σ H D I h
  obtain ⟨W, ⟨m0, w0⟩, turn⟩ := h
  refine wpAny_While (codeAny_whileLoop (fun n s' => ∃ σ' H', Inv X pins σ' H' s' ∧ W n σ' H') ?_ m0 ⟨σ, H, I, w0⟩)
  rintro n s1 ⟨σ1, H1, I1, w1⟩
  refine wpAny_passesOwn hp (thn (hc pins s1 σ1 H1 _ I1 (turn n σ1 H1 w1)) fun b s2 ⟨H2, I2, q2⟩ => ?_)
  cases b with
  | true =>
    obtain ⟨N, hN, q2⟩ := q2
    rw [if_pos rfl]
    refine wpAny_passesOwn hp (thn (hb pins s2 σ1 H2 _ I2 q2) fun f s3 q3 => ?_)
    cases f with
    | next =>
      obtain ⟨σ3, H3, I3, n3⟩ := q3
      obtain ⟨m', hm, w3⟩ := hN σ3 H3 n3
      exact ⟨m', hm, σ3, H3, I3, w3⟩
    | cont =>
      obtain ⟨σ3, H3, I3, n3⟩ := q3
      obtain ⟨m', hm, w3⟩ := hN σ3 H3 n3
      exact ⟨m', hm, σ3, H3, I3, w3⟩
    | brk => exact q3
    | ret v => exact q3
  | false =>
    rw [if_neg Bool.false_ne_true]
    exact wpAny_execs_nil ⟨σ1, H2, I2, q2⟩
end
structure It where
  go : Nat → Hp → Prop
  yld : Nat → Hp → V → Hp → Prop
  stop : Nat → Hp → Prop
def FpOk (X : Cx) (pins : List (Addr × Obj)) (H : Hp) (b : Addr) : Prop :=
  H b = none ∧ b ≠ X.env.locals ∧ b ∉ X.fs ∧ (b ∈ X.ex ∨ X.s₀.heap.objs.size ≤ b) ∧ (∀ x c, X.env.cells.lookup x = some c → c ≠ b) ∧ ∀ p ∈ X.pn ++ pins, p.1 ≠ b
theorem Inv.fpOk {X : Cx} {pins : List (Addr × Obj)} {σ : St} {H H' : Hp} {s : Shared} {b : Addr} (I : Inv X pins σ H s) (hb : s.heap.objs.size ≤ b) (hn : H' b = none) : FpOk X pins H' b := by
  refine ⟨hn, Nat.ne_of_gt (Nat.lt_of_lt_of_le I.lt hb), I.nofs hb, .inr (Nat.le_trans I.sz hb), fun x c e z => ?_, fun p hp z => ?_⟩
  · obtain ⟨v, q⟩ := I.cell x c e
    exact absurd (Nat.lt_of_lt_of_le q.lt (by rw [z]; exact hb)) (Nat.lt_irrefl _)
  · exact absurd (Nat.lt_of_lt_of_le (Heap.lt_size (I.pin p hp).1) (by rw [z]; exact hb)) (Nat.lt_irrefl _)
structure Turn (P : Program) (w : World) (K : PySem.W.Frag) (tg : Expr) (J : It) (fp : List Addr) (it : Addr) (tn : Nat → Heap → Prop) : Prop where
  mem : it ∈ fp
  obj : ∀ i h, tn i h → ∀ b ∈ fp, ∃ o, h.get? b = some o ∧ ∀ v, o.data ≠ .cell v
  keep : ∀ i h h', tn i h → (∀ b ∈ fp, ∀ o, h.get? b = some o → h'.get? b = some o) → tn i h'
  item : ∀ (X : Cx), X.prog = P → X.w = w → X.K = K → X.calm = true → ∀ (i : Nat) (pins : List (Addr × Obj)) (s : Shared) (σ : St) (H : Hp) (E : Value → Shared → Prop), Inv X pins σ H s → (∀ b ∈ fp, FpOk X pins H b) → tn i s.heap → J.go i H →
    wpAny (model P w) X.A (pyNext (.ref it)) (fun r s1 => ∃ u, r = some u ∧
      wpAny (model P w) X.A (letOwnedTupleGo tg (.ref it) u) (fun _ s2 => ∃ x H', Inv X pins σ H' s2 ∧ RelV x u ∧ J.yld i H x H' ∧ tn (i + 1) s2.heap ∧ ∀ b ∈ fp, H' b = none) E s1) E s
  done : ∀ (X : Cx), X.prog = P → X.w = w → X.K = K → X.calm = true → ∀ (i : Nat) (pins : List (Addr × Obj)) (s : Shared) (σ : St) (H : Hp) (E : Value → Shared → Prop), Inv X pins σ H s → (∀ b ∈ fp, FpOk X pins H b) → tn i s.heap → J.stop i H →
    wpAny (model P w) X.A (pyNext (.ref it)) (fun r s1 => r = none ∧ Inv X pins σ H s1) E s
  self : ∀ (A : Around) (i : Nat) (s : Shared) (Q : Value → Shared → Prop) (E : Value → Shared → Prop), tn i s.heap → Q (.ref it) s → wpAny (model P w) A (pyIter (.ref it)) Q E s
abbrev TI := St → Hp → (It → Hp → Prop) → Prop
def PIE (X : Cx) (pins : List (Addr × Obj)) (σ : St) (tg : Expr) (R : It → Hp → Prop) (itv : Value) (s2 : Shared) : Prop :=
  ∃ (it : Addr) (fp : List Addr) (tn : Nat → Heap → Prop) (J : It) (H' : Hp), itv = .ref it ∧ Inv X pins σ H' s2 ∧ Turn X.prog X.w X.K tg J fp it tn ∧ tn 0 s2.heap ∧ (∀ b ∈ fp, FpOk X pins H' b) ∧ R J H'
def PI (X : Cx) (tg iter : Expr) (wi : TI) : Prop :=
  ∀ (pins : List (Addr × Obj)) (s : Shared) (σ : St) (H : Hp) (R : It → Hp → Prop), Inv X pins σ H s → wi σ H R →
    wpAny (model X.prog X.w) X.A (eval iter X.env) (fun v s1 => wpAny (model X.prog X.w) X.A (pyIter v) (PIE X pins σ tg R) X.xe s1) X.xe s
theorem go_of {M : Model} {A : Around} {E : Value → Shared → Prop} {s : Shared} {tg : Expr} {it : Addr} {u : Value} {o : Obj} {n : String} {vs : Array Value} {Q : Unit → Shared → Prop} (ho : s.heap.get? it = some o) (hc : o.cls = .type n) (hd : o.data = .fields vs)
    (hn : ["enumerate", "zip", "dict_itemiterator", "dict_reverseitemiterator", "odict_iterator", "itertools.zip_longest", "itertools.pairwise"].contains n = false) (hQ : Q () s) : wpAny M A (letOwnedTupleGo tg (.ref it) u) Q E s := by
  unfold letOwnedTupleGo
  cases tg <;> first
    | exact wpAny_pure hQ
    | (cases u <;> first
        | exact wpAny_pure hQ
        | (refine wpAny_bind (wpAny_load ho ?_)
           rw [hc, hd]
           show wpAny M A (if (["enumerate", "zip", "dict_itemiterator", "dict_reverseitemiterator", "odict_iterator", "itertools.zip_longest", "itertools.pairwise"].contains n && vs[0]? == some (rawInt _)) = true then _ else _) Q E s
           rw [if_neg (by intro h; rw [hn, Bool.false_and] at h; cases h)]
           exact wpAny_pure hQ))
def Itl (K : PySem.W.Frag) (a : Addr) : It :=
  ⟨fun i H => ∃ xs x, SqL K H a xs ∧ xs[i]? = some x, fun i H x H' => H' = H ∧ ∀ xs, SqL K H a xs → xs[i]? = some x, fun i H => ∃ xs, SqL K H a xs ∧ xs.length ≤ i⟩
def Itt (K : PySem.W.Frag) (a : Addr) : It :=
  ⟨fun i H => ∃ xs x, SqT K H a xs ∧ xs[i]? = some x, fun i H x H' => H' = H ∧ ∀ xs, SqT K H a xs → xs[i]? = some x, fun i H => ∃ xs, SqT K H a xs ∧ xs.length ≤ i⟩
def Itr (lo : Int) (n : Nat) : It := ⟨fun i _ => i < n, fun i H x H' => H' = H ∧ x = .int (lo + i), fun i _ => n ≤ i⟩
theorem turn_list {P : Program} {w : World} {K : PySem.W.Frag} {tg : Expr} (a it : Addr) : Turn P w K tg (Itl K a) [it] it (fun i h => h.IsListIter it a i) where
  mem := by simp
  obj := fun i h st b hb => by
    have e : b = it := by simpa using hb
    subst e
    obtain ⟨o, e, c, d⟩ := st
    exact ⟨o, e, fun v z => by rw [d] at z; cases z⟩
  keep := fun i h h' st k => st.at fun o e => k it (by simp) o e
  item := by
    intro X hP hw hK hc i pins s σ H E I hf st hg
    subst hP hw hK
    obtain ⟨xs, x, hq, hx⟩ := hg
    obtain ⟨its, rv, p, hz⟩ := I.list hq
    obtain ⟨u, hu, ru⟩ := rv.get hx
    obtain ⟨f0, f1, f2, f3, f4, f5⟩ := hf it (by simp)
    refine wpAny_pyNext_list_item st p.isList (x := u) (by simpa using hu) fun h' st' sb => ?_
    have I1 : Inv X pins σ H { s with heap := h' } := I.turned (t' := s.toks) (fun b o hb e => (sb.2 b hb).trans e) f0 f1 f3 f4 f5
    obtain ⟨o, e, c, d⟩ := id st'
    exact ⟨u, rfl, go_of (s := { s with heap := h' }) e c d (by decide) ⟨x, H, I1, ru, ⟨rfl, fun ys hy => by rw [I.list_inj hy hq]; exact hx⟩, st', fun b hb => (hf b hb).1⟩⟩
  done := by
    intro X hP hw hK hc i pins s σ H E I hf st hg
    subst hP hw hK
    obtain ⟨xs, hq, hx⟩ := hg
    obtain ⟨its, rv, p, hz⟩ := I.list hq
    obtain ⟨f0, f1, f2, f3, f4, f5⟩ := hf it (by simp)
    have hl := rv.length
    exact wpAny_pyNext_list_end (I.ok.hd hc) st p.isList (by simp; lia) fun h' eb => ⟨rfl, I.turned (t' := s.toks) (fun b o hb e => eb b o hb e) f0 f1 f3 f4 f5⟩
  self := fun _ _ _ _ _ st h => wpAny_pyIter_listiter st h
theorem turn_tuple {P : Program} {w : World} {K : PySem.W.Frag} {tg : Expr} (a it : Addr) : Turn P w K tg (Itt K a) [it] it (fun i h => h.IsTupleIter it a i) where
  mem := by simp
  obj := fun i h st b hb => by
    have e : b = it := by simpa using hb
    subst e
    obtain ⟨o, e, c, d⟩ := st
    exact ⟨o, e, fun v z => by rw [d] at z; cases z⟩
  keep := fun i h h' st k => st.at fun o e => k it (by simp) o e
  item := by
    intro X hP hw hK hc i pins s σ H E I hf st hg
    subst hP hw hK
    obtain ⟨xs, x, hq, hx⟩ := hg
    obtain ⟨its, rv, p, hz⟩ := I.tuple hq
    obtain ⟨u, hu, ru⟩ := rv.get hx
    obtain ⟨f0, f1, f2, f3, f4, f5⟩ := hf it (by simp)
    refine wpAny_pyNext_tuple_item st (show s.heap.IsTuple a its.toArray from p) (x := u) (by simpa using hu) fun h' st' sb => ?_
    have I1 : Inv X pins σ H { s with heap := h' } := I.turned (t' := s.toks) (fun b o hb e => (sb.2 b hb).trans e) f0 f1 f3 f4 f5
    obtain ⟨o, e, c, d⟩ := id st'
    exact ⟨u, rfl, go_of (s := { s with heap := h' }) e c d (by decide) ⟨x, H, I1, ru, ⟨rfl, fun ys hy => by rw [I.tuple_inj hy hq]; exact hx⟩, st', fun b hb => (hf b hb).1⟩⟩
  done := by
    intro X hP hw hK hc i pins s σ H E I hf st hg
    subst hP hw hK
    obtain ⟨xs, hq, hx⟩ := hg
    obtain ⟨its, rv, p, hz⟩ := I.tuple hq
    obtain ⟨f0, f1, f2, f3, f4, f5⟩ := hf it (by simp)
    have hl := rv.length
    exact wpAny_pyNext_tuple_end (I.ok.hd hc) st (show s.heap.IsTuple a its.toArray from p) (by simp; lia) fun h' eb => ⟨rfl, I.turned (t' := s.toks) (fun b o hb e => eb b o hb e) f0 f1 f3 f4 f5⟩
  self := fun _ _ _ _ _ st h => wpAny_pyIter_tupleiter st h
theorem turn_range {P : Program} {w : World} {K : PySem.W.Frag} {tg : Expr} (it : Addr) (lo : Int) (n : Nat) : Turn P w K tg (Itr lo n) [it] it (fun i h => IsRangeIter h it (lo + (i : Nat) * 1) ((n : Int) - (i : Nat)) 1) where
  mem := by simp
  obj := fun i h st b hb => by
    have e : b = it := by simpa using hb
    subst e
    exact ⟨_, st, fun v z => by
      have z' : Data.fields _ = Data.cell v := z
      cases z'⟩
  keep := fun i h h' st k => k it (by simp) _ st
  item := by
    intro X hP hw hK hc i pins s σ H E I hf st hg
    subst hP hw hK
    obtain ⟨f0, f1, f2, f3, f4, f5⟩ := hf it (by simp)
    have W := Walks.range (prog := X.prog) (w := X.w) (I.ok.hd hc) it lo 1 n
    refine W.item i s _ _ hg st fun v h' tk hv st' kk => ?_
    obtain ⟨t, rfl⟩ := hv
    have I1 : Inv X pins σ H { s with heap := h', toks := tk } := I.turned (fun b o hb e => kk b o (by simpa using hb) e) f0 f1 f3 f4 f5
    refine ⟨_, rfl, go_of (s := { s with heap := h', toks := tk }) (n := "range_iterator") st' rfl rfl (by decide) ⟨.int (lo + i), H, I1, ⟨t, ?_⟩, ⟨rfl, rfl⟩, st', fun b hb => (hf b hb).1⟩⟩
    rw [Int.mul_one]
  done := by
    intro X hP hw hK hc i pins s σ H E I hf st hg
    subst hP hw hK
    obtain ⟨f0, f1, f2, f3, f4, f5⟩ := hf it (by simp)
    exact wpAny_pyNext_range_end (I.ok.hd hc) st (by have : n ≤ i := hg; lia) fun h' eb => ⟨rfl, I.turned (t' := s.toks) (fun b o hb e => eb b o hb e) f0 f1 f3 f4 f5⟩
  self := fun _ _ _ _ _ st h => wpAny_pyIter_rangeiter st h
end L2
namespace L2
open PySem PySem.Spec PyProof.Rows
section
variable {X : Cx} {tg : Expr}
def iList (K : PySem.W.Frag) (tl : TE) : TI := fun σ H R => tl σ H fun x H1 => ∃ a, x = .ref a ∧ (∃ xs, SqL K H1 a xs) ∧ R (Itl K a) H1
def iTup (K : PySem.W.Frag) (tl : TE) : TI := fun σ H R => tl σ H fun x H1 => ∃ a, x = .ref a ∧ (∃ xs, SqT K H1 a xs) ∧ R (Itt K a) H1
theorem pi_list {l : Expr} {tl : TE} (hl : PE X l tl) : PI X tg l (iList X.K tl) := by
  intro pins s σ H R I h
  refine thn (hl pins s σ H _ I h) fun v s1 ⟨x, H1, I1, r1, q1⟩ => ?_
  obtain ⟨a, e, ⟨xs, hq⟩, q⟩ := q1
  subst e
  cases r1
  obtain ⟨its, rv, p, hz⟩ := I1.list hq
  refine wpAny_pyIter_list p.isList ?_
  refine ⟨s1.heap.objs.size, [s1.heap.objs.size], _, _, H1, rfl, I1.kept (t' := s1.toks) fun b o e => Heap.get?_push_of_some _ e, turn_list a _, ⟨_, Heap.get?_push_size _ rfl, rfl, rfl⟩, fun b hb => ?_, q⟩
  have e : b = s1.heap.objs.size := by simpa using hb
  subst e
  exact I1.fpOk (Nat.le_refl _) (I1.hok.fresh (Nat.le_refl _))
theorem pi_tup {l : Expr} {tl : TE} (hl : PE X l tl) : PI X tg l (iTup X.K tl) := by
  intro pins s σ H R I h
  refine thn (hl pins s σ H _ I h) fun v s1 ⟨x, H1, I1, r1, q1⟩ => ?_
  obtain ⟨a, e, ⟨xs, hq⟩, q⟩ := q1
  subst e
  cases r1
  obtain ⟨its, rv, p, hz⟩ := I1.tuple hq
  refine wpAny_pyIter_tuple (show s1.heap.IsTuple a its.toArray from p) ?_
  refine ⟨s1.heap.objs.size, [s1.heap.objs.size], _, _, H1, rfl, I1.kept (t' := s1.toks) fun b o e => Heap.get?_push_of_some _ e, turn_tuple a _, ⟨_, Heap.get?_push_size _ rfl, rfl, rfl⟩, fun b hb => ?_, q⟩
  have e : b = s1.heap.objs.size := by simpa using hb
  subst e
  exact I1.fpOk (Nat.le_refl _) (I1.hok.fresh (Nat.le_refl _))
theorem range_it {pins : List (Addr × Obj)} {σ : St} {H : Hp} {s : Shared} {R : It → Hp → Prop} {E : Value → Shared → Prop} {lo hi : Int} {t u v : Tok} {tk : Nat} (I : Inv X pins σ H s) (h1 : -(2 ^ 62) ≤ lo) (h2 : lo < 2 ^ 62) (h3 : -(2 ^ 62) ≤ hi) (h4 : hi < 2 ^ 62)
    (q : R (Itr lo (hi - lo).toNat) H) : wpAny (model X.prog X.w) X.A (pyIter (.ref s.heap.objs.size)) (PIE X pins σ tg R) E { s with heap := s.heap.push { cls := .type "range", data := .fields #[.int lo t, .int hi u, .int 1 v] }, toks := tk } := by
  refine wpAny_pyIter_range (IsRange.new ..) (small_one h1 h2 h3 h4) ?_
  have I1 : Inv X pins σ H { s with heap := s.heap.push { cls := .type "range", data := .fields #[.int lo t, .int hi u, .int 1 v] }, toks := tk } := I.kept fun b o e => Heap.get?_push_of_some _ e
  refine ⟨(s.heap.push { cls := .type "range", data := .fields #[.int lo t, .int hi u, .int 1 v] }).objs.size, [(s.heap.push { cls := .type "range", data := .fields #[.int lo t, .int hi u, .int 1 v] }).objs.size], _, _, H, rfl,
    I1.kept (t' := tk) fun b o e => Heap.get?_push_of_some _ e, turn_range _ lo (hi - lo).toNat, ?_, fun b hb => ?_, q⟩
  · have e1 : lo + ((0 : Nat) : Int) * 1 = lo := by simp
    have e2 : (((hi - lo).toNat : Nat) : Int) - ((0 : Nat) : Int) = Builtin.Range.rangeSize lo hi 1 := by rw [rangeSize_one]; split <;> lia
    show IsRangeIter _ _ (lo + ((0 : Nat) : Int) * 1) ((((hi - lo).toNat : Nat) : Int) - ((0 : Nat) : Int)) 1
    rw [e1, e2]
    exact Heap.get?_push_size _ rfl
  · have e : b = (s.heap.push { cls := .type "range", data := .fields #[.int lo t, .int hi u, .int 1 v] }).objs.size := by simpa using hb
    subst e
    exact I1.fpOk (Nat.le_refl _) (I1.hok.fresh (Nat.le_refl _))
def iRng1 (ta : TA) : TI := fun σ H R => ta σ H fun vs H1 => ∃ j : Int, vs = [.int j] ∧ -(2 ^ 62) ≤ j ∧ j < 2 ^ 62 ∧ R (Itr 0 j.toNat) H1
theorem pi_range1 {a : Expr} {ta : TA} {p pos : Pos} (hg : Gl X "range") (hm : X.mg "range" = none) (ha : PA X [a] ta) (hs : starEach [a] X.env = [(false, eval a X.env)] := by rfl) : PI X tg (.Call (.Name "range" p) [a] [] pos) (iRng1 ta) := by
  intro pins s σ H R I h
  refine Call_ (ld_blt I hg hm boot_range (PyProof.Rows.callWith_type1 (thn (ha pos pins s σ H _ I h) fun us s1 ⟨vs, H1, I1, r1, q1⟩ => ?_) hs rfl))
  obtain ⟨j, e, q1, q2, q⟩ := q1
  subst e
  cases r1 with
  | cons r rr =>
    cases rr
    obtain ⟨t, rfl⟩ := r
    exact call_range_1 (range_it I1 (by lia) (by lia) q1 q2 (by simpa using q))
def tFor (wi : TI) (g : TG) (tb : TS) : TS := fun D σ H => wi σ H fun J H1 => ∃ W : Nat → Nat → St → Hp → Prop, (∃ m, W 0 m σ H1) ∧ ∀ i m σ H, W i m σ H →
  (J.stop i H ∧ D.nx σ H) ∨ (J.go i H ∧ ∃ N : St → Hp → Prop, (∀ σ' H', N σ' H' → ∃ m', m' < m ∧ W (i + 1) m' σ' H') ∧ ∀ x H', J.yld i H x H' → g x σ H' fun σ2 H2 => tb { D with nx := N, ct := N, bk := D.nx } σ2 H2)
def pinsAt (fp : List Addr) (h : Heap) : List (Addr × Obj) := fp.filterMap fun b => (h.get? b).map fun o => (b, o)
theorem mem_pinsAt {fp : List Addr} {h : Heap} {b : Addr} {o : Obj} (hb : b ∈ fp) (e : h.get? b = some o) : (b, o) ∈ pinsAt fp h := List.mem_filterMap.mpr ⟨b, hb, by rw [e]; rfl⟩
theorem of_pinsAt {fp : List Addr} {h : Heap} {p : Addr × Obj} (hp : p ∈ pinsAt fp h) : p.1 ∈ fp ∧ h.get? p.1 = some p.2 := by
  obtain ⟨b, hb, e⟩ := List.mem_filterMap.mp hp
  cases q : h.get? b with
  | none => rw [q] at e; cases e
  | some o =>
    rw [q] at e
    have e' : (b, o) = p := Option.some.inj e
    subst e'
    exact ⟨hb, q⟩
theorem Inv.pinned {pins : List (Addr × Obj)} {σ : St} {H : Hp} {s : Shared} {fp : List Addr} (I : Inv X pins σ H s) (hf : ∀ b ∈ fp, FpOk X pins H b) (ho : ∀ b ∈ fp, ∃ o, s.heap.get? b = some o ∧ ∀ v, o.data ≠ .cell v) : Inv X (pins ++ pinsAt fp s.heap) σ H s :=
  I.pins_of fun p hp => (List.mem_append.mp hp).elim (fun z => I.pin p (List.mem_append_right _ z)) fun z => by
    obtain ⟨hb, e⟩ := of_pinsAt z
    obtain ⟨f0, f1, f2, _⟩ := hf p.1 hb
    obtain ⟨o, e', d⟩ := ho p.1 hb
    rw [e] at e'; cases e'
    exact ⟨e, f0, f1, f2, d⟩
theorem Inv.unpinned {pins pl : List (Addr × Obj)} {σ : St} {H : Hp} {s : Shared} (I : Inv X (pins ++ pl) σ H s) : Inv X pins σ H s := I.pins_of fun p hp => I.pin p (List.mem_append_right _ (List.mem_append_left _ hp))
theorem ps_for {iter : Expr} {body : List Stmt} {wi : TI} {g : TG} {tb : TS} {pos : Pos} (hp : PassesOwn (model X.prog X.w) X.A X.env X.xe) (hc : X.calm = true) (hi : PI X tg iter wi) (hg : PG X tg g) (hb : PSs X body tb)
    (hs : ∀ x, foldedSetIterable iter X.env x = pure x := by intro _; rfl) : PS X (.For tg iter body [] pos) (tFor wi g tb) := by
  intro pins s σ H D I h
  refine wpAny_For (thn (hi pins s σ H _ I h) fun v s1 h1 => thn h1 fun itv s2 h2 => ?_) hs
  obtain ⟨it, fp, tn, J, H2, e, I2, T, st2, f2, W, ⟨m0, w0⟩, turn⟩ := h2
  subst e
  have stat : ∀ {H' : Hp}, (∀ b ∈ fp, H' b = none) → ∀ b ∈ fp, FpOk X pins H' b := fun hn b hb => ⟨hn b hb, (f2 b hb).2⟩
  refine codeAny_forLoop_any (fun n s' => ∃ i σ' H', Inv X pins σ' H' s' ∧ tn i s'.heap ∧ (∀ b ∈ fp, H' b = none) ∧ W i n σ' H') ?_ m0 ⟨0, σ, H2, I2, st2, fun b hb => (f2 b hb).1, w0⟩
  rintro n s3 ⟨i, σ3, H3, I3, st3, fr3, w3⟩
  rcases turn i n σ3 H3 w3 with ⟨stop, qn⟩ | ⟨go, N, hN, step⟩
  · refine wpAny_passesOwn hp (thn (T.done X rfl rfl rfl hc i pins s3 σ3 H3 X.xe I3 (stat fr3) st3 stop) fun r s4 ⟨hr, I4⟩ => ?_)
    subst hr
    exact wpAny_execs_nil ⟨σ3, H3, I4, qn⟩
  · refine wpAny_passesOwn hp (thn (T.item X rfl rfl rfl hc i pins s3 σ3 H3 X.xe I3 (stat fr3) st3 go) fun r s4 ⟨u, hr, h4⟩ => ?_)
    subst hr
    refine wpAny_passesOwn hp (thn h4 fun _ s5 ⟨x, H5, I5, r5, y5, st5, fr5⟩ => ?_)
    have I5' := I5.pinned (stat fr5) (T.obj _ _ st5)
    refine wpAny_passesOwn hp (thn (hg _ s5 σ3 H5 x u _ I5' r5 (step x H5 y5)) fun _ s6 ⟨σ6, H6, I6, q6⟩ => ?_)
    refine wpAny_passesOwn hp (thn (hb _ s6 σ6 H6 _ I6 q6) fun f s7 q7 => ?_)
    have again : ∀ {σ7 : St} {H7 : Hp}, Inv X (pins ++ pinsAt fp s5.heap) σ7 H7 s7 → N σ7 H7 → ∃ m, m < n ∧ ∃ i σ' H', Inv X pins σ' H' s7 ∧ tn i s7.heap ∧ (∀ b ∈ fp, H' b = none) ∧ W i m σ' H' := fun {σ7 H7} I7 n7 => by
      obtain ⟨m', hm, w7⟩ := hN σ7 H7 n7
      refine ⟨m', hm, i + 1, σ7, H7, I7.unpinned, T.keep _ _ _ st5 fun b hb o e => (I7.pin (b, o) (List.mem_append_right _ (List.mem_append_right _ (mem_pinsAt hb e)))).1, fun b hb => ?_, w7⟩
      obtain ⟨o, e, d⟩ := T.obj _ _ st5 b hb
      exact (I7.pin (b, o) (List.mem_append_right _ (List.mem_append_right _ (mem_pinsAt hb e)))).2.1
    cases f with
    | next => obtain ⟨σ7, H7, I7, n7⟩ := q7; exact again I7 n7
    | cont => obtain ⟨σ7, H7, I7, n7⟩ := q7; exact again I7 n7
    | brk => obtain ⟨σ7, H7, I7, q7⟩ := q7; exact ⟨σ7, H7, I7.unpinned, q7⟩
    | ret v => obtain ⟨x7, σ7, H7, I7, r7, q7⟩ := q7; exact ⟨x7, σ7, H7, I7.unpinned, r7, q7⟩
end
theorem for_list {K : PySem.W.Frag} {a : Addr} {xs : List V} {g : TG} {tb : TS} {D : Ends} {σ : St} {H : Hp} (Pv : Nat → St → Hp → Prop) (h0 : Pv 0 σ H) (hl : ∀ i σ H, i ≤ xs.length → Pv i σ H → SqL K H a xs)
    (hs : ∀ i x σ H, xs[i]? = some x → Pv i σ H → g x σ H fun σ2 H2 => tb { D with nx := Pv (i + 1), ct := Pv (i + 1), bk := D.nx } σ2 H2) (hd : ∀ σ H, Pv xs.length σ H → D.nx σ H) :
    ∃ W : Nat → Nat → St → Hp → Prop, (∃ m, W 0 m σ H) ∧ ∀ i m σ H, W i m σ H →
      ((Itl K a).stop i H ∧ D.nx σ H) ∨ ((Itl K a).go i H ∧ ∃ N : St → Hp → Prop, (∀ σ' H', N σ' H' → ∃ m', m' < m ∧ W (i + 1) m' σ' H') ∧ ∀ x H', (Itl K a).yld i H x H' → g x σ H' fun σ2 H2 => tb { D with nx := N, ct := N, bk := D.nx } σ2 H2) := by
  refine ⟨fun i m σ H => m = xs.length - i ∧ i ≤ xs.length ∧ Pv i σ H, ⟨xs.length, by simp, Nat.zero_le _, h0⟩, ?_⟩
  rintro i m σ H ⟨rfl, hi, p⟩
  have q := hl i σ H hi p
  by_cases hlt : i < xs.length
  · refine .inr ⟨⟨xs, xs[i], q, by simp [hlt]⟩, Pv (i + 1), fun σ' H' p' => ⟨xs.length - (i + 1), by lia, rfl, hlt, p'⟩, fun x H' y => ?_⟩
    obtain ⟨e, y⟩ := y
    subst e
    exact hs i x σ _ (y xs q) p
  · have e : i = xs.length := by lia
    subst e
    exact .inl ⟨⟨xs, q, Nat.le_refl _⟩, hd σ H p⟩
theorem for_range {lo : Int} {n : Nat} {g : TG} {tb : TS} {D : Ends} {σ : St} {H : Hp} (Pv : Nat → St → Hp → Prop) (h0 : Pv 0 σ H)
    (hs : ∀ i σ H, i < n → Pv i σ H → g (.int (lo + i)) σ H fun σ2 H2 => tb { D with nx := Pv (i + 1), ct := Pv (i + 1), bk := D.nx } σ2 H2) (hd : ∀ σ H, Pv n σ H → D.nx σ H) :
    ∃ W : Nat → Nat → St → Hp → Prop, (∃ m, W 0 m σ H) ∧ ∀ i m σ H, W i m σ H →
      ((Itr lo n).stop i H ∧ D.nx σ H) ∨ ((Itr lo n).go i H ∧ ∃ N : St → Hp → Prop, (∀ σ' H', N σ' H' → ∃ m', m' < m ∧ W (i + 1) m' σ' H') ∧ ∀ x H', (Itr lo n).yld i H x H' → g x σ H' fun σ2 H2 => tb { D with nx := N, ct := N, bk := D.nx } σ2 H2) := by
  refine ⟨fun i m σ H => m = n - i ∧ i ≤ n ∧ Pv i σ H, ⟨n, by simp, Nat.zero_le _, h0⟩, ?_⟩
  rintro i m σ H ⟨rfl, hi, p⟩
  by_cases hlt : i < n
  · refine .inr ⟨hlt, Pv (i + 1), fun σ' H' p' => ⟨n - (i + 1), by lia, rfl, hlt, p'⟩, fun x H' y => ?_⟩
    obtain ⟨e, y⟩ := y
    subst e y
    exact hs i σ _ hlt p
  · have e : i = n := by lia
    subst e
    exact .inl ⟨Nat.le_refl _, hd σ H p⟩
end L2
namespace L2
open PySem PySem.Spec PyProof.Rows
abbrev R2 := V → V → Hp → VK → Prop
def OpR (X : Cx) (f : Value → Value → Sem Value) (r : R2) : Prop :=
  ∀ (pins : List (Addr × Obj)) (s : Shared) (σ : St) (H : Hp) (x y : V) (v u : Value) (Q : VK), Inv X pins σ H s → RelV x v → RelV y u → r x y H Q →
    wpAny (model X.prog X.w) X.A (f v u) (EP X pins σ Q) X.xe s
def UnR (X : Cx) (f : Value → Sem Value) (r : V → Hp → VK → Prop) : Prop :=
  ∀ (pins : List (Addr × Obj)) (s : Shared) (σ : St) (H : Hp) (x : V) (v : Value) (Q : VK), Inv X pins σ H s → RelV x v → r x H Q →
    wpAny (model X.prog X.w) X.A (f v) (EP X pins σ Q) X.xe s
def CallR (X : Cx) (f : Value) (r : List V → Hp → VK → Prop) : Prop :=
  ∀ (pins : List (Addr × Obj)) (s : Shared) (σ : St) (H : Hp) (xs : List V) (us : List Value) (Q : VK), Inv X pins σ H s → Vals xs us → r xs H Q →
    wpAny (model X.prog X.w) X.A (call f us) (EP X pins σ Q) X.xe s
def tOp (r : R2) (ta tb : TE) : TE := fun σ H Q => ta σ H fun x H1 => tb σ H1 fun y H2 => r x y H2 Q
def tUn (r : V → Hp → VK → Prop) (ta : TE) : TE := fun σ H Q => ta σ H fun x H1 => r x H1 Q
def rI (C : Int → Int → Prop) (g : Int → Int → V) : R2 := fun x y H Q => ∃ i j, x = .int i ∧ y = .int j ∧ C i j ∧ Q (g i j) H
def rI0 (g : Int → Int → V) : R2 := fun x y H Q => ∃ i j, x = .int i ∧ y = .int j ∧ Q (g i j) H
def rU (g : Int → V) : V → Hp → VK → Prop := fun x H Q => ∃ i, x = .int i ∧ Q (g i) H
section
variable {X : Cx} {a b c : Expr} {ta tb tc : TE} {pos : Pos}
theorem binT (ha : PE X a ta) (hb : PE X b tb) {pins : List (Addr × Obj)} {s : Shared} {σ : St} {H : Hp} {R : V → V → Hp → Prop} (I : Inv X pins σ H s)
    (h : ta σ H fun x H1 => tb σ H1 fun y H2 => R x y H2) {Q : Value → Shared → Prop} {f : Value → Value → Sem Value}
    (hf : ∀ v u s2 x y H2, Inv X pins σ H2 s2 → RelV x v → RelV y u → R x y H2 → wpAny (model X.prog X.w) X.A (f v u) Q X.xe s2) :
    wpAny (model X.prog X.w) X.A (eval a X.env) (fun v s₁ => wpAny (model X.prog X.w) X.A (eval b X.env) (fun u s₂ => wpAny (model X.prog X.w) X.A (f v u) Q X.xe s₂) X.xe s₁) X.xe s := by
  refine thn (ha pins s σ H _ I h) fun v s1 ⟨x, H1, I1, r1, q1⟩ => ?_
  refine thn (hb pins s1 σ H1 _ I1 q1) fun u s2 ⟨y, H2, I2, r2, q2⟩ => ?_
  exact hf v u s2 x y H2 I2 r1 r2 q2
theorem pe_op {op : Operator} {r : R2} (ho : OpR X (binaryOp op) r) (ha : PE X a ta) (hb : PE X b tb) : PE X (.BinOp a op b pos) (tOp r ta tb) := by
  intro pins s σ H Q I h
  exact wpAny_BinOp (binT ha hb I h fun v u s2 x y H2 I2 rx ry q => ho pins s2 σ H2 x y v u Q I2 rx ry q)
theorem pe_un {op : UnaryOp} {r : V → Hp → VK → Prop} (ho : UnR X (unaryOp op) r) (ha : PE X a ta) : PE X (.UnaryOp op a pos) (tUn r ta) := by
  intro pins s σ H Q I h
  exact UnaryOp_ (thn (ha pins s σ H _ I h) fun v s1 ⟨x, H1, I1, r1, q1⟩ => ho pins s1 σ H1 x v Q I1 r1 q1)
theorem opI {f : Value → Value → Sem Value} {C : Int → Int → Prop} {g : Int → Int → Int}
    (rule : ∀ (i j : Int) (t u : Tok) (s : Shared) (Q : Value → Shared → Prop) (E : Value → Shared → Prop), C i j → Q (.int (g i j) s.toks) { s with toks := s.toks + 1 } → wpAny (model X.prog X.w) X.A (f (.int i t) (.int j u)) Q E s) :
    OpR X f (rI C fun i j => .int (g i j)) := by
  intro pins s σ H x y v u Q I rx ry h
  obtain ⟨i, j, rfl, rfl, hc, q⟩ := h
  obtain ⟨t, rfl⟩ := rx
  obtain ⟨t', rfl⟩ := ry
  exact rule i j t t' s _ _ hc ⟨.int (g i j), H, I.tok _, ⟨_, rfl⟩, q⟩
theorem opI0 {f : Value → Value → Sem Value} {g : Int → Int → Int}
    (rule : ∀ (i j : Int) (t u : Tok) (s : Shared) (Q : Value → Shared → Prop) (E : Value → Shared → Prop), Q (.int (g i j) s.toks) { s with toks := s.toks + 1 } → wpAny (model X.prog X.w) X.A (f (.int i t) (.int j u)) Q E s) :
    OpR X f (rI0 fun i j => .int (g i j)) := by
  intro pins s σ H x y v u Q I rx ry h
  obtain ⟨i, j, rfl, rfl, q⟩ := h
  obtain ⟨t, rfl⟩ := rx
  obtain ⟨t', rfl⟩ := ry
  exact rule i j t t' s _ _ ⟨.int (g i j), H, I.tok _, ⟨_, rfl⟩, q⟩
theorem opB0 {f : Value → Value → Sem Value} {g : Int → Int → Bool}
    (rule : ∀ (i j : Int) (t u : Tok) (s : Shared) (Q : Value → Shared → Prop) (E : Value → Shared → Prop), Q (.bool (g i j)) s → wpAny (model X.prog X.w) X.A (f (.int i t) (.int j u)) Q E s) :
    OpR X f (rI0 fun i j => .bl (g i j)) := by
  intro pins s σ H x y v u Q I rx ry h
  obtain ⟨i, j, rfl, rfl, q⟩ := h
  obtain ⟨t, rfl⟩ := rx
  obtain ⟨t', rfl⟩ := ry
  exact rule i j t t' s _ _ ⟨.bl (g i j), H, I, rfl, q⟩
def CDiv (i j : Int) : Prop := 0 < j ∧ j < 1073741824
def CPow (i j : Int) : Prop := 0 ≤ j ∧ j ≤ 1000000 ∧ i.natAbs < 2 ^ 64
def CMul (i j : Int) : Prop := (-(2 ^ 64) < i ∧ i < 2 ^ 64) ∨ (-(2 ^ 64) < j ∧ j < 2 ^ 64)
theorem CMul.ok {i j : Int} (h : CMul i j) : IntMulOk i j := by
  rcases h with ⟨h1, h2⟩ | ⟨h1, h2⟩
  · exact .of_left (intBits_le_64 h1 h2)
  · exact .of_right (intBits_le_64 h1 h2)
theorem op_add : OpR X (binaryOp .Add) (rI0 fun i j => .int (i + j)) := opI0 fun _ _ _ _ _ _ _ q => add_int q
theorem op_sub : OpR X (binaryOp .Sub) (rI0 fun i j => .int (i - j)) := opI0 fun _ _ _ _ _ _ _ q => sub_int q
theorem op_mul : OpR X (binaryOp .Mult) (rI CMul fun i j => .int (i * j)) := opI fun _ _ _ _ _ _ _ hc q => mul_int q hc.ok
theorem op_fdiv : OpR X (binaryOp .FloorDiv) (rI CDiv fun i j => .int (i / j)) := opI fun i j _ _ _ _ _ hc q => by
  have h1 : (0 : Int) < j := hc.1
  have h2 : j < 1073741824 := hc.2
  exact floordiv_int (by lia) (by rw [Int.fdiv_eq_ediv_of_nonneg i (by lia)]; exact q) (.inl (PyProof.noPylong_small (by lia)))
theorem op_mod : OpR X (binaryOp .Mod) (rI (fun _ j => 0 < j) fun i j => .int (i % j)) := opI fun i j _ _ _ _ _ hc q => by
  have h1 : (0 : Int) < j := hc
  exact mod_int' (by lia) (by rw [Int.fmod_eq_emod_of_nonneg i (by lia)]; exact q)
theorem op_pow : OpR X (binaryOp .Pow) (rI CPow fun i j => .int (i ^ j.toNat)) := opI fun _ _ _ _ _ _ _ hc q => pow_int_small hc.1 hc.2.1 hc.2.2 q
theorem unI {f : Value → Sem Value} {g : Int → Int}
    (rule : ∀ (i : Int) (t : Tok) (s : Shared) (Q : Value → Shared → Prop) (E : Value → Shared → Prop), Q (.int (g i) s.toks) { s with toks := s.toks + 1 } → wpAny (model X.prog X.w) X.A (f (.int i t)) Q E s) :
    UnR X f (rU fun i => .int (g i)) := by
  intro pins s σ H x v Q I rx h
  obtain ⟨i, rfl, q⟩ := h
  obtain ⟨t, rfl⟩ := rx
  exact rule i t s _ _ ⟨.int (g i), H, I.tok _, ⟨_, rfl⟩, q⟩
theorem un_neg : UnR X (unaryOp .USub) (rU fun i => .int (-i)) := unI fun _ _ _ _ _ q => neg_int q
end
def scal : V → V → Bool
  | .non, .non => true | .non, .int _ => true | .int _, .non => true | .non, .bl _ => true | .bl _, .non => true | .non, .str _ => true | .str _, .non => true
  | .int _, .int _ => true | .bl _, .bl _ => true | .str _, .str _ => true | .byt _, .byt _ => true
  | .int _, .str _ => true | .str _, .int _ => true | .bl _, .str _ => true | .str _, .bl _ => true
  | _, _ => false
def rEq : R2 := fun x y H Q => scal x y = true ∧ Q (.bl (decide (x = y))) H
def rNe : R2 := fun x y H Q => scal x y = true ∧ Q (.bl (!decide (x = y))) H
theorem dec_int {i j : Int} : decide (V.int i = V.int j) = (i == j) := by
  rw [Bool.eq_iff_iff]
  simp
theorem dec_bl {i j : Bool} : decide (V.bl i = V.bl j) = (i == j) := by
  rw [Bool.eq_iff_iff]
  simp
theorem dec_str {i j : Str} : decide (V.str i = V.str j) = (i == j) := by
  rw [Bool.eq_iff_iff]
  simp
theorem dec_byt {i j : Array UInt8} : decide (V.byt i = V.byt j) = (i.toList == j.toList) := by
  rw [Bool.eq_iff_iff]
  cases i
  cases j
  simp
section
variable {X : Cx} {a b c : Expr} {ta tb tc : TE} {pos : Pos}
theorem fin_bl {pins : List (Addr × Obj)} {σ : St} {H : Hp} {s : Shared} {Q : VK} {k k' : Bool} (I : Inv X pins σ H s) (q : Q (.bl k) H) (e : k = k') : EP X pins σ Q (.bool k') s := by
  subst e
  exact ⟨.bl k, H, I, rfl, q⟩
theorem op_eq : OpR X (compareOp .Eq) rEq := by
  intro pins s σ H x y v u Q I rx ry h
  obtain ⟨hs, q⟩ := h
  cases x with
  | non =>
    cases rx
    cases y with
    | non => cases ry; exact PySem.EqNone.eq_none_none (fin_bl I q (by simp))
    | bl j => cases ry; exact PySem.EqNone.eq_none_bool (fin_bl I q (by simp))
    | int j => obtain ⟨t', rfl⟩ := ry; exact PySem.EqNone.eq_none_int (fin_bl I q (by simp))
    | str j => obtain ⟨t', rfl⟩ := ry; exact PySem.EqNone.eq_none_str (fin_bl I q (by simp))
    | _ => exact absurd (show false = true from hs) Bool.false_ne_true
  | bl i =>
    cases rx
    cases y with
    | non => cases ry; exact PySem.EqNone.eq_bool_none (fin_bl I q (by simp))
    | bl j => cases ry; exact eq_bool (fin_bl I q dec_bl)
    | str j => obtain ⟨t', rfl⟩ := ry; exact PySem.EqMixed.eq_bool_str (fin_bl I q (by simp))
    | _ => exact absurd (show false = true from hs) Bool.false_ne_true
  | int i =>
    obtain ⟨t, rfl⟩ := rx
    cases y with
    | non => cases ry; exact PySem.EqNone.eq_int_none (fin_bl I q (by simp))
    | int j => obtain ⟨t', rfl⟩ := ry; exact eq_int (fin_bl I q dec_int)
    | str j => obtain ⟨t', rfl⟩ := ry; exact PySem.EqMixed.eq_int_str (fin_bl I q (by simp))
    | _ => exact absurd (show false = true from hs) Bool.false_ne_true
  | str i =>
    obtain ⟨t, rfl⟩ := rx
    cases y with
    | non => cases ry; exact PySem.EqNone.eq_str_none (fin_bl I q (by simp))
    | bl j => cases ry; exact PySem.EqMixed.eq_str_bool (fin_bl I q (by simp))
    | int j => obtain ⟨t', rfl⟩ := ry; exact PySem.EqMixed.eq_str_int (fin_bl I q (by simp))
    | str j => obtain ⟨t', rfl⟩ := ry; exact eq_str (fin_bl I q dec_str)
    | _ => exact absurd (show false = true from hs) Bool.false_ne_true
  | byt i =>
    obtain ⟨t, rfl⟩ := rx
    cases y with
    | byt j => obtain ⟨t', rfl⟩ := ry; exact PySem.W.eq_bytes (fin_bl I q dec_byt)
    | _ => exact absurd (show false = true from hs) Bool.false_ne_true
  | _ => cases y <;> exact absurd (show false = true from hs) Bool.false_ne_true
theorem op_ne : OpR X (compareOp .NotEq) rNe := by
  intro pins s σ H x y v u Q I rx ry h
  obtain ⟨hs, q⟩ := h
  cases x with
  | non =>
    cases rx
    cases y with
    | non => cases ry; exact PySem.EqNone.ne_none_none (fin_bl I q (by simp))
    | bl j => cases ry; exact PySem.EqNone.ne_none_bool (fin_bl I q (by simp))
    | int j => obtain ⟨t', rfl⟩ := ry; exact PySem.EqNone.ne_none_int (fin_bl I q (by simp))
    | str j => obtain ⟨t', rfl⟩ := ry; exact PySem.EqNone.ne_none_str (fin_bl I q (by simp))
    | _ => exact absurd (show false = true from hs) Bool.false_ne_true
  | bl i =>
    cases rx
    cases y with
    | non => cases ry; exact PySem.EqNone.ne_bool_none (fin_bl I q (by simp))
    | bl j => cases ry; exact ne_bool (fin_bl I q (congrArg not dec_bl))
    | str j => obtain ⟨t', rfl⟩ := ry; exact PySem.EqMixed.ne_bool_str (fin_bl I q (by simp))
    | _ => exact absurd (show false = true from hs) Bool.false_ne_true
  | int i =>
    obtain ⟨t, rfl⟩ := rx
    cases y with
    | non => cases ry; exact PySem.EqNone.ne_int_none (fin_bl I q (by simp))
    | int j => obtain ⟨t', rfl⟩ := ry; exact ne_int (fin_bl I q (congrArg not dec_int))
    | str j => obtain ⟨t', rfl⟩ := ry; exact PySem.EqMixed.ne_int_str (fin_bl I q (by simp))
    | _ => exact absurd (show false = true from hs) Bool.false_ne_true
  | str i =>
    obtain ⟨t, rfl⟩ := rx
    cases y with
    | non => cases ry; exact PySem.EqNone.ne_str_none (fin_bl I q (by simp))
    | bl j => cases ry; exact PySem.EqMixed.ne_str_bool (fin_bl I q (by simp))
    | int j => obtain ⟨t', rfl⟩ := ry; exact PySem.EqMixed.ne_str_int (fin_bl I q (by simp))
    | str j => obtain ⟨t', rfl⟩ := ry; exact ne_str (fin_bl I q (congrArg not dec_str))
    | _ => exact absurd (show false = true from hs) Bool.false_ne_true
  | byt i =>
    obtain ⟨t, rfl⟩ := rx
    cases y with
    | byt j => obtain ⟨t', rfl⟩ := ry; exact PySem.W.ne_bytes (fin_bl I q (congrArg not dec_byt))
    | _ => exact absurd (show false = true from hs) Bool.false_ne_true
  | _ => cases y <;> exact absurd (show false = true from hs) Bool.false_ne_true
theorem op_lt : OpR X (compareOp .Lt) (rI0 fun i j => .bl (decide (i < j))) := opB0 fun _ _ _ _ _ _ _ q => lt_int q
theorem op_le : OpR X (compareOp .LtE) (rI0 fun i j => .bl (decide (i ≤ j))) := opB0 fun _ _ _ _ _ _ _ q => le_int q
theorem op_in_str : OpR X (compareOp .In) (fun x y H Q => ∃ i j, x = .str i ∧ y = .str j ∧ Q (.bl (!(Builtin.Str.occurrences j i 0 j.length 1).isEmpty)) H) := by
  intro pins s σ H x y v u Q I rx ry h
  obtain ⟨i, j, rfl, rfl, q⟩ := h
  obtain ⟨t, rfl⟩ := rx
  obtain ⟨t', rfl⟩ := ry
  exact in_str (fin_bl I q rfl)
theorem op_notN : OpR X (compareOp .IsNot) (fun x y H Q => y = .non ∧ Q (.bl (!decide (x = .non))) H) := by
  intro pins s σ H x y v u Q I rx ry h
  obtain ⟨rfl, q⟩ := h
  cases ry
  refine isnot_none_gen (fin_bl I q ?_)
  cases x <;> first
    | (cases rx; rfl)
    | (obtain ⟨t, rfl⟩ := rx; rfl)
theorem nomark (b : Expr) {op : CmpOp} (h : op ≠ .In := by decide) (h2 : op ≠ .NotIn := by decide) : behindInMarks op b = false := by
  have e1 : (op == CmpOp.In) = false := by cases op <;> first | rfl | exact absurd rfl h
  have e2 : (op == CmpOp.NotIn) = false := by cases op <;> first | rfl | exact absurd rfl h2
  cases b <;> simp [behindInMarks, e1, e2]
theorem pe_cmpR {op : CmpOp} {r : R2} (ho : OpR X (compareOp op) r) (ha : PE X a ta) (hb : PE X b tb) (hm : behindInMarks op b = false) : PE X (.Compare a [op] [b] pos) (tOp r ta tb) := by
  intro pins s σ H Q I h
  exact wpAny_Compare1 (binT ha hb I h fun v u s2 x y H2 I2 rx ry q => ho pins s2 σ H2 x y v u Q I2 rx ry q) hm
def tTest (t : TE) : TT := fun σ H Q => t σ H fun x H' => ∃ k, x = .bl k ∧ Q k H'
theorem pt_cmpR {op : CmpOp} {r : R2} (ho : OpR X (compareOp op) r) (ha : PE X a ta) (hb : PE X b tb) (hm : behindInMarks op b = false) : PT X (.Compare a [op] [b] pos) (tTest (tOp r ta tb)) := by
  intro pins s σ H Q I h
  refine wpAny_isTrue_Compare1 (thn (ha pins s σ H _ I h) fun v s1 ⟨x, H1, I1, r1, q1⟩ => thn (hb pins s1 σ H1 _ I1 q1) fun u s2 ⟨y, H2, I2, r2, q2⟩ =>
    thn (ho pins s2 σ H2 x y v u _ I2 r1 r2 q2) fun c s3 ⟨z, H3, I3, r3, k, e, q3⟩ => ?_) hm
  subst e
  cases r3
  exact wpAny_truthy_bool ⟨H3, I3, q3⟩
def tChain (r r' : R2) (ta tb tc : TE) : TE := fun σ H Q => ta σ H fun x H1 => tb σ H1 fun y H2 => r x y H2 fun z H3 => ∃ k, z = .bl k ∧
  (if k = true then tc σ H3 fun w' H4 => r' y w' H4 Q else Q (.bl false) H3)
theorem pt_chain {op op' : CmpOp} {r r' : R2} (ho : OpR X (compareOp op) r) (ho' : OpR X (compareOp op') r') (ha : PE X a ta) (hb : PE X b tb) (hc : PE X c tc)
    (hm : lastMarks [op, op'] [b, c] = false := by with_unfolding_all rfl) : PT X (.Compare a [op, op'] [b, c] pos) (tTest (tChain r r' ta tb tc)) := by
  intro pins s σ H Q I h
  refine isTrue_chain (thn (ha pins s σ H _ I h) fun v s1 ⟨x, H1, I1, r1, q1⟩ => test_link (thn (hb pins s1 σ H1 _ I1 q1) fun u s2 ⟨y, H2, I2, r2, q2⟩ =>
    thn (ho pins s2 σ H2 x y v u _ I2 r1 r2 q2) fun d s3 ⟨z, H3, I3, r3, k, e, q3⟩ => ?_)) hm
  subst e
  cases r3
  refine wpAny_truthy_bool ?_
  cases k with
  | false =>
    obtain ⟨k', e', q'⟩ := q3
    cases e'
    exact ite_ff ⟨H3, I3, q'⟩
  | true =>
    refine ite_tt (test_last (thn (hc pins s3 σ H3 _ I3 q3) fun w' s4 ⟨z', H4, I4, r4, q4⟩ => thn (ho' pins s4 σ H4 y z' u w' _ I4 r2 r4 q4) fun d' s5 ⟨z2, H5, I5, r5, k2, e2, q5⟩ => ?_))
    subst e2
    cases r5
    exact wpAny_truthy_bool ⟨H5, I5, q5⟩
theorem line63 : (sizeLine : Nat) < 2 ^ 63 := by rw [sizeLine_eq]; decide
theorem op_add_str : OpR X (binaryOp .Add) (fun x y H Q => ∃ i j, x = .str i ∧ y = .str j ∧ i.length + j.length ≤ sizeLine ∧ Q (.str (i ++ j)) H) := by
  intro pins s σ H x y v u Q I rx ry h
  obtain ⟨i, j, rfl, rfl, hz, q⟩ := h
  obtain ⟨t, rfl⟩ := rx
  obtain ⟨t', rfl⟩ := ry
  exact add_str (fun t' tk => ⟨.str (i ++ j), H, I.tok _, ⟨_, rfl⟩, q⟩) hz
theorem vals1 {x : V} {us : List Value} (r : Vals [x] us) : ∃ u, us = [u] ∧ RelV x u := by
  cases r with
  | cons r1 r2 => cases r2; exact ⟨_, rfl, r1⟩
theorem vals2 {x y : V} {us : List Value} (r : Vals [x, y] us) : ∃ u w', us = [u, w'] ∧ RelV x u ∧ RelV y w' := by
  cases r with
  | cons r1 r2 =>
    cases r2 with
    | cons r3 r4 => cases r4; exact ⟨_, _, rfl, r1, r3⟩
theorem call_int1 : CallR X (.type "int") (fun xs H Q => (∃ i, xs = [.int i] ∧ Q (.int i) H) ∨ ∃ k, xs = [.bl k] ∧ Q (.int (if k then 1 else 0)) H) := by
  intro pins s σ H xs us Q I r h
  rcases h with ⟨i, rfl, q⟩ | ⟨k, rfl, q⟩
  · obtain ⟨u, rfl, t, rfl⟩ := vals1 r
    exact call_int_int ⟨.int i, H, I, ⟨_, rfl⟩, q⟩
  · obtain ⟨u, rfl, r1⟩ := vals1 r
    cases r1
    exact call_int_bool ⟨.int (if k then 1 else 0), H, I.tok _, ⟨_, rfl⟩, q⟩
def LenV (K : PySem.W.Frag) (x : V) (H : Hp) (n : Nat) : Prop :=
  match x with
  | .str y => y.length ≤ sizeLine ∧ n = y.length
  | .byt y => y.size ≤ sizeLine ∧ n = y.size
  | .ref p => (∃ xs, SqL K H p xs ∧ n = xs.length) ∨ ∃ xs, SqT K H p xs ∧ n = xs.length
  | _ => False
theorem call_len : CallR X (.builtin "len") (fun xs H Q => ∃ x n, xs = [x] ∧ LenV X.K x H n ∧ Q (.int n) H) := by
  intro pins s σ H xs us Q I r h
  obtain ⟨x, n, rfl, e, q⟩ := h
  obtain ⟨u, rfl, rx⟩ := vals1 r
  have hl := line63
  have hs : sizeLine = 16777216 := sizeLine_eq
  cases x with
  | str y =>
    obtain ⟨t, rfl⟩ := rx
    obtain ⟨hy, e'⟩ : y.length ≤ sizeLine ∧ n = y.length := e
    subst e'
    exact len_str (by lia) ⟨.int _, H, I.tok _, ⟨_, rfl⟩, q⟩
  | byt y =>
    obtain ⟨t, rfl⟩ := rx
    obtain ⟨hy, e'⟩ : y.size ≤ sizeLine ∧ n = y.size := e
    subst e'
    exact PySem.W.len_bytes (by lia) ⟨.int _, H, I.tok _, ⟨_, rfl⟩, q⟩
  | ref p =>
    cases rx
    have e' : (∃ xs, SqL X.K H p xs ∧ n = xs.length) ∨ ∃ xs, SqT X.K H p xs ∧ n = xs.length := e
    rcases e' with ⟨xs, hx, e'⟩ | ⟨xs, hx, e'⟩
    · subst e'
      obtain ⟨its, r', pl, hz⟩ := I.list hx
      have hlen := r'.length
      exact Calls.call_len_list pl.isList (by simp only [List.size_toArray]; lia) ⟨.int xs.length, H, I.tok _, ⟨_, by simp only [List.size_toArray]; rw [hlen]⟩, q⟩
    · subst e'
      obtain ⟨its, r', pl, hz⟩ := I.tuple hx
      have hlen := r'.length
      exact len_tuple pl (by simp only [List.size_toArray]; lia) ⟨.int xs.length, H, I.tok _, ⟨_, by simp only [List.size_toArray]; rw [hlen]⟩, q⟩
  | _ => exact (show False from e).elim
end
end L2
namespace L2
open PySem PySem.Spec PyProof.Rows
structure ObjM (h : Heap) (x dx C : Addr) (mA : Str → Option Value) : Prop where
  obj : h.get? x = some (PySem.W.instObj C dx)
  ns : h.Ns1 dx mA
  ne : dx ≠ x
theorem lookIn_ns {h : Heap} {dx : Addr} {mA : Str → Option Value} (n : h.Ns1 dx mA) : ∃ od, h.get? dx = some od ∧ ∀ name, PySem.W.lookIn name od = some (mA name) := by
  obtain ⟨o, es, ep, ho, hd, hk, _, hm⟩ := n
  refine ⟨o, ho, fun name => ?_⟩
  have e := hm name
  unfold nsFind findBy at e
  rw [← Array.find?_toList] at e
  unfold PySem.W.lookIn
  rw [hd]
  dsimp only
  split
  · rename_i y q
    rw [q] at e
    exact congrArg some e
  · rename_i q
    rw [q] at e
    have a : es.toList.any (·.refKey) = false := by
      rw [List.any_eq_false]
      intro y hy
      obtain ⟨z, t, hkey⟩ := hk y (Array.mem_toList_iff.mp hy)
      simp [DictEntry.refKey, hkey]
    have a' : ¬ es.toList.any (·.refKey) = true := by rw [a]; exact Bool.false_ne_true
    rw [if_neg a']
    exact congrArg some e
theorem ObjM.look {h : Heap} {x dx C : Addr} {mA : Str → Option Value} (I : ObjM h x dx C mA) : ∃ od, PySem.W.InstAt h x (PySem.W.instObj C dx) C (some od) ∧ ∀ name, PySem.W.lookIn name od = some (mA name) :=
  let ⟨od, ho, hl⟩ := lookIn_ns I.ns
  ⟨od, ⟨I.obj, rfl, rfl, ho⟩, hl⟩
section
variable {prog : Program} {w : World} {A : Around} {E : Value → Shared → Prop} {s : Shared} {K : PySem.W.Frag} {x dx C f : Addr} {mA : Str → Option Value} {name : Str} {v : Value}
end
section
variable {P : Program} {w : World} {H H' : Hp} {h h' : Heap} {a C dx : Addr} {fs fs' : List (Str × V)}
theorem ins_get (hok : HOk P w H h) (e : H a = some (.ins C dx fs)) : ∃ mA, ObjM h a dx C mA ∧ (∀ f, RelO (fs.lookup f) (mA f)) ∧ PySem.Within mA (fs.map (·.1)) ∧ fs.length ≤ 1000 ∧ H dx = some (.own a) := by
  obtain ⟨d, z, ne, ob, mA, n, r, q⟩ := (show ObjOk P w H h a (.ins C dx fs) from hok a _ e)
  exact ⟨mA, ⟨ob, n, ne⟩, r, q, z, d⟩
end
structure Cls (K : PySem.W.Frag) (C : Addr) : Prop where
  pg : PySem.W.plainGet K C Str.empty = true
  hd : PySem.W.hasDictIn K C = true
  po : PySem.W.plainOver K C = true
  sa : PySem.W.findIn K (.ref C) "__setattr__" = some (some (.builtin "object.__setattr__"))
theorem Cls.get {K : PySem.W.Frag} {C : Addr} (c : Cls K C) (f : Str) : PySem.W.plainGet K C f = true := c.pg
section
variable {X : Cx} {pins : List (Addr × Obj)} {σ : St} {H : Hp} {s : Shared} {a C dx : Addr} {fs : List (Str × V)} {f : Str} {v : V} {A : Around} {E : Value → Shared → Prop}
end
section
variable {X : Cx} {o e value : Expr} {f : Str} {pos pos' tpos : Pos} {ta tv : TE}
end
section
variable {X : Cx} {pins : List (Addr × Obj)} {σ : St} {H : Hp} {s : Shared} {A : Around} {E : Value → Shared → Prop} {Q : Value → Shared → Prop} {c : Value} {b : Bool}
inductive TyOf (K : PySem.W.Frag) (H : Hp) : V → Value → Prop where
  | non : TyOf K H .non (.type "NoneType")
  | bl (x : Bool) : TyOf K H (.bl x) (.type "bool")
  | int (i : Int) : TyOf K H (.int i) (.type "int")
  | str (x : Str) : TyOf K H (.str x) (.type "str")
  | flt (x : UInt64) : TyOf K H (.flt x) (.type "float")
  | lst {a : Addr} {xs : List V} (e : H a = some (.lst xs)) : TyOf K H (.ref a) (.type "list")
  | frz {a : Addr} {o : Obj} {xs : List V} (e : H a = some (.frz o (.lst xs))) : TyOf K H (.ref a) (.type "list")
  | tup {a : Addr} {xs : List V} (e : H a = some (.tup xs)) : TyOf K H (.ref a) (.type "tuple")
  | dK {a : Addr} {kvs : List (Key × V)} (e : H a = some (.dK kvs)) : TyOf K H (.ref a) (.type "dict")
  | dT {a : Addr} {kvs : List (List Key × V)} (e : H a = some (.dT kvs)) : TyOf K H (.ref a) (.type "dict")
  | ins {a C dx : Addr} {fs : List (Str × V)} (e : H a = some (.ins C dx fs)) (cl : Cls K C) (ha : PySem.W.findIn K (.ref C) "__class__" = some (some (.builtin "object.__class__")))
      (hn : PySem.W.specialIn K (.builtin "object.__class__") "__get__" = some (some (.builtin "getset_descriptor.__get__"))) (htk : PySem.W.takesIn K (.builtin "object.__class__") = some true)
      (hm : PySem.W.mroIn K C (.type "object") = some true) : TyOf K H (.ref a) (.ref C)
theorem isinst_ok {x : V} {u t : Value} (I : Inv X pins σ H s) (rx : RelV x u) (ty : TyOf X.K H x t) (e : PySem.W.kitOne X.K t c = some b) (h : ∀ tk, Q (.bool b) { s with toks := tk }) :
    wpAny (model X.prog X.w) A (call (.builtin "isinstance") [u, c]) Q E s := by
  cases ty with
  | non => cases (show u = Value.none from rx); exact PySem.W.kia_one PySem.W.kitx_none I.kIn True.intro e (fun z => nomatch z) h
  | bl y => cases (show u = Value.bool y from rx); exact PySem.W.kia_one PySem.W.kitx_bool I.kIn True.intro e (fun z => nomatch z) h
  | int i => obtain ⟨t, q⟩ := (show ∃ t, u = Value.int i t from rx); cases q; exact PySem.W.kia_one PySem.W.kitx_int I.kIn True.intro e (fun z => nomatch z) h
  | str y => obtain ⟨t, q⟩ := (show ∃ t, u = Value.str y t from rx); cases q; exact PySem.W.kia_one PySem.W.kitx_str I.kIn True.intro e (fun z => nomatch z) h
  | flt y => obtain ⟨t, q⟩ := (show ∃ t, u = Value.float y t from rx); cases q; exact PySem.W.kia_one PySem.W.kitx_float I.kIn True.intro e (fun z => nomatch z) h
  | @lst a xs ea =>
    cases (show u = Value.ref a from rx)
    obtain ⟨_, _, n, _, h1⟩ := (show ObjOk X.prog X.w H s.heap a (.lst xs) from I.hok a _ ea)
    exact PySem.W.kia_one PySem.W.kitx_list I.kIn ⟨_, h1, rfl⟩ e (fun z => nomatch z) h
  | @frz a ob xs ea =>
    cases (show u = Value.ref a from rx)
    obtain ⟨_, _, _, n, _, h1⟩ := (show ObjOk X.prog X.w H s.heap a (.frz ob (.lst xs)) from I.hok a _ ea)
    exact PySem.W.kia_one PySem.W.kitx_list I.kIn ⟨_, h1, rfl⟩ e (fun z => nomatch z) h
  | @tup a xs ea =>
    cases (show u = Value.ref a from rx)
    obtain ⟨_, _, _, p⟩ := (show ObjOk X.prog X.w H s.heap a (.tup xs) from I.hok a _ ea)
    obtain ⟨o, h1, h2, _⟩ := p
    exact PySem.W.kia_one PySem.W.kitx_tuple I.kIn ⟨o, h1, h2⟩ e (fun z => nomatch z) h
  | @dK a kvs ea =>
    cases (show u = Value.ref a from rx)
    obtain ⟨_, _, vs, _, p⟩ := (show ObjOk X.prog X.w H s.heap a (.dK kvs) from I.hok a _ ea)
    obtain ⟨o, es, ep, h1, h2, _⟩ := p
    exact PySem.W.kia_one PySem.W.kitx_dict I.kIn ⟨o, h1, h2.1⟩ e (fun z => nomatch z) h
  | @dT a kvs ea =>
    cases (show u = Value.ref a from rx)
    obtain ⟨_, _, xs, _, o, es, ep, h1, h2, _⟩ := (show ObjOk X.prog X.w H s.heap a (.dT kvs) from I.hok a _ ea)
    exact PySem.W.kia_one PySem.W.kitx_dict I.kIn ⟨o, h1, h2.1⟩ e (fun z => nomatch z) h
  | @ins a C dx fs ea cl ha hn htk hm =>
    cases (show u = Value.ref a from rx)
    obtain ⟨mA, O, _⟩ := ins_get I.hok ea
    obtain ⟨od, J, _⟩ := O.look
    exact PySem.W.kia_one (PySem.W.kitx_own (cl.get _) cl.hd ha hn htk hm) I.kIn J e (fun z => nomatch z) h
end
end L2
namespace L2
open PySem PySem.Spec PyProof.Rows
structure Room (k : Nat) (A : Around) : Prop where
  hd : A.handled = none
  dp : A.depth + 3 * k + 5 < recursionLimit
  un : A.units + 16 * k + 200 < cLine
theorem Room.mono {j k : Nat} {A : Around} (r : Room k A) (h : j ≤ k) : Room j A := ⟨r.hd, by have := r.dp; lia, by have := r.un; lia⟩
theorem Room.deeper {k : Nat} {A : Around} (r : Room (k + 1) A) (env : Env) : Room k (A.deeper env) :=
  ⟨r.hd, by have := r.dp; show A.depth + 1 + 3 * k + 5 < _; lia, by have := r.un; show A.units + 3 + 16 * k + 200 < _; lia⟩
theorem Room.in1 {k : Nat} {A : Around} (r : Room (k + 1) A) : Room k A.in1 :=
  ⟨r.hd, by have := r.dp; show A.depth + 3 * k + 5 < _; lia, by have := r.un; show A.units + 1 + 16 * k + 200 < _; lia⟩
theorem Room.depth {k : Nat} {A : Around} (r : Room k A) : A.depth < recursionLimit := by have := r.dp; lia
theorem Room.units {k : Nat} {A : Around} (r : Room k A) : A.units + 64 < cLine := by have := r.un; lia
def tNil : TA := fun _ H Q => Q [] H
def tCons (ta : TE) (tr : TA) : TA := fun σ H Q => ta σ H fun x H1 => tr σ H1 fun xs H2 => Q (x :: xs) H2
section
variable {X : Cx} {e : Expr} {es : List Expr} {te : TE} {t : TA} {pos : Pos}
theorem pa_nil : PA X [] tNil := fun _ _ _ _ H Q I h => Calls.spliced_nil ⟨[], H, I, .nil, h⟩
theorem pa_cons (ha : PE X e te) (hr : PA X es t) (hs : starEach (e :: es) X.env = (false, eval e X.env) :: starEach es X.env := by rfl) : PA X (e :: es) (tCons te t) := by
  intro pos pins s σ H Q I h
  rw [hs]
  show wpAny _ _ (spliced ((false, eval e X.env) :: backTo pos (starEach es X.env))) _ _ s
  refine Calls.spliced_cons (thn (ha pins s σ H _ I h) fun u s1 ⟨x, H1, I1, r1, q1⟩ => ?_)
  exact thn (hr pos pins s1 σ H1 _ I1 q1) fun us s2 ⟨xs, H2, I2, r2, q2⟩ => ⟨x :: xs, H2, I2, .cons r1 r2, q2⟩
def tTup (t : TA) : TE := fun σ H Q => t σ H fun xs H1 => xs.length ≤ sizeLine ∧ ∀ p, H1 p = none → Q (.ref p) (upd H1 p (.tup xs))
def tLst (t : TA) : TE := fun σ H Q => t σ H fun xs H1 => xs.length ≤ sizeLine ∧ ∀ p, H1 p = none → Q (.ref p) (upd H1 p (.lst xs))
theorem pe_tup {x1} (h : PA X es t) : PE X (.Tuple es x1 pos) (tTup t) := by
  intro pins s σ H Q I hq
  refine wpAny_Tuple_spliced (thn (h pos pins s σ H _ I hq) fun us s1 ⟨xs, H1, I1, r, z, q⟩ => ⟨by rw [← r.length]; exact z, ?_⟩)
  have hf : H1 s1.heap.objs.size = none := I1.hok.fresh (Nat.le_refl _)
  refine ⟨.ref s1.heap.objs.size, upd H1 s1.heap.objs.size (.tup xs), I1.laid (t' := s1.toks) (fun b u e => Heap.get?_push_of_some _ e) (Nat.le_refl _) ?_, rfl, q _ hf⟩
  exact ⟨z, us, r, ⟨_, Heap.get?_push_size _ rfl, rfl, _, rfl⟩⟩
theorem pe_lst (h : PA X es t) : PE X (.List es pos) (tLst t) := by
  intro pins s σ H Q I hq
  refine wpAny_List_spliced (thn (h pos pins s σ H _ I hq) fun us s1 ⟨xs, H1, I1, r, z, q⟩ => ⟨by rw [← r.length]; exact z, ?_⟩)
  have hf : H1 s1.heap.objs.size = none := I1.hok.fresh (Nat.le_refl _)
  refine ⟨.ref s1.heap.objs.size, upd H1 s1.heap.objs.size (.lst xs), I1.laid (t' := s1.toks) (fun b u e => Heap.get?_push_of_some _ e) (Nat.le_refl _) ?_, rfl, q _ hf⟩
  exact ⟨z, us, 0, r, Heap.get?_push_size _ rfl⟩
end
abbrev Sp := List V → Hp → VK → XK → Prop
abbrev CXT := List Env → Hp → Shared → XK → Value → Shared → Prop
structure Env0 (P : Program) (w : World) (K : PySem.W.Frag) (mg : Str → Option Value) (base : Heap) (A : Around) (outer : List Env) (s : Shared) (H : Hp) : Prop where
  frames : A.frames = some outer
  mod : Mod K mg base
  bs : ∀ b o, base.get? b = some o → s.heap.get? b = some o ∧ H b = none
  bsz : base.objs.size ≤ s.heap.objs.size
  funs : s.heap.FunFrames base outer
  frf : ∀ b ∈ frs outer, H b = none
  hok : HOk P w H s.heap
  bare : AllBare s.gens
def CE (outer : List Env) (P : Program) (w : World) (H : Hp) (s : Shared) (Q : VK) (u : Value) (s' : Shared) : Prop :=
  ∃ v H', s'.os = s.os ∧ AllBare s'.gens ∧ Un (frs outer) [] H H' s.heap s'.heap ∧ HOk P w H' s'.heap ∧ RelV v u ∧ Q v H'
def CR (CX : CXT) (outer : List Env) (P : Program) (w : World) (H : Hp) (s : Shared) (Q : VK) (E : XK) (r : Result) (s' : Shared) : Prop :=
  match r with
  | .ok (.ret u) => CE outer P w H s Q u s'
  | .ok _ => False
  | .error e => CX outer H s E e s'
structure FnOk (P : Program) (w : World) (K : PySem.W.Frag) (mg : Str → Option Value) (base : Heap) (CX : CXT) (k : Nat) (f : Addr) (fd : FuncData) (ps : List Str) (sp : Sp) : Prop where
  len : ∀ vs H Q E, sp vs H Q E → vs.length = ps.length
  run : ∀ (A : Around) (outer : List Env) (s : Shared) (H : Hp) (args : Args) (us : List Value) (vs : List V) (Q : VK) (E : XK), Room k A → Env0 P w K mg base A outer s H → BindsTo s fd args (ps.zip us) → Vals vs us → sp vs H Q E →
    codeAny (model P w) A (.call (.ref f) args) (CR CX outer P w H s Q E) s
theorem Env0.in1 {P : Program} {w : World} {K : PySem.W.Frag} {mg : Str → Option Value} {base : Heap} {A : Around} {outer : List Env} {s : Shared} {H : Hp} (e : Env0 P w K mg base A outer s H) :
    Env0 P w K mg base A.in1 outer s H := ⟨e.frames, e.mod, e.bs, e.bsz, e.funs, e.frf, e.hok, e.bare⟩
section
variable {X : Cx} {pins : List (Addr × Obj)} {σ : St} {H : Hp} {s s' : Shared}
theorem Inv.env0 (I : Inv X pins σ H s) : Env0 X.prog X.w X.K X.mg X.base X.A X.stack s H :=
  ⟨I.ok.frames, I.ok.mod, I.bs, Nat.le_trans I.ok.bsz I.sz, I.stack, I.stkFree, I.hok, I.bare⟩
theorem Inv.after {Q : VK} {u : Value} (I : Inv X pins σ H s) (h : CE X.stack X.prog X.w H s Q u s') : EP X pins σ Q u s' := by
  obtain ⟨v, H', os, bare, un, hok, r, q⟩ := h
  obtain ⟨hh, g, d, t, os'⟩ := s'
  obtain rfl : os' = s.os := os
  exact ⟨v, H', I.call (h' := hh) (g' := g) (d' := d) (t' := t) (ch := []) un hok bare (fun b z => absurd z (by simp)), r, q⟩
end
def tCall (sp : Sp) (dvs : List V) (E : XK) (t : TA) : TE := fun σ H Q => t σ H fun vs H1 => sp (vs ++ dvs) H1 Q E
def Binds (K : PySem.W.Frag) (fd : FuncData) (ps : List Str) (ds : List Value) : Prop :=
  ∀ (s : Shared) (us : List Value), K.In s.heap → (us ++ ds).length = ps.length → BindsTo s fd ⟨us, []⟩ (ps.zip (us ++ ds))
theorem Binds.all {K : PySem.W.Frag} {fd : FuncData} {ps : List Str} (h : ∀ us : List Value, us.length = ps.length → bindArgs fd ⟨us, []⟩ = pure (ps.zip us)) : Binds K fd ps [] := fun s us _ hl => by
  rw [List.append_nil] at hl ⊢
  exact .of_eq (h us hl)
def Passes (CX : CXT) (X : Cx) (E : XK) : Prop := ∀ (pins : List (Addr × Obj)) (σ : St) (H : Hp) (s : Shared) (e : Value) (s' : Shared), Inv X pins σ H s → CX X.stack H s E e s' → X.xe e s'
section
variable {X : Cx} {CX : CXT} {k : Nat} {f C : Addr} {fd : FuncData} {ps : List Str} {sp : Sp} {dvs : List V} {ds : List Value} {E : XK} {x m : Str} {p pos apos : Pos} {e o : Expr} {es : List Expr} {ta : TE} {t : TA}
theorem run_fn {pins : List (Addr × Obj)} {σ : St} {H : Hp} {s : Shared} {Q : VK} {us : List Value} {vs : List V} (F : FnOk X.prog X.w X.K X.mg X.base CX k f fd ps sp) (hr : Room k X.A) (hb : Binds X.K fd ps ds) (hd : Vals dvs ds) (hx : Passes CX X E)
    (I : Inv X pins σ H s) (r : Vals vs us) (h : sp (vs ++ dvs) H Q E) : wpAny (model X.prog X.w) X.A (call (.ref f) us) (EP X pins σ Q) X.xe s := by
  have r2 : Vals (vs ++ dvs) (us ++ ds) := r.append hd
  have hl : (us ++ ds).length = ps.length := by rw [← r2.length]; exact F.len _ _ _ _ h
  refine wpAny_call (codeAny_mono (F.run X.A X.stack s H ⟨us, []⟩ (us ++ ds) (vs ++ dvs) Q E hr I.env0 (hb s us I.kIn hl) r2 h) fun r s' hq => ?_)
  cases r with
  | error e => exact hx pins σ H s e s' I hq
  | ok fl =>
    cases fl with
    | ret u => exact I.after hq
    | next => exact False.elim hq
    | brk => exact False.elim hq
    | cont => exact False.elim hq
theorem pe_call (F : FnOk X.prog X.w X.K X.mg X.base CX k f fd ps sp) (hr : Room k X.A) (hg : Gl X x) (hm : X.mg x = some (.ref f)) (hk : PySem.W.keepIn X.K (.ref f) = true) (hb : Binds X.K fd ps ds) (hd : Vals dvs ds) (hx : Passes CX X E)
    (ha : PA X (e :: es) t) (hdb : (x == ("__debug__" : Str)) = false := by decide) (he : starEach (e :: es) X.env = (false, eval e X.env) :: starEach es X.env := by rfl) (hpl : (backTo pos (starEach es X.env)).any (·.1) = false := by rfl) :
    PE X (.Call (.Name x p) (e :: es) [] pos) (tCall sp dvs E t) := by
  intro pins s σ H Q I h
  refine wpAny_Call_Name_kw (ld_glob I hg hm ?_ hdb)
  refine PySem.W.callWith_K (h₀ := X.base) I.ok.mod.kin hk (thn (ha pos pins s σ H _ I h) fun us s1 ⟨vs, H1, I1, r, q⟩ => ⟨I1.kIn, ?_⟩) he hpl
  exact run_fn F hr hb hd hx I1 r q
end
def PK (X : Cx) (kws : List Keyword) (t : TA) : Prop :=
  ∀ (pos : Pos) (pins : List (Addr × Obj)) (s : Shared) (σ : St) (H : Hp) (Q : List V → Hp → Prop), Inv X pins σ H s → t σ H Q → wpAny (model X.prog X.w) X.A (evalAll ((backToKw pos (keywordEach kws X.env)).map (·.2))) (AP X pins σ Q) X.xe s
section
variable {X : Cx} {CX : CXT} {k : Nat} {f C : Addr} {fd : FuncData} {ps ks : List Str} {sp : Sp} {E : XK} {x m : Str} {p pos apos kpos : Pos} {e o : Expr} {es : List Expr} {kws : List Keyword} {te ta : TE} {t tk : TA} {nm : Option Str}
theorem pk_nil : PK X [] tNil := fun _ _ _ _ H Q I h => wpAny_evalAll_nil ⟨[], H, I, .nil, h⟩
theorem pk_cons (ha : PE X e te) (hr : PK X kws t) : PK X (⟨nm, e, kpos⟩ :: kws) (tCons te t) := by
  intro pos pins s σ H Q I h
  show wpAny _ _ (evalAll ((do let v ← eval e X.env; standAt pos; pure v) :: (backToKw pos (keywordEach kws X.env)).map (·.2))) _ _ s
  refine wpAny_evalAll_cons (wpAny_bind (thn (ha pins s σ H _ I h) fun u s1 ⟨x, H1, I1, r1, q1⟩ => wpAny_bind (wpAny_standAt (wpAny_pure ?_))))
  exact thn (hr pos pins s1 σ H1 _ I1 q1) fun us s2 ⟨xs, H2, I2, r2, q2⟩ => ⟨x :: xs, H2, I2, .cons r1 r2, q2⟩
variable {g : List Value → List Value → List Value} {gV : List V → List V → List V}
end
structure FnScope (N P : List Str) (sc : Scope) : Prop where
  kind : sc.kind = .function
  co : sc.isCoroutine = false
  gen : sc.isGenerator = false
  nd : N.Nodup
  pre : N.take P.length = P
  par : ∀ x ∈ P, sc.names.lookup x = some .local ∨ sc.names.lookup x = some .cell
  nofree : ∀ y ∈ sc.names, y.2 ≠ .free
theorem bindL_out {kindOf : Str → Option NameKind} {x : Str} : ∀ {binds : List (Str × Value)} {m : Str → Option Value}, (∀ v, (x, v) ∉ binds) → bindL kindOf binds m x = m x
  | [], _, _ => rfl
  | (n, v) :: r, m, h => by
    unfold bindL
    rw [bindL_out fun w hw => h w (List.mem_cons_of_mem _ hw)]
    split
    · have : x ≠ n := by rintro rfl; exact h v List.mem_cons_self
      simp [this]
    · rfl
theorem bindC_out {kindOf : Str → Option NameKind} {x : Str} : ∀ {binds : List (Str × Value)} {m : Str → Option Value}, (∀ v, (x, v) ∉ binds) → bindC kindOf binds m x = m x
  | [], _, _ => rfl
  | (n, v) :: r, m, h => by
    unfold bindC
    rw [bindC_out fun w hw => h w (List.mem_cons_of_mem _ hw)]
    split
    · rfl
    · have : x ≠ n := by rintro rfl; exact h v List.mem_cons_self
      simp [this]
theorem bindL_get {kindOf : Str → Option NameKind} {x : Str} {v : Value} : ∀ {P : List Str} {vs : List Value} {i : Nat} {m : Str → Option Value}, P.Nodup → P[i]? = some x → vs[i]? = some v → kindOf x = some .local →
    bindL kindOf (P.zip vs) m x = some v
  | [], _, _, _, _, h, _, _ => by simp at h
  | _ :: _, [], _, _, _, _, h, _ => by simp at h
  | p :: P, w :: vs, 0, m, nd, h1, h2, hk => by
    simp at h1 h2; subst h1; subst h2
    show bindL kindOf ((p, w) :: P.zip vs) m p = _
    unfold bindL
    rw [bindL_out fun v hv => (List.nodup_cons.mp nd).1 (List.of_mem_zip hv).1, if_pos hk]
    simp
  | p :: P, w :: vs, i + 1, m, nd, h1, h2, hk => by
    show bindL kindOf ((p, w) :: P.zip vs) m x = _
    unfold bindL
    exact bindL_get (i := i) (List.nodup_cons.mp nd).2 (by simpa using h1) (by simpa using h2) hk
theorem bindC_get {kindOf : Str → Option NameKind} {x : Str} {v : Value} : ∀ {P : List Str} {vs : List Value} {i : Nat} {m : Str → Option Value}, P.Nodup → P[i]? = some x → vs[i]? = some v → kindOf x ≠ some .local →
    bindC kindOf (P.zip vs) m x = some v
  | [], _, _, _, _, h, _, _ => by simp at h
  | _ :: _, [], _, _, _, _, h, _ => by simp at h
  | p :: P, w :: vs, 0, m, nd, h1, h2, hk => by
    simp at h1 h2; subst h1; subst h2
    show bindC kindOf ((p, w) :: P.zip vs) m p = _
    unfold bindC
    rw [bindC_out fun v hv => (List.nodup_cons.mp nd).1 (List.of_mem_zip hv).1, if_neg hk]
    simp
  | p :: P, w :: vs, i + 1, m, nd, h1, h2, hk => by
    show bindC kindOf ((p, w) :: P.zip vs) m x = _
    unfold bindC
    exact bindC_get (i := i) (List.nodup_cons.mp nd).2 (by simpa using h1) (by simpa using h2) hk
def start (N : List Str) (vs : List V) : St := vs.map some ++ List.replicate (N.length - vs.length) none
def cxOf (CX : CXT) (P : Program) (w : World) (K : PySem.W.Frag) (mg : Str → Option Value) (base : Heap) (N : List Str) (qual : Str) (scope : Scope) (f : Addr) (cd : Value) (A : Around) (outer : List Env) (s : Shared) (H : Hp) (E : XK) : Cx where
  prog := P
  w := w
  K := K
  mg := mg
  base := base
  A := A.deeper (envOfC qual scope s.heap.objs.size f cd)
  N := N
  s₀ := s
  H₀ := H
  env := envOfC qual scope s.heap.objs.size f cd
  outer := outer
  stack := envOfC qual scope s.heap.objs.size f cd :: outer
  ex := []
  calm := true
  fn := fun _ => true
  pn := []
  xe := fun e s' => wpAny (model P w) (A.deeper (envOfC qual scope s.heap.objs.size f cd)) (leaving (envOfC qual scope s.heap.objs.size f cd) e) (fun _ s'' => CX outer H s E e s'') (fun e' s'' => CX outer H s E e' s'') s'
theorem cell_has {sc : Scope} {n : Nat} {x : Str} (h : sc.names.lookup x = some .cell) : ∃ c, (cellsFrom n sc.names []).lookup x = some c := by
  have q := PySem.W.cellsFrom_some sc.names n [] (.inl h)
  exact Option.isSome_iff_exists.mp q
theorem inv_start {CX : CXT} {P : Program} {w : World} {K : PySem.W.Frag} {mg : Str → Option Value} {base : Heap} {N ps : List Str} {qual : Str} {scope : Scope} {f : Addr} {cd : Value} {A : Around} {outer : List Env} {s s1 : Shared} {H : Hp} {E : XK} {us : List Value} {vs : List V}
    (S : FnScope N ps scope) (hd : A.handled = none) (e0 : Env0 P w K mg base A outer s H) (hl : vs.length = ps.length) (r : Vals vs us)
    (x : InCallC s s.heap.objs.size (bindL (envOfC qual scope s.heap.objs.size f cd).kindOf (ps.zip us) fun _ => none) (cellsFrom (s.heap.objs.size + 1) scope.names []) (bindC (envOfC qual scope s.heap.objs.size f cd).kindOf (ps.zip us) fun _ => none) s1) :
    Inv (cxOf CX P w K mg base N qual scope f cd A outer s H E) [] (start N vs) H s1 := by
  have hpl : ps.length ≤ N.length := by have := congrArg List.length S.pre; rw [List.length_take] at this; lia
  obtain ⟨h1, tk, rfl, hk⟩ := x.done
  have noA : ∀ b : Addr, b ∉ (cxOf CX P w K mg base N qual scope f cd A outer s H E).ex := fun b z => absurd (show b ∈ ([] : List Addr) from z) (by simp)
  refine ⟨⟨e0.mod, S.kind, rfl, rfl, Nat.le_refl _, fun y z c h1 h2 => ?_, fun y hy => ?_, fun y c _ h => ?_, fun _ => hd, Around.frames_deeper e0.frames, .inr ⟨rfl, rfl⟩, fun b z => absurd z (noA b), e0.bs, e0.bsz, fun b _ _ => noA b, fun b z => absurd z (noA b), e0.funs, e0.frf⟩,
    rfl, e0.bare, Un.kept hk, ⟨_, x.toInCall.ns, fun i y v h1 h2 h3 => ?_⟩, fun y c h => ⟨_, x.cell y c h⟩, e0.hok.fresh (Nat.le_refl _), fun y c h => ?_, fun p hp => absurd (show p ∈ ([] : List (Addr × Obj)) from hp) (by simp), e0.hok.kept hk, ?_⟩
  · exact name_of_addr x.apart (PySem.mem_of_lookup h1) (PySem.mem_of_lookup h2)
  · have hy : scope.names.lookup y = some .cell ∨ scope.names.lookup y = some .free := hy
    rcases hy with hy | hy
    · exact cell_has hy
    · exact absurd rfl (S.nofree _ (PySem.mem_of_lookup hy))
  · exact Nat.le_of_lt (x.above y c (PySem.mem_of_lookup h))
  · have hi : i < vs.length := by
      unfold start at h2
      by_cases hi : i < vs.length
      · exact hi
      · rw [List.getElem?_append_right (by simpa using hi)] at h2
        rw [List.getElem?_replicate] at h2
        split at h2 <;> cases h2
    have ha : vs[i]? = some v := by
      unfold start at h2
      rw [List.getElem?_append_left (by simpa using hi), List.getElem?_map] at h2
      cases e : vs[i]? with
      | none => rw [e] at h2; cases h2
      | some a => rw [e] at h2; cases h2; rfl
    obtain ⟨u, hu, rv⟩ := r.get ha
    have hp : ps[i]? = some y := by
      rw [← S.pre, List.getElem?_take_of_lt (by lia)]; exact h1
    have ndP : ps.Nodup := by rw [← S.pre]; exact S.nd.sublist (List.take_sublist _ _)
    refine ⟨u, rv, ?_⟩
    rcases S.par y (List.mem_of_getElem? hp) with k | k
    · exact .inl ⟨k, bindL_get ndP hp hu k⟩
    · obtain ⟨c, e⟩ := cell_has (n := s.heap.objs.size + 1) k
      refine .inr ⟨.inl k, c, e, ?_⟩
      have q := x.cell y c e
      rw [bindC_get ndP hp hu (by show scope.names.lookup y ≠ _; rw [k]; decide)] at q
      exact q
  · exact e0.hok.fresh (Nat.le_of_lt (x.above y c (PySem.mem_of_lookup h)))
  · unfold start
    show _ = N.length
    rw [List.length_append, List.length_map, List.length_replicate]
    lia
theorem fn_of {CX : CXT} {P : Program} {w : World} {K : PySem.W.Frag} {mg : Str → Option Value} {base : Heap} {k : Nat} {f : Addr} {name qual : Str} {params : Arguments} {body : List Stmt} {scope : Scope} {dV kV doc pm cdv ct oc : Value} {an od : Option Addr}
    {osl : Array (Option Value)} {N ps : List Str} {sp : Sp} (lk : K.lookup f = some ⟨oc, od, .func (PySem.W.fnOf name qual params body scope dV kV doc pm an cdv ct), osl⟩) (hcd : PySem.W.codeIn K cdv qual = true) (S : FnScope N ps scope)
    (len : ∀ vs H Q E, sp vs H Q E → vs.length = ps.length)
    (hbody : ∀ (A : Around) (outer : List Env) (s : Shared) (H : Hp) (vs : List V) (Q : VK) (E : XK), Room k (A.deeper (envOfC qual scope s.heap.objs.size f cdv)) → sp vs H Q E →
      ∃ t, PSs (cxOf CX P w K mg base N qual scope f cdv A outer s H E) body t ∧ t { nx := fun _ H' => Q .non H', rt := Q } (start N vs) H) :
    FnOk P w K mg base CX (k + 1) f (PySem.W.fnOf name qual params body scope dV kV doc pm an cdv ct) ps sp := by
  refine ⟨len, fun A outer s H args us vs Q E hr e0 hb r hsp => ?_⟩
  have hl := len _ _ _ _ hsp
  have KX : K.In s.heap := e0.mod.kin.keeps fun b o e => (e0.bs b o e).1
  have lim : s.heap.NoLimit := e0.mod.nolimit.keeps fun b o e => (e0.bs b o e).1
  have hkind : ∀ y ∈ ps.zip us, scope.names.lookup y.1 = some .local ∨ (scope.names.lookup y.1 = some .cell ∧ ((cellsFrom (s.heap.objs.size + 1) scope.names []).lookup y.1).isSome = true) := fun ⟨n, v⟩ hy => by
    rcases S.par n (List.of_mem_zip hy).1 with q | q
    · exact .inl q
    · exact .inr ⟨q, PySem.W.cellsFrom_some _ _ _ (.inl q)⟩
  refine codeAny_call_function hr.depth (KX _ _ lk) rfl S.co S.gen rfl (PySem.W.codeRec_of KX hcd) (hb _ _ _ _ ?_)
  refine wpAny_newFunctionEnv_cells S.kind hkind fun env he s1 x => ?_
  subst he
  refine ⟨lim.keeps x.toInCall.keep, codeAny_func ?_⟩
  obtain ⟨t, ht, hq⟩ := hbody A outer s H vs Q E (hr.deeper _) hsp
  have I : Inv (cxOf CX P w K mg base N qual scope f cdv A outer s H E) [] (start N vs) H s1 := inv_start S hr.hd e0 hl r x
  refine wpAny_mono (ht [] s1 (start N vs) H _ I hq) (fun fl s' hs => ?_) fun e s' hs => hs
  have fin : ∀ {σ' : St} {H' : Hp} {v : V} {u : Value}, Inv (cxOf CX P w K mg base N qual scope f cdv A outer s H E) [] σ' H' s' → RelV v u → Q v H' → CE outer P w H s Q u s' :=
    fun {σ' H' v u} J rv q => ⟨v, H', J.os, J.bare, J.base, J.hok, rv, q⟩
  cases fl with
  | ret u =>
    obtain ⟨v, σ', H', J, rv, q⟩ := hs
    exact fin J rv q
  | next =>
    obtain ⟨σ', H', J, q⟩ := hs
    exact fin (v := V.non) (u := Value.none) J rfl q
  | brk =>
    obtain ⟨_, _, _, q⟩ := hs
    exact False.elim q
  | cont =>
    obtain ⟨_, _, _, q⟩ := hs
    exact False.elim q
end L2
namespace L2
open PySem PySem.Spec PyProof.Rows
section
variable {X : Cx} {x : Str} {p pos : Pos} {e : Expr} {es : List Expr} {t : TA} {id T : String} {r : List V → Hp → VK → Prop}
def tCB (r : List V → Hp → VK → Prop) (t : TA) : TE := fun σ H Q => t σ H fun vs H1 => r vs H1 Q
theorem pe_callB (hc : CallR X (.builtin id) r) (hg : Gl X x) (hm : X.mg x = none) (hv : bootBuiltins x = some (.builtin id)) (ha : PA X (e :: es) t) (hn : x ≠ "__name__" := by decide) (hdb : (x == ("__debug__" : Str)) = false := by decide)
    (he : starEach (e :: es) X.env = (false, eval e X.env) :: starEach es X.env := by rfl) (hpl : (backTo pos (starEach es X.env)).any (·.1) = false := by rfl) : PE X (.Call (.Name x p) (e :: es) [] pos) (tCB r t) := by
  intro pins s σ H Q I h
  refine wpAny_Call_Name_kw (ld_blt I hg hm hv ?_ hn hdb)
  exact PyProof.Rows.callWith_builtin1 (thn (ha pos pins s σ H _ I h) fun us s1 ⟨vs, H1, I1, r1, q1⟩ => hc pins s1 σ H1 vs us Q I1 r1 q1) he hpl
theorem pe_callTy (hc : CallR X (.type T) r) (hg : Gl X x) (hm : X.mg x = none) (hv : bootBuiltins x = some (.type T)) (ha : PA X (e :: es) t) (hn : x ≠ "__name__" := by decide) (hdb : (x == ("__debug__" : Str)) = false := by decide)
    (he : starEach (e :: es) X.env = (false, eval e X.env) :: starEach es X.env := by rfl) (hpl : (backTo pos (starEach es X.env)).any (·.1) = false := by rfl) : PE X (.Call (.Name x p) (e :: es) [] pos) (tCB r t) := by
  intro pins s σ H Q I h
  refine wpAny_Call_Name_kw (ld_blt I hg hm hv ?_ hn hdb)
  exact PyProof.Rows.callWith_type1 (thn (ha pos pins s σ H _ I h) fun us s1 ⟨vs, H1, I1, r1, q1⟩ => hc pins s1 σ H1 vs us Q I1 r1 q1) he hpl
end
end L2
namespace HT
open PySem PyProof.Rows
section
open PySem.SeqAt
open PySem.AutoSeq1 (wpAny_loadPart')
open PySem.MeetsSeq PySem.MeetsSeq2 PySem.MeetsSeq3
end
section
variable {prog : Program} {w : World} {A : Around} {E : Value → Shared → Prop} {s : Shared}
theorem cat_tup {t b : Addr} {vs ws : List Value} {Q : Value → Shared → Prop} (ht : IsTup s.heap t vs.toArray) (hb : IsTup s.heap b ws.toArray) (hv : vs ≠ [])
    (h1 : ws = [] → Q (.ref t) s) (h2 : ws ≠ [] → Q (.ref s.heap.objs.size) { s with heap := s.heap.push { cls := .type "tuple", data := .seq (vs ++ ws).toArray } })
    (hsz : vs.length + ws.length ≤ sizeLine) : wpAny (model prog w) A (binaryOp .Add (.ref t) (.ref b)) Q E s := by
  obtain ⟨⟨cls, dd, data, sl⟩, ho, hc, n, hd⟩ := id ht
  obtain ⟨⟨cls2, dd2, data2, sl2⟩, ho2, hc2, n2, hd2⟩ := id hb
  simp only at hc hd hc2 hd2
  subst hc hd hc2 hd2
  have e : vs.toArray ++ ws.toArray = (vs ++ ws).toArray := by simp
  by_cases hw : ws = []
  · exact concat_meets ⟨_, ho, rfl⟩ ⟨_, ho2, rfl⟩ noFill_tuple_add seq_tuple_add PySem.F.slot_tuple_add PySem.F.entry_tuple_add (PySem.F.args_tuple_add_2 _ _)
      (tuple_addW1 t b vs.toArray ws.toArray n n2 dd dd2 sl sl2 (by simpa using hv) (by simp [hw])) ⟨ho, ho2, h1 hw⟩
  · refine concat_meets ⟨_, ho, rfl⟩ ⟨_, ho2, rfl⟩ noFill_tuple_add seq_tuple_add PySem.F.slot_tuple_add PySem.F.entry_tuple_add (PySem.F.args_tuple_add_2 _ _)
      (tuple_addW2 t b vs.toArray ws.toArray n n2 dd dd2 sl sl2 (by simpa using hv) (by simpa using hw) (by rw [List.size_toArray, List.size_toArray]; exact hsz)) ⟨ho, ho2, ?_⟩
    rw [e]
    exact h2 hw
def sIx (n d : Nat) : Option Int → Nat
  | none => d
  | some v => if v < 0 then (v + (n : Int)).toNat else min v.toNat n
theorem sIx_none (n d : Nat) : sIx n d none = d := rfl
theorem sIx_nat (n d k : Nat) : sIx n d (some (k : Int)) = min k n := by
  show (if (k : Int) < 0 then ((k : Int) + (n : Int)).toNat else min (k : Int).toNat n) = min k n
  rw [if_neg (by lia), Int.toNat_natCast]
theorem sIx_le (n d : Nat) (hd : d ≤ n) (o : Option Int) : sIx n d o ≤ n := by
  cases o with
  | none => exact hd
  | some v =>
    show (if v < 0 then (v + (n : Int)).toNat else min v.toNat n) ≤ n
    by_cases hv : v < 0
    · rw [if_pos hv]; lia
    · rw [if_neg hv]; exact Nat.min_le_right _ _
theorem clip_eq (v : Int) (n d : Nat) : (if v < 0 then max (v + (n : Int)) 0 else min v (n : Int)) = ((sIx n d (some v) : Nat) : Int) := by
  show (if v < 0 then max (v + (n : Int)) 0 else min v (n : Int)) = (((if v < 0 then (v + (n : Int)).toNat else min v.toNat n) : Nat) : Int)
  by_cases hv : v < 0
  · simp only [if_pos hv]; lia
  · simp only [if_neg hv]; lia
theorem adjust_gen (lo hi : Option Int) (n : Nat) : Builtin.Slice.sliceAdjust lo hi 1 (n : Int) = (((sIx n 0 lo : Nat) : Int), ((sIx n n hi : Nat) : Int)) := by
  have h1 : ¬ ((1 : Int) < 0) := by lia
  unfold Builtin.Slice.sliceAdjust
  simp only [h1, if_false]
  refine Prod.ext ?_ ?_
  · cases lo with
    | none => rfl
    | some v => exact clip_eq v n 0
  · cases hi with
    | none => rfl
    | some v => exact clip_eq v n n
theorem places_gen (i j : Nat) : Builtin.Slice.slicePlaces (i : Int) (j : Int) 1 = j - i := by
  unfold Builtin.Slice.slicePlaces
  have h1 : (1 : Int) > 0 := by lia
  simp only [h1, if_true, Int.ediv_one]
  split <;> lia
theorem slicePart_ {v : Value} {o : Option Int} {Q : Option Int → Shared → Prop} (p : IsPart v o) (h : Q o s) : wpAny (model prog w) A (Builtin.Slice.slicePartIndex v) Q E s := by
  cases p with
  | none => exact slicePart_none h
  | int i t => exact slicePart_int h
theorem sliceApplied_gen {sl : Addr} {vl vu : Value} {lo hi : Option Int} {n : Nat} {Q : Int × Int × Nat → Shared → Prop} (hs : s.heap.IsSliceOf sl vl vu .none) (pl : IsPart vl lo) (pu : IsPart vu hi)
    (h : Q (((sIx n 0 lo : Nat) : Int), 1, sIx n n hi - sIx n 0 lo) s) : wpAny (model prog w) A (Builtin.Slice.sliceApplied (.ref sl) (pure (n : Int))) Q E s := by
  obtain ⟨os, hos, hcs, hds⟩ := id hs
  unfold Builtin.Slice.sliceApplied Builtin.Slice.sliceFields
  refine wpAny_bind (wpAny_bind (wpAny_field hos hds (x := vl) rfl (wpAny_bind (wpAny_field hos hds (x := vu) rfl (wpAny_bind (wpAny_field hos hds (x := .none) rfl (wpAny_pure ?_)))))))
  refine wpAny_bind (slicePart_none ?_)
  show wpAny _ _ (if ((1 : Int) == 0) = true then _ else _) _ _ s
  rw [if_neg (by decide)]
  refine wpAny_bind (slicePart_ pl (wpAny_bind (slicePart_ pu (wpAny_bind (wpAny_pure ?_)))))
  show wpAny _ _ (match Builtin.Slice.sliceAdjust lo hi 1 (n : Int) with | (lo, hi) => pure (lo, (1 : Int), Builtin.Slice.slicePlaces lo hi 1)) _ _ s
  rw [adjust_gen lo hi n]
  show wpAny _ _ (pure (((sIx n 0 lo : Nat) : Int), (1 : Int), Builtin.Slice.slicePlaces ((sIx n 0 lo : Nat) : Int) ((sIx n n hi : Nat) : Int) 1)) _ _ s
  rw [places_gen]
  exact wpAny_pure h
theorem pick_gen (xs : Array Value) (i k : Nat) : ((List.range k).filterMap fun (m : Nat) => xs[((i : Int) + (m : Int) * 1).toNat]?).toArray = ((xs.toList.drop i).take k).toArray := by
  have e : (fun (m : Nat) => xs[((i : Int) + (m : Int) * 1).toNat]?) = fun m => xs[i + m]? := by
    funext m
    have : ((i : Int) + (m : Int) * 1).toNat = i + m := by lia
    rw [this]
  rw [e]
  have := pick_run xs i k
  rw [List.filterMap_map] at this
  have e2 : ((fun x => xs[x]?) ∘ fun x => i + x) = fun m => xs[i + m]? := rfl
  rw [e2] at this
  rw [this]
theorem getItem_tuple_cut {t sl : Addr} {items : Array Value} {vl vu : Value} {lo hi : Option Int} {Q : Value → Shared → Prop} (ht : IsTup s.heap t items) (hs : s.heap.IsSliceOf sl vl vu .none) (pl : IsPart vl lo) (pu : IsPart vu hi)
    (hw : ¬ (sIx items.size 0 lo = 0 ∧ sIx items.size items.size hi = items.size))
    (h : Q (.ref s.heap.objs.size) { s with heap := s.heap.push { cls := .type "tuple", data := .seq ((items.toList.drop (sIx items.size 0 lo)).take (sIx items.size items.size hi - sIx items.size 0 lo)).toArray } })
    (hsz : items.size ≤ sizeLine) : wpAny (model prog w) A (getItem (.ref t) (.ref sl)) Q E s := by
  have htake : sizeOk (.seq ((items.toList.drop (sIx items.size 0 lo)).take (sIx items.size items.size hi - sIx items.size 0 lo)).toArray) := by
    show ((items.toList.drop (sIx items.size 0 lo)).take (sIx items.size items.size hi - sIx items.size 0 lo)).toArray.size ≤ sizeLine
    rw [List.size_toArray, List.length_take, List.length_drop, Array.length_toList]
    lia
  have hj : sIx items.size items.size hi ≤ items.size := sIx_le _ _ (Nat.le_refl _) hi
  obtain ⟨os, hos, hcs, hds⟩ := id hs
  have hTs : s.TypeIs (.ref sl) "slice" := ⟨os, hos, hcs⟩
  unfold getItem
  try with_reducible refine wpAny_holding ?_
  first | refine wpAny_bind (wpAny_pure ?_) | skip
  refine wpAny_bind (wpAny_sequenceKey ht.typeIs (by decide) ?_)
  refine wpAny_bind (wpAny_callSpecial?_slot (name := Str.ofString "__getitem__") ht.typeIs PyProof.Rows.slot_tuple_getitem
    (wpAny_call_entry PyProof.Rows.slot_tuple_getitem ht.typeIs entry_tuple_getitem ?_ (args_tuple_getitem _ _)))
  show wpAny _ _ (Builtin.Tuple.tupleItemsOf (.ref t) >>= _) _ _ s
  refine wpAny_bind (tupleItemsOf_ ht ?_)
  refine wpAny_bind (wpAny_typeOf hTs ?_)
  rw [if_pos (by decide)]
  refine wpAny_bind (sliceApplied_gen hs pl pu ?_)
  have hno : ¬ ((((sIx items.size 0 lo : Nat) : Int) == 0 && (1 : Int) == 1 && (sIx items.size items.size hi - sIx items.size 0 lo) == items.size) = true) := by
    intro q
    rw [Bool.and_eq_true, Bool.and_eq_true] at q
    have q1 : ((sIx items.size 0 lo : Nat) : Int) = 0 := eq_of_beq q.1.1
    have q2 : sIx items.size items.size hi - sIx items.size 0 lo = items.size := eq_of_beq q.2
    exact hw ⟨by lia, by lia⟩
  show wpAny _ _ (if (((sIx items.size 0 lo : Nat) : Int) == 0 && (1 : Int) == 1 && (sIx items.size items.size hi - sIx items.size 0 lo) == items.size) = true then _ else _) _ _ s
  rw [if_neg hno, pick_gen]
  first
    | exact wpAny_bind (m := Builtin.Tuple.tupleExact _) (wpAny_newObj_type (wpAny_pure ⟨_, rfl, wpAny_pure h⟩) htake)
    | exact wpAny_bind (m := Builtin.Tuple.tupleExact _) (wpAny_newObj_type (wpAny_bind (wpAny_pure (wpAny_pure ⟨_, rfl, wpAny_pure h⟩))) htake)
    | exact wpAny_bind (wpAny_bind (m := Builtin.Tuple.tupleExact _) (wpAny_newObj_type (wpAny_pure (wpAny_pure ⟨_, rfl, wpAny_pure h⟩)) htake))
    | exact wpAny_bind (wpAny_bind (m := Builtin.Tuple.tupleExact _) (wpAny_newObj_type (wpAny_pure ⟨_, rfl, wpAny_pure h⟩) htake))
end
end HT
namespace L2
open PySem PySem.Spec PyProof.Rows
abbrev TO := St → Hp → (Option Int → Hp → Prop) → Prop
def PO (X : Cx) (e : Option Expr) (t : TO) : Prop :=
  ∀ (pins : List (Addr × Obj)) (s : Shared) (σ : St) (H : Hp) (Q : Option Int → Hp → Prop), Inv X pins σ H s → t σ H Q →
    wpAny (model X.prog X.w) X.A (evalPart e X.env) (fun u s' => ∃ o H', Inv X pins σ H' s' ∧ IsPart u o ∧ Q o H') X.xe s
def tNoPart : TO := fun _ H Q => Q none H
def tPart (t : TE) : TO := fun σ H Q => t σ H fun x H1 => ∃ i, x = .int i ∧ Q (some i) H1
section
variable {X : Cx} {e : Expr} {te : TE} {lo hi : Option Expr} {tl th : TO} {pos p2 : Pos}
theorem po_none : PO X none tNoPart := by
  intro pins s σ H Q I h
  rw [evalPart_none]
  exact wpAny_pure ⟨none, H, I, .none, h⟩
theorem po_some (h : PE X e te) : PO X (some e) (tPart te) := by
  intro pins s σ H Q I hw
  rw [evalPart_some]
  refine thn (h pins s σ H _ I hw) fun u s1 ⟨x, H1, I1, r1, q1⟩ => ?_
  obtain ⟨i, rfl, q⟩ := q1
  obtain ⟨t, rfl⟩ := r1
  exact ⟨some i, H1, I1, .int i t, q⟩
def SlR (X : Cx) (r : V → Option Int → Option Int → Hp → VK → Prop) : Prop :=
  ∀ (pins : List (Addr × Obj)) (s : Shared) (σ : St) (H : Hp) (x : V) (v vl vu : Value) (lo hi : Option Int) (sl : Addr) (Q : VK), Inv X pins σ H s → RelV x v → s.heap.IsSliceOf sl vl vu .none → IsPart vl lo → IsPart vu hi → r x lo hi H Q →
    ∃ T id, typeLookup (.type T) "__getitem__" = pure (some (.builtin id)) ∧ s.TypeIs v T ∧ wpAny (model X.prog X.w) X.A (getItem v (.ref sl)) (EP X pins σ Q) X.xe s
def tSl (r : V → Option Int → Option Int → Hp → VK → Prop) (te : TE) (tl th : TO) : TE := fun σ H Q => te σ H fun x H1 => tl σ H1 fun l H2 => th σ H2 fun u H3 => r x l u H3 Q
theorem pe_slice {r : V → Option Int → Option Int → Hp → VK → Prop} (hr : SlR X r) (he : PE X e te) (hl : PO X lo tl) (hu : PO X hi th) : PE X (.Subscript e (.Slice lo hi none p2) pos) (tSl r te tl th) := by
  intro pins s σ H Q I h
  refine Subscript_ (thn (he pins s σ H _ I h) fun v s1 ⟨x, H1, I1, r1, q1⟩ => ?_)
  refine wpAny_Slice (thn (hl pins s1 σ H1 _ I1 q1) fun vl s2 ⟨l, H2, I2, pl, q2⟩ => thn (hu pins s2 σ H2 _ I2 q2) fun vu s3 ⟨u, H3, I3, pu, q3⟩ => ?_)
  rw [evalPart_none]
  refine wpAny_pure ?_
  have I4 : Inv X pins σ H3 { s3 with heap := s3.heap.push { cls := .type "slice", data := .fields #[vl, vu, .none] } } := I3.kept (t' := s3.toks) fun b ob q => Heap.get?_push_of_some _ q
  obtain ⟨T, id, hT, ht, hg⟩ := hr pins { s3 with heap := s3.heap.push { cls := .type "slice", data := .fields #[vl, vu, .none] } } σ H3 x v vl vu l u s3.heap.objs.size Q I4 r1 (Heap.IsSliceOf.new ..) pl pu q3
  show wpAny (model X.prog X.w) X.A (subscriptTail e (.Slice lo hi none p2) v (.ref s3.heap.objs.size)) (EP X pins σ Q) X.xe { s3 with heap := s3.heap.push { cls := .type "slice", data := .fields #[vl, vu, .none] } }
  exact tail_any (ops := [.ref s3.heap.objs.size, v]) ht hT hg (by with_unfolding_all rfl)
def cutV (xs : List V) (lo hi : Option Int) : List V := (xs.drop (HT.sIx xs.length 0 lo)).take (HT.sIx xs.length xs.length hi - HT.sIx xs.length 0 lo)
theorem cutV_length (xs : List V) (lo hi : Option Int) : (cutV xs lo hi).length ≤ xs.length := by
  unfold cutV
  rw [List.length_take, List.length_drop]
  lia
def rSlT (K : PySem.W.Frag) : V → Option Int → Option Int → Hp → VK → Prop := fun x lo hi H Q => ∃ a xs, x = .ref a ∧ SqT K H a xs ∧
  ¬ (HT.sIx xs.length 0 lo = 0 ∧ HT.sIx xs.length xs.length hi = xs.length) ∧ ∀ p, H p = none → Q (.ref p) (upd H p (.tup (cutV xs lo hi)))
theorem sl_tup : SlR X (rSlT X.K) := by
  intro pins s σ H x v vl vu lo hi sl Q I rx hs pl pu h
  obtain ⟨a, xs, rfl, hx, hw, q⟩ := h
  cases rx
  obtain ⟨its, r, ht, hz⟩ := I.tuple hx
  have hlen : its.toArray.size = xs.length := by rw [List.size_toArray]; exact r.length.symm
  refine ⟨"tuple", _, PyProof.Rows.slot_tuple_getitem.lookup, ht.typeIs, ?_⟩
  refine HT.getItem_tuple_cut ht hs pl pu (by rw [hlen]; exact hw) ?_ (by rw [hlen]; exact hz)
  rw [hlen]
  refine ⟨.ref s.heap.objs.size, _, I.laid (t' := s.toks) (o := .tup (cutV xs lo hi)) (fun b ob q => Heap.get?_push_of_some _ q) (Nat.le_refl _) ?_, rfl, q _ (I.hok.fresh (Nat.le_refl _))⟩
  exact ⟨Nat.le_trans (cutV_length xs lo hi) hz, _, (r.drop (HT.sIx xs.length 0 lo)).take (HT.sIx xs.length xs.length hi - HT.sIx xs.length 0 lo), IsTup.new _ _⟩
def rCatT (K : PySem.W.Frag) : R2 := fun x y H Q => ∃ a b xs ys, x = .ref a ∧ y = .ref b ∧ SqT K H a xs ∧ SqT K H b ys ∧ xs ≠ [] ∧ xs.length + ys.length ≤ sizeLine ∧
  (ys = [] → Q (.ref a) H) ∧ (ys ≠ [] → ∀ p, H p = none → Q (.ref p) (upd H p (.tup (xs ++ ys))))
theorem Vals.nil_iff {xs : List V} {us : List Value} (r : Vals xs us) : us = [] ↔ xs = [] := by
  cases r with
  | nil => simp
  | cons _ _ => simp
theorem op_catT : OpR X (binaryOp .Add) (rCatT X.K) := by
  intro pins s σ H x y v u Q I rx ry h
  obtain ⟨a, b, xs, ys, rfl, rfl, ha, hb, hx, hz, q1, q2⟩ := h
  cases rx
  cases ry
  obtain ⟨its, r1, p1, _⟩ := I.tuple ha
  obtain ⟨its2, r2, p2, _⟩ := I.tuple hb
  refine HT.cat_tup p1 p2 (fun z => hx (r1.nil_iff.mp z)) (fun z => ⟨.ref a, H, I, rfl, q1 (r2.nil_iff.mp z)⟩) (fun z => ?_) (by rw [← r1.length, ← r2.length]; exact hz)
  refine ⟨.ref s.heap.objs.size, _, I.laid (t' := s.toks) (o := .tup (xs ++ ys)) (fun b ob q => Heap.get?_push_of_some _ q) (Nat.le_refl _) ?_, rfl, q2 (fun w => z (r2.nil_iff.mpr w)) _ (I.hok.fresh (Nat.le_refl _))⟩
  exact ⟨by rw [List.length_append]; exact hz, _, r1.append r2, IsTup.new _ _⟩
end
end L2
namespace L2
open PySem PySem.Spec PyProof.Rows
def ixN (n : Nat) (i : Int) : Option Nat := if 0 ≤ i then (if i < n then some i.toNat else none) else if -(n : Int) ≤ i then some (i + n).toNat else none
def atI {α : Type} (xs : List α) (i : Int) : Option α := (ixN xs.length i).bind fun j => xs[j]?
theorem ixN_seq {n : Nat} {i : Int} {j : Nat} (h : ixN n i = some j) : seqIndex? i n = some j ∧ j < n ∧ -(n : Int) ≤ i ∧ i < n := by
  unfold ixN at h
  by_cases h0 : 0 ≤ i
  · rw [if_pos h0] at h
    by_cases h1 : i < n
    · rw [if_pos h1] at h
      have e : i.toNat = j := Option.some.inj h
      exact ⟨by rw [seqIndex_of h0 h1, e], by lia, by lia, h1⟩
    · rw [if_neg h1] at h; cases h
  · rw [if_neg h0] at h
    by_cases h1 : -(n : Int) ≤ i
    · rw [if_pos h1] at h
      have e : (i + n).toNat = j := Option.some.inj h
      exact ⟨by rw [seqIndex_neg (by lia) h1, e], by lia, h1, by lia⟩
    · rw [if_neg h1] at h; cases h
theorem atI_get {α : Type} {xs : List α} {i : Int} {v : α} (h : atI xs i = some v) : ∃ j, seqIndex? i xs.length = some j ∧ xs[j]? = some v ∧ j < xs.length ∧ -(xs.length : Int) ≤ i ∧ i < xs.length := by
  unfold atI at h
  cases e : ixN xs.length i with
  | none => rw [e] at h; cases h
  | some j =>
    rw [e] at h
    obtain ⟨h1, h2, h3, h4⟩ := ixN_seq e
    exact ⟨j, h1, h, h2, h3, h4⟩
theorem atI_nat {α : Type} {xs : List α} {j : Nat} {v : α} (h : xs[j]? = some v) : atI xs (j : Int) = some v := by
  have hj : j < xs.length := (List.getElem?_eq_some_iff.mp h).1
  have e : ixN xs.length (j : Int) = some j := by
    unfold ixN
    rw [if_pos (by lia), if_pos (by lia)]; simp
  unfold atI; rw [e]; exact h
def PlainIx (b : Expr) : Prop := ∀ o i, subscripted b false o i = operate [o, i] (getItem o i)
def IxR (X : Cx) (r : R2) : Prop :=
  ∀ (value slice : Expr) (pins : List (Addr × Obj)) (s : Shared) (σ : St) (H : Hp) (x y : V) (v u : Value) (Q : VK), Inv X pins σ H s → RelV x v → RelV y u → r x y H Q →
    subscripted slice false v u = operate [v, u] (getItem v u) → wpAny (model X.prog X.w) X.A (subscriptTail value slice v u) (EP X pins σ Q) X.xe s
def MtR (X : Cx) (id : String) (r : V → List V → Hp → VK → Prop) : Prop :=
  ∀ (pins : List (Addr × Obj)) (s : Shared) (σ : St) (H : Hp) (x : V) (xs : List V) (v : Value) (us : List Value) (Q : VK), Inv X pins σ H s → RelV x v → Vals xs us → r x xs H Q →
    wpAny (model X.prog X.w) X.A (call (.builtin id) (v :: us)) (EP X pins σ Q) X.xe s
section
variable {X : Cx} {a b : Expr} {ta tb : TE} {pos : Pos}
theorem pe_ix {r : R2} (hr : IxR X r) (ha : PE X a ta) (hb : PE X b tb) (hs : PlainIx b) : PE X (.Subscript a b pos) (tOp r ta tb) := by
  intro pins s σ H Q I h
  exact Subscript_ (binT ha hb I h fun v u s2 x y H2 I2 rx ry q => hr a b pins s2 σ H2 x y v u Q I2 rx ry q (hs _ _))
def rIxL (K : PySem.W.Frag) : R2 := fun x y H Q => ∃ p xs i v, x = .ref p ∧ y = .int i ∧ SqL K H p xs ∧ atI xs i = some v ∧ Q v H
def rIxT (K : PySem.W.Frag) : R2 := fun x y H Q => ∃ p xs i v, x = .ref p ∧ y = .int i ∧ SqT K H p xs ∧ atI xs i = some v ∧ Q v H
def rIxS : R2 := fun x y H Q => ∃ z i c, x = .str z ∧ y = .int i ∧ z.length ≤ sizeLine ∧ atI z.cps.toList i = some c ∧ Q (.str ⟨#[c]⟩) H
theorem ix_list : IxR X (rIxL X.K) := by
  intro value slice pins s σ H x y v u Q I rx ry h hs
  obtain ⟨p, xs, i, z, rfl, rfl, hq, he, q⟩ := h
  cases rx
  obtain ⟨t, rfl⟩ := ry
  obtain ⟨its, r, pl, hz⟩ := I.list hq
  obtain ⟨j, h1, h2, h3, h4, h5⟩ := atI_get he
  obtain ⟨w, ew, rw'⟩ := r.get h2
  have hl := r.length
  have hn := line63
  have fin : EP X pins σ Q w s := ⟨z, H, I, rw', q⟩
  by_cases h0 : 0 ≤ i
  · have hj : i.toNat = j := by
      rw [seqIndex_of h0 h5] at h1
      exact Option.some.inj h1
    exact item_listR pl.isList h0 (by lia) (by rw [hj]; simpa using ew) fin hs
  · have hj : (i + (its.toArray.size : Int)).toNat = j := by
      rw [seqIndex_neg (by lia) h4] at h1
      rw [List.size_toArray, ← hl]
      exact Option.some.inj h1
    exact subscriptTail_builtinR (x := w) pl.isList.typeIs slot_list_getitem.lookup
      (wpAny_getItem_list_neg (Q := fun r s' => r = w ∧ EP X pins σ Q r s') pl.isList (by lia) (by rw [List.size_toArray] <;> lia) (by lia) (by rw [hj]; simpa using ew) ⟨rfl, fin⟩) hs
theorem ix_tup : IxR X (rIxT X.K) := by
  intro value slice pins s σ H x y v u Q I rx ry h hs
  obtain ⟨p, xs, i, z, rfl, rfl, hq, he, q⟩ := h
  cases rx
  obtain ⟨t, rfl⟩ := ry
  obtain ⟨its, r, pl, hz⟩ := I.tuple hq
  obtain ⟨j, h1, h2, h3, h4, h5⟩ := atI_get he
  obtain ⟨w, ew, rw'⟩ := r.get h2
  have hl := r.length
  have hn := line63
  have fin : EP X pins σ Q w s := ⟨z, H, I, rw', q⟩
  exact subscriptTail_builtinR (x := w) pl.typeIs slot_tuple_getitem.lookup
    (getItem_tuple (j := j) (Q := fun r s' => r = w ∧ EP X pins σ Q r s') pl (by lia) (by lia) (by rw [List.size_toArray, ← hl]; exact h1) (by simpa using ew) ⟨rfl, fin⟩) hs
theorem ix_str : IxR X rIxS := by
  intro value slice pins s σ H x y v u Q I rx ry h hs
  obtain ⟨z, i, c, rfl, rfl, hz, he, q⟩ := h
  obtain ⟨t, rfl⟩ := rx
  obtain ⟨t', rfl⟩ := ry
  obtain ⟨j, h1, h2, h3, h4, h5⟩ := atI_get he
  have hl : z.cps.toList.length = z.length := by simp [Str.length]
  rw [hl] at h1 h4 h5
  have hn := line63
  exact tail_any (typeIs_str s z t) slot_str_getitem.lookup (getItem_str (c := c) (by
    have e1 : decide (i < -(2 ^ 63 : Int)) = false := decide_eq_false (by lia)
    have e2 : decide (i ≥ 2 ^ 63) = false := decide_eq_false (by lia)
    rw [e1, e2, Bool.or_false]) (by rw [h1]; simpa using h2) ⟨.str ⟨#[c]⟩, H, I.tok _, ⟨_, rfl⟩, q⟩) hs
theorem slice_bounds (lo hi : Option Int) (n : Nat) : (sliceBounds lo hi none n).1 = ((HT.sIx n 0 lo : Nat) : Int) ∧ (sliceBounds lo hi none n).2.1 = ((HT.sIx n n hi : Nat) : Int) ∧ (sliceBounds lo hi none n).2.2 = 1 := by
  refine ⟨?_, ?_, rfl⟩
  · cases lo with
    | none => simp [sliceBounds, HT.sIx]
    | some i =>
      simp only [sliceBounds, HT.sIx, Option.getD_none, show (1 : Int) > 0 by decide, if_true]
      by_cases h : i < 0
      · simp only [h, if_true] <;> lia
      · simp only [h, if_false] <;> lia
  · cases hi with
    | none => simp [sliceBounds, HT.sIx]
    | some i =>
      simp only [sliceBounds, HT.sIx, Option.getD_none, show (1 : Int) > 0 by decide, if_true]
      by_cases h : i < 0
      · simp only [h, if_true] <;> lia
      · simp only [h, if_false] <;> lia
theorem slicePick_cut (its : List Value) (lo hi : Option Int) : slicePick its.toArray lo hi none = ((its.drop (HT.sIx its.length 0 lo)).take (HT.sIx its.length its.length hi - HT.sIx its.length 0 lo)).toArray := by
  obtain ⟨h1, h2, h3⟩ := slice_bounds lo hi its.toArray.size
  unfold slicePick
  rw [h1, h2, h3]
  simp only [sliceRange_one, pick_run, List.size_toArray] <;> rfl
def rSlL (K : PySem.W.Frag) : V → Option Int → Option Int → Hp → VK → Prop := fun x lo hi H Q => ∃ a xs, x = .ref a ∧ SqL K H a xs ∧ ∀ p, H p = none → Q (.ref p) (upd H p (.lst (cutV xs lo hi)))
theorem sl_list : SlR X (rSlL X.K) := by
  intro pins s σ H x v vl vu lo hi sl Q I rx hs pl pu h
  obtain ⟨a, xs, rfl, hx, q⟩ := h
  cases rx
  obtain ⟨its, r, ht, hz⟩ := I.list hx
  have hlen := r.length
  refine ⟨"list", _, slot_list_getitem.lookup, ht.isList.typeIs, ?_⟩
  refine wpAny_getItem_list_slice ht.isList hs pl pu .none (by simp) ?_ (by rw [List.size_toArray] <;> lia)
  rw [slicePick_cut, ← hlen]
  refine ⟨.ref s.heap.objs.size, _, I.laid (t' := s.toks) (o := .lst (cutV xs lo hi)) (fun b ob q => Heap.get?_push_of_some _ q) (Nat.le_refl _) ?_, rfl, q _ (I.hok.fresh (Nat.le_refl _))⟩
  exact ⟨Nat.le_trans (cutV_length xs lo hi) hz, _, 0, (r.drop (HT.sIx xs.length 0 lo)).take (HT.sIx xs.length xs.length hi - HT.sIx xs.length 0 lo), Heap.get?_push_size _ rfl⟩
theorem call_list_of : CallR X (.type "list") (fun xs H Q => ∃ p ys, xs = [.ref p] ∧ (SqL X.K H p ys ∨ SqT X.K H p ys) ∧ ∀ l, H l = none → Q (.ref l) (upd H l (.lst ys))) := by
  intro pins s σ H xs us Q I r h
  obtain ⟨p, ys, rfl, hq, q⟩ := h
  obtain ⟨u, rfl, rx⟩ := vals1 r
  cases rx
  have fin : ∀ (its : List Value), Vals ys its → ys.length ≤ sizeLine → ∀ (h' : Heap) (c' : Nat), (∀ b o', s.heap.get? b = some o' → h'.get? b = some o') →
      h'.get? s.heap.objs.size = some { cls := .type "list", dict := none, data := .seq its.toArray c', slots := #[] } → EP X pins σ Q (.ref s.heap.objs.size) { s with heap := h' } := fun its r' hz h' c' kp e =>
    ⟨.ref s.heap.objs.size, _, I.laid (t' := s.toks) kp (Nat.le_refl _) (show ObjOk X.prog X.w _ h' _ (.lst ys) from ⟨hz, its, c', r', e⟩), rfl, q _ (I.hok.fresh (Nat.le_refl _))⟩
  rcases hq with hq | hq
  · obtain ⟨its, r', pl, hz⟩ := I.list hq
    have hlen := r'.length
    obtain ⟨o, ho, hc, n, hd⟩ := pl.isList
    exact call_list_seq p (.inl rfl) ho hc hd (fun h' c' kp e => fin its r' hz h' c' kp e) (by simp only [List.size_toArray] <;> lia)
  · obtain ⟨its, r', pl, hz⟩ := I.tuple hq
    have hlen := r'.length
    obtain ⟨o, ho, hc, n, hd⟩ := pl
    exact call_list_seq p (.inr rfl) ho hc hd (fun h' c' kp e => fin its r' hz h' c' kp e) (by simp only [List.size_toArray] <;> lia)
theorem call_tuple_of : CallR X (.type "tuple") (fun xs H Q => ∃ p ys, xs = [.ref p] ∧ ((SqL X.K H p ys ∧ ∀ l, H l = none → Q (.ref l) (upd H l (.tup ys))) ∨ (SqT X.K H p ys ∧ Q (.ref p) H))) := by
  intro pins s σ H xs us Q I r h
  obtain ⟨p, ys, rfl, h⟩ := h
  obtain ⟨u, rfl, rx⟩ := vals1 r
  cases rx
  rcases h with ⟨hq, q⟩ | ⟨hq, q⟩
  · obtain ⟨its, r', pl, hz⟩ := I.list hq
    have hlen := r'.length
    refine call_tuple_list pl.isList (fun h' kp => ?_) (by simp only [List.size_toArray] <;> lia)
    have I1 : Inv X pins σ H { s with heap := h' } := I.kept (t' := s.toks) kp
    have I2 : Inv X pins σ (upd H h'.objs.size (.tup ys)) { s with heap := h'.push { cls := .type "tuple", data := .seq its.toArray } } :=
      I1.laid (t' := s.toks) (fun b o e => Heap.get?_push_of_some _ e) (Nat.le_refl _) (show ObjOk X.prog X.w _ _ _ (.tup ys) from ⟨hz, its, r', IsTup.new _ _⟩)
    exact ⟨.ref h'.objs.size, _, I2, rfl, q _ (I1.hok.fresh (Nat.le_refl _))⟩
  · obtain ⟨its, r', pl, hz⟩ := I.tuple hq
    exact call_tuple_same pl ⟨.ref p, H, I, rfl, q⟩
def tyV (K : PySem.W.Frag) (T : String) (x : V) (H : Hp) : Prop := match x with
  | .str _ => T = "str"
  | .int _ => T = "int"
  | .ref p => (T = "list" ∧ ∃ xs, SqL K H p xs) ∨ (T = "tuple" ∧ ∃ o, K.lookup p = some o ∧ o.cls = .type "tuple" ∧ o.dict = none) ∨
      (T = "dict" ∧ ((∃ kvs, H p = some (.dK kvs)) ∨ ∃ kvs, H p = some (.dT kvs))) ∨ (T = "set" ∧ ∃ S n, H p = some (.set S n))
  | _ => False
theorem tyV_is {pins : List (Addr × Obj)} {σ : St} {H : Hp} {s : Shared} {T : String} {x : V} {v : Value} (I : Inv X pins σ H s) (r : RelV x v) (ty : tyV X.K T x H) :
    s.TypeIs v T ∧ ∀ a, v = .ref a → ∃ ob, s.heap.get? a = some ob ∧ ob.dict = none := by
  cases x with
  | str z =>
    obtain ⟨t, rfl⟩ := r
    cases (show T = "str" from ty)
    exact ⟨typeIs_str s z t, fun _ e => nomatch e⟩
  | int i =>
    obtain ⟨t, rfl⟩ := r
    cases (show T = "int" from ty)
    exact ⟨typeIs_int s i t, fun _ e => nomatch e⟩
  | ref p =>
    cases r
    rcases ty with ⟨rfl, xs, hq⟩ | ⟨rfl, o, hk, hc, hd⟩ | ⟨rfl, hk⟩ | ⟨rfl, S, n, hk⟩
    · obtain ⟨its, _, pl, _⟩ := I.list hq
      refine ⟨pl.isList.typeIs, fun a e => ?_⟩
      cases e
      obtain ⟨o, n, e, c, hd, _⟩ := pl
      exact ⟨o, e, hd⟩
    · refine ⟨⟨o, I.kIn p o hk, hc⟩, fun a e => ?_⟩
      cases e
      exact ⟨o, I.kIn _ o hk, hd⟩
    · have z : ∃ o, s.heap.get? p = some o ∧ o.ExactDict := by
        rcases hk with ⟨kvs, hk⟩ | ⟨kvs, hk⟩
        · obtain ⟨_, _, _, _, o, _, _, e, ex, _⟩ := I.hok p _ hk
          exact ⟨o, e, ex⟩
        · obtain ⟨_, _, _, _, o, _, _, e, ex, _⟩ := I.hok p _ hk
          exact ⟨o, e, ex⟩
      obtain ⟨o, e, ex⟩ := z
      refine ⟨⟨o, e, ex.1⟩, fun a e2 => ?_⟩
      cases e2
      exact ⟨o, e, ex.2.1⟩
    · obtain ⟨o, _, _, _, e, ex, _⟩ := I.hok p _ hk
      refine ⟨⟨o, e, ex.1⟩, fun a e2 => ?_⟩
      cases e2
      exact ⟨o, e, ex.2.1⟩
  | _ => exact False.elim ty
def tBM0 (K : PySem.W.Frag) (T : String) (r : V → List V → Hp → VK → Prop) (to : TE) : TE := fun σ H Q => to σ H fun x H1 => tyV K T x H1 ∧ r x [] H1 Q
def tBM (K : PySem.W.Frag) (T : String) (r : V → List V → Hp → VK → Prop) (to : TE) (t : TA) : TE := fun σ H Q => to σ H fun x H1 => tyV K T x H1 ∧ t σ H1 fun xs H2 => r x xs H2 Q
variable {o e : Expr} {es : List Expr} {to : TE} {t : TA} {name : Str} {apos cpos : Pos} {T id : String} {r : V → List V → Hp → VK → Prop}
theorem pe_bm0 (pa : PlainAttrs T) (slot : Slot T name id) (hty : typeOf (.builtin id) = pure (.type "method_descriptor")) (hm : MtR X id r) (ho : PE X o to)
    (hbase : attributeBase o name X.env (eval o X.env) = eval o X.env := by rfl) (hline : (apos.endLine == cpos.line) = true := by rfl) : PE X (.Call (.Attribute o name apos) [] [] cpos) (tBM0 X.K T r to) := by
  intro pins s σ H Q I h
  refine wpAny_Call_method0_late hbase hline (thn (ho pins s σ H _ I h) fun v s1 ⟨x, H1, I1, r1, ty, q1⟩ => ?_)
  obtain ⟨h1, h2⟩ := tyV_is I1 r1 ty
  exact ⟨T, id, pa, slot, hty, h1, h2, Calls.callWith_builtin rfl (PySem.evalArgs_none (hm pins s1 σ H1 x [] v [] Q I1 r1 .nil q1))⟩
theorem pe_bm (pa : PlainAttrs T) (slot : Slot T name id) (hty : typeOf (.builtin id) = pure (.type "method_descriptor")) (hm : MtR X id r) (ho : PE X o to) (ha : PA X (e :: es) t)
    (hbase : attributeBase o name X.env (eval o X.env) = eval o X.env := by rfl)
    (hfew : ((backTo cpos (starEach (e :: es) X.env)).all (fun x => !x.1) && (backToKw cpos (keywordEach [] X.env)).all (fun x => x.1.isSome)
      && decide ((e :: es).length + ([] : List Keyword).length + (if ([] : List Keyword).isEmpty then 0 else 1) < 30)) = true := by rfl)
    (hline : (apos.endLine == cpos.line) = true := by rfl) (hs : starEach (e :: es) X.env = (false, eval e X.env) :: starEach es X.env := by rfl) (hplain : (backTo cpos (starEach es X.env)).any (·.1) = false := by rfl) :
    PE X (.Call (.Attribute o name apos) (e :: es) [] cpos) (tBM X.K T r to t) := by
  intro pins s σ H Q I h
  refine wpAny_Call_method_late hbase hfew hline rfl (thn (ho pins s σ H _ I h) fun v s1 ⟨x, H1, I1, r1, ty, q1⟩ => ?_)
  obtain ⟨h1, h2⟩ := tyV_is I1 r1 ty
  refine ⟨T, id, pa, slot, hty, h1, h2, ?_⟩
  have hA := ha cpos pins s1 σ H1 _ I1 q1
  rw [hs] at hA ⊢
  refine Calls.callWith_builtin (by show (false || (backTo cpos (starEach es X.env)).any (·.1)) = false; rw [hplain] <;> rfl) (Calls.evalArgs_plain ?_)
  exact thn hA fun us s2 ⟨vs, H2, I2, r2, q2⟩ => hm pins s2 σ H2 x vs v us Q I2 r1 r2 q2
/- xs.append(e), list.index on a module's tuple .. are MtR facts of 06m -/
end
end L2
namespace L2
open PySem PySem.Spec PyProof.Rows
def MtM (X : Cx) (id : String) (r : V → List V → Hp → VK → Prop) : Prop :=
  ∀ (pins : List (Addr × Obj)) (s : Shared) (σ : St) (H : Hp) (x : V) (xs : List V) (v : Value) (us : List Value) (Q : VK), Inv X pins σ H s → RelV x v → Vals xs us → r x xs H Q →
    wpAny (model X.prog X.w) X.A (call (.builtin id) (v :: us)) (EP X pins σ Q) X.xe s
theorem Vals.one : ∀ {x : V} {us : List Value}, Vals [x] us → ∃ u, us = [u] ∧ RelV x u
  | _, _, .cons r .nil => ⟨_, rfl, r⟩
theorem Vals.zero : ∀ {us : List Value}, Vals [] us → us = []
  | _, .nil => rfl
section
variable {X : Cx} {pins : List (Addr × Obj)} {σ : St} {H : Hp} {s : Shared} {l b : Addr} {xs ys zs : List V}
theorem Inv.lset {its its' : List Value} {n : Nat} {f : Array Value → Array Value} {t' : Nat} (I : Inv X pins σ H s) (hH : H l = some (.lst xs))
    (e : s.heap.get? l = some { cls := .type "list", data := .seq its.toArray n }) (hf : f its.toArray = its'.toArray) (hv : Vals ys its') (hz : ys.length ≤ sizeLine) :
    Inv X pins σ (upd H l (.lst ys)) { s with heap := s.heap.update l (Obj.mapSeq f), toks := t' } := by
  have q := PySem.IsL.update e f
  rw [hf] at q
  refine I.write (x := l) (e := l) (by rw [hH]; exact trivial) (.inl rfl) (fun b' u hb hu => (Heap.get?_update_other s.heap (Obj.mapSeq f) (Ne.symm hb)).trans hu) ⟨_, q⟩ ?_
  exact ⟨hz, its', _, hv, q⟩
theorem Inv.lnew {its : List Value} {t' : Nat} (I : Inv X pins σ H s) (hv : Vals ys its) (hz : ys.length ≤ sizeLine) :
    Inv X pins σ (upd H s.heap.objs.size (.lst ys)) { s with heap := s.heap.push { cls := .type "list", data := .seq its.toArray }, toks := t' } :=
  I.laid (fun _ _ q => Heap.get?_push_of_some _ q) (Nat.le_refl _) ⟨hz, its, 0, hv, Heap.get?_push_size _ rfl⟩
theorem Inv.fresh (I : Inv X pins σ H s) : H s.heap.objs.size = none := I.hok.fresh (Nat.le_refl _)
theorem Inv.lstM (I : Inv X pins σ H s) (hH : H l = some (.lst xs)) : xs.length ≤ sizeLine ∧ ∃ (its : List Value) (n : Nat), Vals xs its ∧ xs.length = its.length ∧ s.heap.get? l = some { cls := .type "list", data := .seq its.toArray n } := by
  obtain ⟨z, its, n, r, e⟩ := I.hok l _ hH
  exact ⟨z, its, n, r, r.length, e⟩
end
section
variable {X : Cx}
def rAppend : V → List V → Hp → VK → Prop := fun x vs H Q => ∃ l xs y, x = .ref l ∧ vs = [y] ∧ H l = some (.lst xs) ∧ xs.length < sizeLine ∧ Q .non (upd H l (.lst (xs ++ [y])))
theorem mt_append : MtM X "list.append" rAppend := by
  intro pins s σ H x vs v us Q I rx rv h
  obtain ⟨l, xs, y, rfl, rfl, hH, hz, q⟩ := h
  cases rx
  obtain ⟨u, rfl, ru⟩ := rv.one
  obtain ⟨z, its, n, r, hl, e⟩ := I.lstM hH
  refine call_meets F.slot_list_append ⟨_, e, rfl⟩ F.entry_list_append (F.args_list_append_2 _ _) (PySem.list_append l its.toArray n u (by rw [List.size_toArray]; lia)) ⟨e, ?_⟩
  refine ⟨.non, _, I.lset (its' := its ++ [u]) hH e (by simp) (r.append (.cons ru .nil)) ?_, rfl, q⟩
  rw [List.length_append, List.length_singleton]
  lia
def rCat : R2 := fun x y H Q => ∃ l b xs zs, x = .ref l ∧ y = .ref b ∧ H l = some (.lst xs) ∧ H b = some (.lst zs) ∧ xs.length + zs.length ≤ sizeLine ∧ ∀ p, H p = none → Q (.ref p) (upd H p (.lst (xs ++ zs)))
theorem op_cat : OpR X (binaryOp .Add) rCat := by
  intro pins s σ H x y v u Q I rx ry h
  obtain ⟨l, b, xs, zs, rfl, rfl, hH, hB, hz, q⟩ := h
  cases rx
  cases ry
  obtain ⟨z, its, n, r, hl, e⟩ := I.lstM hH
  obtain ⟨z2, its2, n2, r2, hl2, e2⟩ := I.lstM hB
  refine PySem.P.add_list e e2 ?_ (by rw [List.size_toArray, List.size_toArray]; lia)
  have ea : its.toArray ++ its2.toArray = (its ++ its2).toArray := by simp
  rw [ea]
  exact ⟨.ref _, _, I.lnew (t' := s.toks) (r.append r2) (by rw [List.length_append]; lia), rfl, q _ I.fresh⟩
end
section
variable {prog : Program} {w : World} {A : Around} {E : Value → Shared → Prop} {s : Shared}
end
section
variable {X : Cx}
end
end L2
namespace L2
open PySem PySem.Spec PyProof.Rows
section
variable {κ : Type} [DecidableEq κ]
def valV (kvs : List (κ × V)) (k : κ) : Option V := (kvs.find? fun kv => decide (kv.1 = k)).map (·.2)
def putK (kvs : List (κ × V)) (k : κ) (v : V) : List (κ × V) :=
  if (kvs.any fun kv => decide (kv.1 = k)) = true then kvs.map (fun kv => if kv.1 = k then (kv.1, v) else kv) else kvs ++ [(k, v)]
theorem valV_pos {p : κ × V} {r : List (κ × V)} {k : κ} (e : p.1 = k) : valV (p :: r) k = some p.2 := by simp [valV, List.find?_cons, e]
theorem valV_neg {p : κ × V} {r : List (κ × V)} {k : κ} (e : ¬ p.1 = k) : valV (p :: r) k = valV r k := by simp [valV, List.find?_cons, e]
theorem valV_any (k : κ) : ∀ kvs : List (κ × V), (kvs.any fun kv => decide (kv.1 = k)) = (valV kvs k).isSome
  | [] => rfl
  | p :: r => by
    rw [List.any_cons]
    by_cases e : p.1 = k
    · simp only [valV_pos e, decide_eq_true e, Bool.true_or, Option.isSome_some]
    · rw [valV_neg e, decide_eq_false e, Bool.false_or]; exact valV_any k r
theorem valV_map (k j : κ) (y : V) : ∀ kvs : List (κ × V), valV (kvs.map fun kv => if kv.1 = k then (kv.1, y) else kv) j = (valV kvs j).map fun x => if j = k then y else x
  | [] => rfl
  | p :: r => by
    have ih := valV_map k j y r
    rw [List.map_cons]
    by_cases h : p.1 = k
    · rw [if_pos h]
      by_cases e : p.1 = j
      · rw [valV_pos (p := (p.1, y)) e, valV_pos e, Option.map_some, if_pos (e.symm.trans h)]
      · rw [valV_neg (p := (p.1, y)) e, valV_neg e, ih]
    · rw [if_neg h]
      by_cases e : p.1 = j
      · rw [valV_pos (p := p) e, valV_pos e, Option.map_some, if_neg (fun z => h (e.trans z))]
      · rw [valV_neg (p := p) e, valV_neg e, ih]
theorem valV_snoc (k j : κ) (y : V) : ∀ kvs : List (κ × V), valV kvs k = none → valV (kvs ++ [(k, y)]) j = if j = k then some y else valV kvs j
  | [], _ => by
    by_cases e : k = j
    · rw [if_pos e.symm]; exact valV_pos (p := (k, y)) e
    · rw [if_neg (fun z => e z.symm)]; exact valV_neg (p := (k, y)) e
  | p :: r, hn => by
    rw [List.cons_append]
    have hk : ¬ p.1 = k := fun z => by rw [valV_pos z] at hn; cases hn
    rw [valV_neg hk] at hn
    have ih := valV_snoc k j y r hn
    by_cases e : p.1 = j
    · rw [valV_pos e, valV_pos e, if_neg (fun z => hk (e.trans z))]
    · rw [valV_neg e, valV_neg e, ih]
theorem valV_put (kvs : List (κ × V)) (k j : κ) (y : V) : valV (putK kvs k y) j = if j = k then some y else valV kvs j := by
  unfold putK
  by_cases a : (kvs.any fun kv => decide (kv.1 = k)) = true
  · rw [if_pos a, valV_map]
    rw [valV_any] at a
    by_cases e : j = k
    · obtain ⟨x, hx⟩ := Option.isSome_iff_exists.mp a
      rw [if_pos e, e, hx, Option.map_some, if_pos rfl]
    · rw [if_neg e]
      cases valV kvs j with
      | none => rfl
      | some x => rw [Option.map_some, if_neg e]
  · rw [if_neg a]
    refine valV_snoc k j y kvs ?_
    rw [valV_any] at a
    cases q : valV kvs k with
    | none => rfl
    | some x => rw [q] at a; exact (a rfl).elim
theorem length_putK (kvs : List (κ × V)) (k : κ) (v : V) : (putK kvs k v).length ≤ kvs.length + 1 := by
  unfold putK
  split
  · rw [List.length_map]; lia
  · rw [List.length_append, List.length_cons, List.length_nil]; lia
theorem RelO.getD {o : Option V} {u : Option Value} {d : V} {d' : Value} (r : RelO o u) (rd : RelV d d') : RelV (o.getD d) (u.getD d') := by
  cases o with
  | none => cases u with
    | none => exact rd
    | some _ => exact (show False from r).elim
  | some _ => cases u with
    | none => exact (show False from r).elim
    | some _ => exact r
theorem KV.val {kvs : List (κ × V)} {vs : List (κ × Value)} (r : KV kvs vs) (k : κ) : RelO (valV kvs k) (valueAt vs k) := by
  unfold KV at r
  induction r with
  | nil => exact True.intro
  | @cons p q ps qs h t ih =>
    obtain ⟨h1, h2⟩ := h
    by_cases e : p.1 = k
    · have e' : q.1 = k := h1.symm.trans e
      have b : valueAt (q :: qs) k = some q.2 := by simp [valueAt, List.find?_cons, e']
      rw [valV_pos e, b]; exact h2
    · have e' : ¬ q.1 = k := fun z => e (h1.trans z)
      have b : valueAt (q :: qs) k = valueAt qs k := by simp [valueAt, List.find?_cons, e']
      rw [valV_neg e, b]; exact ih
theorem KV.any {kvs : List (κ × V)} {vs : List (κ × Value)} (r : KV kvs vs) (k : κ) : (kvs.any fun kv => decide (kv.1 = k)) = vs.any fun kv => decide (kv.1 = k) := by
  unfold KV at r
  induction r with
  | nil => rfl
  | cons h t ih => rw [List.any_cons, List.any_cons, ih, h.1]
theorem KV.repl {kvs : List (κ × V)} {vs : List (κ × Value)} (r : KV kvs vs) (k : κ) {y : V} {u : Value} (ry : RelV y u) :
    KV (kvs.map fun kv => if kv.1 = k then (kv.1, y) else kv) (vs.map fun kv => if kv.1 = k then (kv.1, u) else kv) := by
  unfold KV at r ⊢
  induction r with
  | nil => exact .nil
  | @cons p q ps qs h t ih =>
    rw [List.map_cons, List.map_cons]
    refine .cons ?_ ih
    obtain ⟨h1, h2⟩ := h
    by_cases e : p.1 = k
    · rw [if_pos e, if_pos (h1.symm.trans e)]; exact ⟨h1, ry⟩
    · rw [if_neg e, if_neg (fun z => e (h1.trans z))]; exact ⟨h1, h2⟩
theorem KV.put {kvs : List (κ × V)} {vs : List (κ × Value)} (r : KV kvs vs) (k : κ) {y : V} {u : Value} (ry : RelV y u) : KV (putK kvs k y) (stored vs k u) := by
  unfold putK stored
  rw [r.any k]
  by_cases e : (vs.any fun kv => decide (kv.1 = k)) = true
  · rw [if_pos e, if_pos e]; exact r.repl k ry
  · rw [if_neg e, if_neg e]; exact Paired.snoc r ⟨rfl, ry⟩
theorem KV.length {kvs : List (κ × V)} {vs : List (κ × Value)} (r : KV kvs vs) : kvs.length = vs.length := Paired.length r
end
theorem kV_is {P : Program} {w : World} {k : Key} {u : Value} (r : RelV (kV k) u) : (mixKind P w).is k u = true := by
  cases k with
  | inl i => obtain ⟨t, e⟩ := (show ∃ t, u = Value.int i t from r); subst e; exact mixKind_int P w i t
  | inr x => obtain ⟨t, e⟩ := (show ∃ t, u = Value.str x t from r); subst e; exact mixKind_str P w x t
theorem kV_inj {a b : Key} (e : kV a = kV b) : a = b := by
  cases a with
  | inl i => cases b with
    | inl j => have e' : V.int i = V.int j := e; injection e' with e'; rw [e']
    | inr y => exact nomatch (show V.int i = V.str y from e)
  | inr x => cases b with
    | inl j => exact nomatch (show V.str x = V.int j from e)
    | inr y => have e' : V.str x = V.str y := e; injection e' with e'; rw [e']
theorem items_are {P : Program} {w : World} : ∀ {ks : List Key} {us : List Value}, Vals (ks.map kV) us → ItemsAre (mixKind P w) ks us
  | [], _, r => by rw [List.map_nil] at r; cases r; exact .nil
  | k :: ks, _, r => by
    rw [List.map_cons] at r
    cases r with
    | cons h t => exact .cons (kV_is h) (items_are t)
abbrev KT (H : Hp) : List (List Key × V) → List (List Key × Addr × Value) → Prop := Paired fun p q => p.1 = q.1 ∧ H q.2.1 = some (.tup (p.1.map kV)) ∧ RelV p.2 q.2.2
theorem KT.val {H : Hp} {kvs : List (List Key × V)} {xs : List (List Key × Addr × Value)} (r : KT H kvs xs) (k : List Key) : RelO (valV kvs k) ((atKey xs k).map (·.2)) := by
  induction r with
  | nil => exact True.intro
  | @cons p q ps qs h t ih =>
    obtain ⟨h1, _, h2⟩ := h
    by_cases e : p.1 = k
    · have e' : q.1 = k := h1.symm.trans e
      have b : atKey (q :: qs) k = some q.2 := by simp [atKey, List.find?_cons, e']
      rw [valV_pos e, b]; exact h2
    · have e' : ¬ q.1 = k := fun z => e (h1.trans z)
      have b : atKey (q :: qs) k = atKey qs k := by simp [atKey, List.find?_cons, e']
      rw [valV_neg e, b]; exact ih
section
variable {P : Program} {w : World} {H : Hp} {h : Heap} {a : Addr}
theorem rd_of {u : HO} (ok : HOk P w H h) (e : Rd H a u) : ObjOk P w H h a u := e.ok ok
theorem dk_rd {kvs : List (Key × V)} (ok : HOk P w H h) (e : Rd H a (.dK kvs)) : kvs.length ≤ sizeLine ∧ (a == sysModules) = false ∧ ∃ vs, KV kvs vs ∧ h.DictOf (mixKind P w) a vs :=
  show ObjOk P w H h a (.dK kvs) from rd_of ok e
theorem dk_of {kvs : List (Key × V)} (ok : HOk P w H h) (e : H a = some (.dK kvs)) : kvs.length ≤ sizeLine ∧ (a == sysModules) = false ∧ ∃ vs, KV kvs vs ∧ h.DictOf (mixKind P w) a vs := dk_rd ok (.inl e)
theorem key_of {ks : List Key} (ok : HOk P w H h) (e : H a = some (.tup (ks.map kV))) : (tupleKind (mixKind P w)).is h ks a := by
  obtain ⟨_, its, r, o, h1, h2, n, h3⟩ := (show ObjOk P w H h a (.tup (ks.map kV)) from ok a _ e)
  exact ⟨o, its.toArray, n, h1, h2, h3, by simpa using items_are r⟩
theorem dt_rd {kvs : List (List Key × V)} (ok : HOk P w H h) (e : Rd H a (.dT kvs)) : kvs.length ≤ sizeLine ∧ (a == sysModules) = false ∧
    ∃ xs, KT H kvs xs ∧ h.DictOfH (tupleKind (mixKind P w)) a xs := by
  obtain ⟨z, y, xs, r, o, es, ep, h1, h2, h3, h4, h5⟩ := (show ObjOk P w H h a (.dT kvs) from rd_of ok e)
  refine ⟨z, y, xs, r, o, es, ep, h1, h2, h3, h4, fun x hx => ?_, h5⟩
  have all : ∀ {l : List (List Key × V)} {m : List (List Key × Addr × Value)}, KT H l m → ∀ x ∈ m, (tupleKind (mixKind P w)).is h x.1 x.2.1 := by
    intro l m q
    induction q with
    | nil => intro x hx; exact nomatch hx
    | @cons p q ps qs hq t ih =>
      intro x hx
      rcases List.mem_cons.mp hx with e | hx
      · subst e
        exact key_of ok (by rw [← hq.1]; exact hq.2.1)
      · exact ih x hx
  exact all r x hx
end
def DGet (H : Hp) (a : Addr) (y : V) (r : Option V) : Prop :=
  (∃ kvs k, Rd H a (.dK kvs) ∧ y = kV k ∧ r = valV kvs k) ∨ ∃ kvs k b, Rd H a (.dT kvs) ∧ y = .ref b ∧ H b = some (.tup (k.map kV)) ∧ r = valV kvs k
theorem DGet.k {H : Hp} {a : Addr} {kvs : List (Key × V)} {k : Key} (e : H a = some (.dK kvs)) : DGet H a (kV k) (valV kvs k) := .inl ⟨kvs, k, .inl e, rfl, rfl⟩
section
variable {X : Cx} {pins : List (Addr × Obj)} {σ : St} {H : Hp} {s : Shared} {a : Addr} {y v : V} {u r : Value} {o : Option V} {A : Around} {E : Value → Shared → Prop}
theorem Inv.big (I : Inv X pins σ H s) : sysModules < s.heap.objs.size := by
  have h : mainGlobals < s.heap.objs.size := (I.mod.glob.keeps I.bk).lt
  exact Nat.lt_trans (by decide) h
theorem d_write {h' : Heap} {t' : Nat} {ob : HO} (I : Inv X pins σ H s) (mu : Mut (H a)) (hs : Heap.SameBut a s.heap h') (he : ∃ q, h'.get? a = some q) (new : ObjOk X.prog X.w (upd H a ob) h' a ob) :
    Inv X pins σ (upd H a ob) { s with heap := h', toks := t' } :=
  I.write (x := a) (e := a) mu (.inl rfl) (fun b q hb z => (hs.2 b hb).trans z) he new
theorem dk_new {P : Program} {w : World} {H' : Hp} {h' : Heap} {kvs : List (Key × V)} {vs : List (Key × Value)} (z : kvs.length ≤ sizeLine) (hd : (a == sysModules) = false) (rel : KV kvs vs) (dd : h'.DictOf (mixKind P w) a vs) :
    ObjOk P w H' h' a (.dK kvs) := ⟨z, hd, vs, rel, dd⟩
end
section
variable {X : Cx} {pins : List (Addr × Obj)} {σ : St} {H : Hp} {s : Shared} {a : Addr} {kvs : List (Key × V)} {k : Key} {u : Value} {A : Around} {E : Value → Shared → Prop}
end
section
variable {X : Cx} {o i e value : Expr} {pos pos' tpos : Pos} {td ty tv : TE}
end
theorem dk_empty {P : Program} {w : World} {H : Hp} (h : Heap) (hb : sysModules < h.objs.size) : ObjOk P w H (h.push { cls := .type "dict", data := .dict #[] }) h.objs.size (.dK []) :=
  ⟨Nat.zero_le _, beq_eq_false_iff_ne.mpr (Ne.symm (Nat.ne_of_lt hb)), [], .nil, Heap.DictOf.new h⟩
def tDNewK : TE := fun _ H Q => ∀ p, H p = none → Q (.ref p) (upd H p (.dK []))
section
variable {X : Cx} {pos : Pos}
theorem pe_dnewK : PE X (.Dict [] [] pos) tDNewK := fun pins s σ H Q I h =>
  wpAny_Dict_empty ⟨.ref s.heap.objs.size, _, I.laid (a := s.heap.objs.size) (o := .dK []) (t' := s.toks) (fun _ _ q => Heap.get?_push_of_some _ q) (Nat.le_refl _) (dk_empty s.heap I.big), rfl, h _ (I.hok.fresh (Nat.le_refl _))⟩
end
structure M2 (X : Cx) (o : Expr) (m : Str) (apos : Pos) (e f : Expr) (cpos : Pos) : Prop where
  base : attributeBase o m X.env (eval o X.env) = eval o X.env
  few : ((backTo cpos (starEach [e, f] X.env)).all (fun x => !x.1) && (backToKw cpos (keywordEach [] X.env)).all (fun x => x.1.isSome)
    && decide (([e, f] : List Expr).length + ([] : List Keyword).length + (if ([] : List Keyword).isEmpty then 0 else 1) < 30)) = true
  line : (apos.endLine == cpos.line) = true
  trees : backTo cpos (starEach [e, f] X.env) = [(false, eval e X.env), (false, eval f X.env)]
def IsD (H : Hp) (a : Addr) : Prop := (∃ kvs, Rd H a (.dK kvs)) ∨ ∃ kvs, Rd H a (.dT kvs)
theorem isD_at {X : Cx} {pins : List (Addr × Obj)} {σ : St} {H : Hp} {s : Shared} {a : Addr} (I : Inv X pins σ H s) (d : IsD H a) :
    s.TypeIs (.ref a) "dict" ∧ (∀ b, Value.ref a = .ref b → ∃ ob, s.heap.get? b = some ob ∧ ob.dict = none) ∧ (a == sysModules) = false := by
  rcases d with ⟨kvs, e⟩ | ⟨kvs, e⟩
  · obtain ⟨_, hd, vs, _, dd⟩ := dk_rd I.hok e
    refine ⟨dd.typeIs, fun b q => ?_, hd⟩
    cases q
    obtain ⟨ob, _, _, h1, h2, _⟩ := dd
    exact ⟨ob, h1, h2.2.1⟩
  · obtain ⟨_, hd, xs, _, dd⟩ := dt_rd I.hok e
    refine ⟨dd.typeIs, fun b q => ?_, hd⟩
    cases q
    obtain ⟨ob, _, _, h1, h2, _⟩ := dd
    exact ⟨ob, h1, h2.2.1⟩
section
variable {X : Cx} {pins : List (Addr × Obj)} {σ : St} {H : Hp} {s : Shared} {a : Addr} {y d : V} {u r : Value} {o : Option V} {A : Around} {E : Value → Shared → Prop}
theorem d_get2 {Q : Value → Shared → Prop} (hu : A.units + 1 < cLine) (I : Inv X pins σ H s) (g : DGet H a y o) (ry : RelV y u) (rd : RelV d r) (h : ∀ w' s', Inv X pins σ H s' → RelV (o.getD d) w' → Q w' s') :
    wpAny (model X.prog X.w) A (call (.builtin "dict.get") [.ref a, u, r]) Q E s := by
  rcases g with ⟨kvs, k, e, ey, l⟩ | ⟨kvs, k, b, e, ey, eb, l⟩
  · subst ey
    obtain ⟨z, hd, vs, rel, dd⟩ := dk_rd I.hok e
    refine call_meetsIn PySem.F.slot_dict_get dd.typeIs PySem.F.entry_dict_get (PySem.F.args_dict_get_3 _ _ _) (meets_dict_get_default (mixKind X.prog X.w) a (kV_is ry) hd r) ⟨_, dd.mapOf, h _ _ (I.tok _) ?_⟩
    rw [l]
    exact (rel.val k).getD rd
  · subst ey
    cases (show u = Value.ref b from ry)
    obtain ⟨z, hd, xs, rel, dd⟩ := dt_rd I.hok e
    refine call_meetsIn PySem.F.slot_dict_get dd.typeIs PySem.F.entry_dict_get (PySem.F.args_dict_get_3 _ _ _) (meetsH_dict_get_default (tupleKind (mixKind X.prog X.w)) a b hd r) ⟨tupleKind_room_in1 hu, k, xs, key_of I.hok eb, dd, h _ _ (I.tok _) ?_⟩
    rw [l]
    exact (rel.val k).getD rd
end
def tDGet2 (td ty tx : TE) : TE := fun σ H Q => td σ H fun x H1 => ∃ a, x = .ref a ∧ IsD H1 a ∧ ty σ H1 fun y H2 => tx σ H2 fun z H3 => ∃ o, DGet H3 a y o ∧ Q (o.getD z) H3
section
variable {X : Cx} {o e f : Expr} {apos cpos : Pos} {td ty tx : TE}
theorem pe_dget2 (hu : X.A.units + 1 < cLine) (ho : PE X o td) (he : PE X e ty) (hf : PE X f tx) (m : M2 X o "get" apos e f cpos) : PE X (.Call (.Attribute o "get" apos) [e, f] [] cpos) (tDGet2 td ty tx) := by
  intro pins s σ H Q I h
  refine wpAny_Call_method m.base m.few m.line PySem.F.plainAttrs_dict PySem.F.slot_dict_get PySem.F.type_dict_get (thn (ho pins s σ H _ I h) fun u s1 ⟨x, H1, I1, rx, a, ex, d, q1⟩ => ?_)
  subst ex
  obtain rfl : u = Value.ref a := rx
  obtain ⟨t1, t2, _⟩ := isD_at I1 d
  refine ⟨t1, t2, ?_⟩
  rw [m.trees]
  refine Calls.callWith_builtin rfl (Calls.evalArgs_plain (Calls.spliced_cons (thn (he pins s1 σ H1 _ I1 q1) fun iv s2 ⟨y, H2, I2, ry, q2⟩ =>
    Calls.spliced_cons (thn (hf pins s2 σ H2 _ I2 q2) fun fv s3 ⟨z, H3, I3, rz, ov, g, q3⟩ => Calls.spliced_nil ?_))))
  exact d_get2 hu I3 g ry rz fun w' s4 I4 rw' => ⟨_, H3, I4, rw', q3⟩
end
section
variable {X : Cx} {pins : List (Addr × Obj)} {σ : St} {H : Hp} {s : Shared} {a : Addr} {kvs : List (Key × V)} {A : Around} {E : Value → Shared → Prop}
end
section
variable {X : Cx} {pins : List (Addr × Obj)} {σ : St} {H : Hp} {s : Shared} {a : Addr} {y : V} {u : Value} {A : Around} {E : Value → Shared → Prop}
end
end L2
namespace Att
open PySem PySem.W PySem.Calls PyProof.Rows
theorem ints_of_wellAll {P : Params} {h : Heap} : ∀ (ns : List Int) (vs : List Value), WellAll P h vs (ns.map WData.int) → IntsAre vs ns := by
  intro ns
  induction ns with
  | nil =>
    intro vs w
    rw [List.map_nil] at w
    cases w
    exact .nil
  | cons n ns ih =>
    intro vs w
    rw [List.map_cons] at w
    cases w with
    | cons a b =>
      cases a
      exact .cons _ _ (ih _ b)
theorem script_of {l : OpenLaw} {n : Nat} (hn : l.most = some n) {P : Params} {h : Heap} {args : List WData} {vals : List Value}
    (hpre : l.row.toRowW.claim.pre args = true) (hwl : WellAll P h vals args) :
    ∃ a vs ns, vals = [Value.ref a] ∧ args = [WData.list (ns.map WData.int)] ∧ h.get? a = some { cls := .type "list", data := .seq vs.toArray } ∧ IntsAre vs ns ∧ ns.length ≤ n := by
  have hsh : WShape.hasAll [] args [.list .int] = true := (pre_splitW hpre).1
  have hc : l.pre.holds [] { args := args } = true := (pre_splitW hpre).2
  obtain ⟨d, r, rfl, h1, h2⟩ := hasAllW_cons hsh
  obtain rfl := hasAllW_nil h2
  obtain ⟨xs, rfl, h3⟩ := hasW_list h1
  obtain ⟨ns, rfl⟩ := items_int h3
  have hlen : ns.length ≤ n := by
    unfold OpenLaw.pre at hc
    have h4 : (WTm.not (.lt (.lit (.int (n : Int))) (.len (.arg 0)))).holds [] { args := [.list (ns.map .int)] } = true := by
      have h4 := (holds_andW hc).1
      rw [hn] at h4
      exact h4
    have h5 := condW_of h4 (w_not (w_lt w_lit (w_len_list (w_arg rfl))))
    rw [List.length_map] at h5
    refine Nat.le_of_not_lt fun q => ?_
    have q' : (n : Int) < ((ns.length : Nat) : Int) := by lia
    first
      | (rw [decide_eq_true q'] at h5; exact absurd h5 (by decide))
      | (simp at h5; lia)
  cases hwl with
  | cons w1 w2 =>
    cases w2
    cases w1 with
    | list ho hall => exact ⟨_, _, ns, rfl, rfl, ho, ints_of_wellAll ns _ hall, hlen⟩
theorem post_true (l : OpenLaw) (args : List WData) : l.row.toRowW.claim.post args (.bool true) args = true :=
  postW_of (r := l.row.toRowW) (X := (true == true))
    (show WShape.has [] (.bool true) .bool = true by first | rfl | decide | simp [WShape.has, WShape.arms, WShape.armsAll])
    (show (WTm.eq .res (.lit (.bool true))).value [] { args := args, res := some (.bool true), after := args } = some (.bool (true == true)) from w_eq_bool (w_res rfl) w_lit) rfl
theorem attach_call {l : OpenLaw} {n : Nat} {q : Program} {loose : List Str} {XP : (Str → Option Value) → Heap → Prop} {YP : World → Heap → Prop} {d : DefRec}
    (hn : l.most = some n) (hdf : d.params.defaults = [])
    (call : ∀ (w : World) (s₀ s₁ : Shared) (mg mb : Str → Option Value) (fa : Addr) (o : Obj) (pm cd doc : Value) (a : Addr) (vs : List Value) (ns : List Int),
      Ground q loose [] XP w s₀ mg mb s₁.heap → YP w s₁.heap →
      s₁.heap.get? fa = some o → o.data = .func (docDef d.name d.params d.body d.scope pm cd doc) → s₁.heap.CodeRec cd d.name → mg d.name = some (.ref fa) →
      s₁.heap.get? a = some { cls := .type "list", data := .seq vs.toArray } → IntsAre vs ns → ns.length ≤ n → s₁.gens = #[] →
      codeAny (model l.prog w) callerA (.call (.ref fa) ⟨[.ref a], []⟩) (fun r s' => r = .ok (.ret (.bool true)) ∧ OldK s₁.heap s'.heap ∧ s'.os = s₁.os ∧ AllBare s'.gens) s₁) :
    WalkO q loose XP YP l.row.toRowW d [] (fun f vs => PySem.call f vs) := by
  intro w s₀ s₁ mg mb G Y fa o pm cd doc dV kV ho hd hcd hD hmg hg args vals as hpre hlay hrd hwl hlo
  obtain rfl : dV = .none := Dflts.none hD hdf
  obtain rfl : kV = .none := Dflts.noKw hD
  obtain ⟨a, vs, ns, rfl, rfl, hobj, hints, hlen⟩ := script_of hn hpre hwl
  refine enter_call (codeAny_mono (call w s₀ s₁ mg mb fa o pm cd doc a vs ns G Y ho (fd_plain hd) hcd hmg hobj hints hlen hg) fun r s' hq => ?_)
  obtain ⟨rfl, h2, h3, h4⟩ := hq
  exact ⟨.inl ⟨.bool true, .bool true, [], rfl, fun _ => rfl, .bool true, post_true l _, fun _ => ⟨List.Pairwise.nil, fun _ hm => (nomatch hm)⟩⟩, h2, h3, h4⟩
section
variable {prog : Program} {w : World} {A : Around} {E : Value → Shared → Prop} {s : Shared} {K : Frag}
end
end Att
namespace L2
open PySem PySem.Spec PyProof.Rows
theorem vals_ints : ∀ {vs : List Value} {ns : List Int}, IntsAre vs ns → Vals (ns.map V.int) vs
  | _, _, .nil => .nil
  | _, _, .cons n t h => .cons ⟨t, rfl⟩ (vals_ints h)
end L2
namespace L2
open PySem PySem.Spec PyProof.Rows
abbrev KOf {K : PySem.W.Frag} {h : Heap} (_ : K.In h) : PySem.W.Frag := K
end L2
/- THE LAST THEOREM (shape; LID, My.* are yours):
   My.Adr: a structure of the addresses that your layer names (classes, functions); My.Txt K t: a structure (Prop) of the equations over K;
   My.txt_mk : {K} {implicit addresses ..} (e1 : nsIn K mainGlobals "law" = some (some (.ref f))) (e2 : K.lookup f = some ⟨oc, od, .func (fnOf "law" "law" params body scope dV kV doc pm an cdv ct), sl⟩) (e3 : codeIn K cdv "law" = true) .. : ∃ t, My.Txt K t
set_option maxRecDepth 100000 in
set_option maxHeartbeats 0 in
theorem PySem.Challenge.cw_LID_holds : PySem.Challenge.rw_LID.Holds := by
  w_on; o_law; k_head; (case hw => w_witness2)
  k_fill
  refine L2.walk_of (l := PySem.Challenge.rw_LID) (n := 63) (k := 40) (x := "script") (CX := fun w => ..) (sp := fun _ => My.sp_law) rfl (by decide) rfl ⟨rfl, by decide, by decide⟩ (fun w h Y => PySem.W.kIn_of Y) ?F ?S ?C
  case F =>
    intro w mg fa h KX G hmg
    have T : ∃ t, My.Txt (L2.KOf KX) t := by
      dsimp only [L2.KOf]                          -- K must stand as «<heap const> w.params» for k_is
      refine' My.txt_mk ?e1 ?e2 ?e3 ..
      (case e1 => PySem.W.k_is)                    -- in the order: a name -> its address -> its object -> its parts
      (case e2 => PySem.W.k_is)
      ..
    obtain ⟨t, T⟩ := T
    have e0 := hmg.symm.trans (PySem.W.mg_of KX G T.law)
    cases e0                                       -- fa is the law's own address
    exact ⟨_, fun s u => .of_eq rfl, fun base kb nb => My.law_fn T kb nb⟩     -- if «.of_eq rfl» comes too early: refine' ⟨_, ?b, fun base kb nb => My.law_fn T kb nb⟩; exact fun s u => .of_eq rfl
  case S => exact fun w H a ns hl hO hS => ..
  case C => exact ..
(the tactic k_is has no namespace: write k_is) -/
namespace L2
open PySem PySem.Spec PyProof.Rows
def defArgs (s : Stmt) : Arguments := match s with
  | .FunctionDef _ a _ _ _ _ _ _ _ _ => a
  | _ => { posonlyargs := [], args := [], vararg := none, kwonlyargs := [], kw_defaults := [], kwarg := none, defaults := [] }
def defBody (s : Stmt) : List Stmt := match s with
  | .FunctionDef _ _ b _ _ _ _ _ _ _ => b
  | _ => []
def defScope (s : Stmt) : Scope := match s with
  | .FunctionDef _ _ _ _ _ _ sc _ _ _ => sc
  | _ => { kind := .function, names := [], isGenerator := false, isCoroutine := false }
abbrev CX0 : CXT := fun _ _ _ _ _ _ => False
abbrev E0 : XK := fun _ _ _ => False
theorem pass0 {X : Cx} : Passes CX0 X E0 := fun _ _ _ _ _ _ _ h => h.elim
structure Fun (K : PySem.W.Frag) (x qual : Str) (st : Stmt) (f : Addr) (fd : FuncData) : Prop where
  ex : ∃ (oc : Value) (od : Option Addr) (kV doc pm : Value) (an : Option Addr) (cdv ct : Value) (osl : Array (Option Value)),
    fd = PySem.W.fnOf x qual (defArgs st) (defBody st) (defScope st) .none kV doc pm an cdv ct ∧ K.lookup f = some ⟨oc, od, .func fd, osl⟩ ∧ PySem.W.codeIn K cdv qual = true
  kp : PySem.W.keepIn K (.ref f) = true
section
variable {P : Program} {w : World} {K : PySem.W.Frag} {mg : Str → Option Value} {base : Heap}
theorem Fun.ok {x qual : Str} {st : Stmt} {f : Addr} {fd : FuncData} {N ps : List Str} {k : Nat} {sp : Sp} (F : Fun K x qual st f fd) (S : FnScope N ps (defScope st)) (len : ∀ vs H Q E, sp vs H Q E → vs.length = ps.length)
    (hbody : ∀ (cdv : Value) (A : Around) (outer : List Env) (s : Shared) (H : Hp) (vs : List V) (Q : VK) (E : XK), Room k (A.deeper (envOfC qual (defScope st) s.heap.objs.size f cdv)) → sp vs H Q E →
      ∃ t, PSs (cxOf CX0 P w K mg base N qual (defScope st) f cdv A outer s H E).nox (defBody st) t ∧ t { nx := fun _ H' => Q .non H', rt := Q } (start N vs) H) : FnOk P w K mg base CX0 (k + 1) f fd ps sp := by
  obtain ⟨oc, od, kV, doc, pm, an, cdv, ct, osl, rfl, lk, hcd⟩ := F.ex
  refine fn_of lk hcd S len fun A outer s H vs Q E hr hsp => ?_
  obtain ⟨t, h, q⟩ := hbody cdv A outer s H vs Q E hr hsp
  exact ⟨t, h.nox, q⟩
theorem fun_mk {x qual : Str} {st : Stmt} {f : Addr} {oc : Value} {od an : Option Addr} {osl : Array (Option Value)} {kV doc pm cdv ct : Value} (l : K.lookup f = some ⟨oc, od, .func (PySem.W.fnOf x qual (defArgs st) (defBody st) (defScope st) .none kV doc pm an cdv ct), osl⟩)
    (c : PySem.W.codeIn K cdv qual = true) (k : PySem.W.keepIn K (.ref f) = true) : Fun K x qual st f (PySem.W.fnOf x qual (defArgs st) (defBody st) (defScope st) .none kV doc pm an cdv ct) := ⟨⟨oc, od, kV, doc, pm, an, cdv, ct, osl, rfl, l, c⟩, k⟩
end
theorem hu_of {A : Around} {k : Nat} (hr : Room k A) : A.units + 1 < cLine := Nat.lt_of_le_of_lt (Nat.add_le_add_left (by decide : 1 ≤ 64) _) hr.units
theorem small1000 {n : Nat} (h : n ≤ 1000) : n < sizeLine := Nat.lt_of_le_of_lt h (by decide)
section
variable {X : Cx}
theorem pv (i : Nat) {x : Str} {pos : Pos} (hN : X.N[i]? = some x := by rfl) (hv : Vis X.env.scope x := by first | exact Or.inl rfl | exact Or.inr (Or.inl rfl) | exact Or.inr (Or.inr rfl)) (hd : (x == ("__debug__" : Str)) = false := by decide)
    (hcd : (x == ("__classdict__" : Str)) = false := by decide) : PE X (.Name x pos) (tVar i) := pe_var hN hv hd hcd
end
theorem iteF {A B : Prop} (h : B) : if false = true then A else B := by
  rw [if_neg Bool.false_ne_true]
  exact h
theorem iteT {A B : Prop} (h : A) : if true = true then A else B := by
  rw [if_pos rfl]
  exact h
theorem ite2 {c A B : Prop} [Decidable c] (h1 : c → A) (h2 : ¬ c → B) : if c then A else B := by
  by_cases h : c
  · rw [if_pos h]
    exact h1 h
  · rw [if_neg h]
    exact h2 h
def Same (H H' : Hp) : Prop := ∀ b o, H b = some o → H' b = some o
theorem Same.refl (H : Hp) : Same H H := fun _ _ h => h
theorem Same.trans {H H1 H2 : Hp} (a : Same H H1) (b : Same H1 H2) : Same H H2 := fun c o h => b c o (a c o h)
theorem Same.free {H H' : Hp} (e : Same H H') {l : Addr} (h : H' l = Option.none) : H l = Option.none := by
  cases q : H l with
  | none => rfl
  | some o =>
    rw [e l o q] at h
    cases h
theorem Same.seq {K : PySem.W.Frag} {H H' : Hp} {a : Addr} {xs : List V} (e : Same H H') (h : SqL K H a xs) : SqL K H' a xs := by
  rcases h with (h | ⟨o, h⟩) | h
  · exact .inl (.inl (e _ _ h))
  · exact .inl (.inr ⟨o, e _ _ h⟩)
  · exact .inr h
section
variable {X : Cx}
end
section
variable {κ : Type} [DecidableEq κ]
end
end L2
namespace L2
open PySem PySem.Spec PyProof.Rows
theorem lookup_cons_or {β : Type} {x n : Str} {b c : β} {l : List (Str × β)} (h : ((n, b) :: l).lookup x = some c) : (x = n ∧ b = c) ∨ l.lookup x = some c := by
  rw [List.lookup_cons] at h
  cases e : x == n with
  | true =>
    rw [e] at h
    exact .inl ⟨eq_of_beq e, Option.some.inj h⟩
  | false =>
    rw [e] at h
    exact .inr h
theorem lookup_cons_some {β : Type} {x n : Str} {b : β} {l : List (Str × β)} (h : x = n ∨ ∃ c, l.lookup x = some c) : ∃ c, ((n, b) :: l).lookup x = some c := by
  rw [List.lookup_cons]
  cases e : x == n with
  | true => exact ⟨b, rfl⟩
  | false =>
    rcases h with h | h
    · subst h
      simp at e
    · exact h
theorem closFor_go {env : Env} : ∀ (names : List (Str × NameKind)) (acc : List (Str × Addr)), (∀ y ∈ names, y.2 = .free → ∃ c, env.cells.lookup y.1 = some c) →
    (∀ x c, acc.lookup x = some c → env.cells.lookup x = some c) →
    ∃ cl, (forIn names acc (fun x r => if (x.2 == NameKind.free) = true then (cellOf env x.1 >>= fun c => pure (ForInStep.yield ((x.1, c) :: r))) else pure (ForInStep.yield r)) : Sem (List (Str × Addr))) = pure cl ∧
      (∀ x c, cl.lookup x = some c → env.cells.lookup x = some c) ∧ (∀ y ∈ names, y.2 = .free → ∃ c, cl.lookup y.1 = some c) ∧ (∀ x c, acc.lookup x = some c → ∃ c', cl.lookup x = some c')
  | [], acc, _, h => ⟨acc, rfl, h, (fun _ z => nomatch z), fun x c e => ⟨c, e⟩⟩
  | (n, k) :: r, acc, hn, h => by
    rw [List.forIn_cons]
    by_cases hk : k = .free
    · subst hk
      obtain ⟨c, hc⟩ := hn (n, .free) List.mem_cons_self rfl
      have e1 : (cellOf env n : Sem Addr) = pure c := by
        have hc' : env.cells.lookup n = some c := hc
        unfold cellOf
        rw [hc']
      obtain ⟨cl, e, h1, h2, h3⟩ := closFor_go r ((n, c) :: acc) (fun y hy => hn y (List.mem_cons_of_mem _ hy)) (fun x c' e => by
        rcases lookup_cons_or e with ⟨e1, e2⟩ | e
        · subst e1; subst e2; exact hc
        · exact h x c' e)
      refine ⟨cl, ?_, h1, ?_, fun x c' e => ?_⟩
      · show ((if ((n, NameKind.free).2 == NameKind.free) = true then (cellOf env n >>= fun c => pure (ForInStep.yield ((n, c) :: acc))) else pure (ForInStep.yield acc)) >>= _) = _
        rw [if_pos (show ((n, NameKind.free).2 == NameKind.free) = true from rfl), e1]
        exact e
      · intro y hy hf
        rcases List.mem_cons.mp hy with rfl | hy
        · exact h3 n c (by simp)
        · exact h2 y hy hf
      · obtain ⟨c2, e2⟩ := lookup_cons_some (n := n) (b := c) (.inr ⟨c', e⟩)
        exact h3 x c2 e2
    · obtain ⟨cl, e, h1, h2, h3⟩ := closFor_go r acc (fun y hy => hn y (List.mem_cons_of_mem _ hy)) h
      refine ⟨cl, ?_, h1, ?_, h3⟩
      · show ((if ((n, k).2 == NameKind.free) = true then (cellOf env n >>= fun c => pure (ForInStep.yield ((n, c) :: acc))) else pure (ForInStep.yield acc)) >>= _) = _
        rw [if_neg (by simpa using hk)]
        exact e
      · intro y hy hf
        rcases List.mem_cons.mp hy with rfl | hy
        · exact absurd hf hk
        · exact h2 y hy hf
theorem closFor {scope : Scope} {env : Env} (h : ∀ y ∈ scope.names, y.2 = .free → ∃ c, env.cells.lookup y.1 = some c) :
    ∃ cl, closureFor scope env = pure cl ∧ (∀ x c, cl.lookup x = some c → env.cells.lookup x = some c) ∧ (∀ y ∈ scope.names, y.2 = .free → ∃ c, cl.lookup y.1 = some c) := by
  obtain ⟨cl, e, h1, h2, _⟩ := closFor_go scope.names [] h (fun x c e => by simp at e)
  refine ⟨cl, ?_, h1, h2⟩
  unfold closureFor
  show ((forIn scope.names [] (fun x r => if (x.2 == NameKind.free) = true then (cellOf env x.1 >>= fun c => pure (ForInStep.yield ((x.1, c) :: r))) else pure (ForInStep.yield r)) : Sem (List (Str × Addr))) >>= fun r => pure r) = _
  rw [e]
  rfl
def relK (env : Env) (x : Str) (k : NameKind) : NameKind := if (k == .free && env.scope.kind == .function && env.kindOf x == some .cell) = true then .cell else k
theorem lookup_relabel {env : Env} {x : Str} : ∀ (names : List (Str × NameKind)),
    (names.map fun (n, k) => if (k == NameKind.free && env.scope.kind == .function && env.kindOf n == some .cell) = true then (n, NameKind.cell) else (n, k)).lookup x = (names.lookup x).map (relK env x)
  | [] => rfl
  | (n, k) :: r => by
    have ih := lookup_relabel (env := env) (x := x) r
    have e : (if (k == NameKind.free && env.scope.kind == .function && env.kindOf n == some .cell) = true then (n, NameKind.cell) else (n, k)) = (n, relK env n k) := by
      unfold relK
      split <;> rfl
    show List.lookup x ((if (k == NameKind.free && env.scope.kind == .function && env.kindOf n == some .cell) = true then (n, NameKind.cell) else (n, k)) :: _) = _
    rw [e, List.lookup_cons, List.lookup_cons]
    cases hx : x == n with
    | true =>
      have := eq_of_beq hx
      subst this
      rfl
    | false => exact ih
theorem kindOf_comp {scope : Scope} {cl : List (Str × Addr)} {C : Addr} {env : Env} {x : Str} : (compEnvC scope cl C env).kindOf x = (scope.names.lookup x).map (relK env x) := lookup_relabel (env := env) (x := x) scope.names
theorem relK_free {env : Env} {x : Str} : relK env x .free = .cell ∨ relK env x .free = .free := by
  unfold relK
  split
  · exact .inl rfl
  · exact .inr rfl
theorem relK_of {env : Env} {x : Str} {k : NameKind} (h : relK env x k = .cell ∨ relK env x k = .free) : k = .cell ∨ k = .free := by
  unfold relK at h
  split at h
  · rename_i z
    simp only [Bool.and_eq_true, beq_iff_eq] at z
    exact .inr z.1.1
  · exact h
def capt (caps : List (Option Nat)) (σ : St) : St := caps.map fun o => match o with
  | none => none
  | some j => (σ[j]?).join
def compOk (oN : List Str) (osc : Scope) (N : List Str) (caps : List (Option Nat)) (sc : Scope) : Bool :=
  (sc.kind == .function) && decide N.Nodup && (N.length == caps.length) && sc.names.all (fun y => !(y.2 == .cell)) &&
  sc.names.all (fun y => !(y.2 == .local) || sc.names.lookup y.1 == some .local) &&
  sc.names.all (fun y => !(y.2 == .free) || (osc.names.lookup y.1 == some .cell || osc.names.lookup y.1 == some .free)) &&
  (N.zip caps).all (fun p => match p.2 with
    | none => true
    | some j => oN[j]? == some p.1 && sc.names.lookup p.1 == some .free)
structure CompOk (oN : List Str) (osc : Scope) (N : List Str) (caps : List (Option Nat)) (sc : Scope) : Prop where
  kind : sc.kind = .function
  nd : N.Nodup
  len : N.length = caps.length
  nocell : ∀ y ∈ sc.names, y.2 ≠ .cell
  loc : ∀ y ∈ sc.names, y.2 = .local → sc.names.lookup y.1 = some .local
  fr : ∀ y ∈ sc.names, y.2 = .free → osc.names.lookup y.1 = some .cell ∨ osc.names.lookup y.1 = some .free
  cap : ∀ (i j : Nat) (x : Str), N[i]? = some x → caps[i]? = some (some j) → oN[j]? = some x ∧ sc.names.lookup x = some .free
theorem compOk_of {oN : List Str} {osc : Scope} {N : List Str} {caps : List (Option Nat)} {sc : Scope} (h : compOk oN osc N caps sc = true) : CompOk oN osc N caps sc := by
  unfold compOk at h
  simp only [Bool.and_eq_true, List.all_eq_true, decide_eq_true_eq, beq_iff_eq, Bool.or_eq_true, Bool.not_eq_true', beq_eq_false_iff_ne, ne_eq] at h
  obtain ⟨⟨⟨⟨⟨⟨h1, h2⟩, h3⟩, h4⟩, h5⟩, h6⟩, h7⟩ := h
  refine ⟨h1, h2, h3, h4, fun y hy e => ?_, fun y hy e => ?_, fun i j x hi hj => ?_⟩
  · rcases h5 y hy with z | z
    · exact absurd e z
    · exact z
  · rcases h6 y hy with z | z
    · exact absurd e z
    · exact z
  · have hm : (x, some j) ∈ N.zip caps := by
      refine List.mem_of_getElem? (i := i) ?_
      rw [List.getElem?_zip_eq_some]
      exact ⟨hi, hj⟩
    have := h7 _ hm
    simpa using this
def cxComp (X : Cx) (N : List Str) (scope : Scope) (cl : List (Str × Addr)) (C : Addr) (fp : List Addr) (s : Shared) (H : Hp) : Cx :=
  { X with N := N, s₀ := s, H₀ := H, env := compEnvC scope cl C X.env, outer := X.stack, ex := fp, fn := fun _ => false, pn := [], xe := fun _ _ => False }
section
variable {X : Cx} {pins : List (Addr × Obj)} {σ : St} {H : Hp} {s : Shared} {N : List Str} {caps : List (Option Nat)} {scope : Scope} {cl : List (Str × Addr)} {fp : List Addr}
theorem inv_comp (I : Inv X pins σ H s) (hf : ∀ b ∈ fp, FpOk X pins H b) (ho : ∀ b ∈ fp, ∃ o, s.heap.get? b = some o) (S : CompOk X.N X.env.scope N caps scope)
    (c1 : ∀ x c, cl.lookup x = some c → X.env.cells.lookup x = some c) (c2 : ∀ y ∈ scope.names, y.2 = .free → ∃ c, cl.lookup y.1 = some c)
    {h' : Heap} {m : Str → Option Value} {tk : Nat} (hn : h'.Ns s.heap.objs.size m) (hk : ∀ b u, s.heap.get? b = some u → h'.get? b = some u) :
    Inv (cxComp X N scope cl s.heap.objs.size fp s H) [] (capt caps σ) H { s with heap := h', toks := tk } := by
  have noS : ∀ b ∈ fp, b ∉ frs X.stack := fun b hb z => by
    obtain ⟨_, f1, f2, _⟩ := hf b hb
    rcases List.mem_cons.mp (I.stkSub b z) with e | e
    · exact f1 e
    · exact f2 e
  have frOf : ∀ x, scope.names.lookup x = some .free → ∃ c, cl.lookup x = some c := fun x e => c2 (x, .free) (PySem.mem_of_lookup e) rfl
  refine ⟨⟨I.ok.mod, S.kind, I.ok.glob, I.ok.blt, Nat.le_refl _, fun x y c e1 e2 => I.ok.inj x y c (c1 x c e1) (c1 y c e2), fun x hx => ?_, fun x c z _ => absurd (show false = true from z) (by decide), I.ok.hd, I.ok.frames, .inl rfl,
    fun b hb => ⟨?_, fun x c e => (hf b hb).2.2.2.2.1 x c (c1 x c e)⟩, I.bs, Nat.le_trans I.ok.bsz I.sz, fun b o e hb => ?_, noS, I.stack, I.stkFree⟩,
    rfl, I.bare, Un.kept hk, ⟨m, hn, fun i x v e1 e2 e3 => ?_⟩, fun x c e => ?_, I.hok.fresh (Nat.le_refl _), fun x c e => I.freeC x c (c1 x c e), fun p hp => absurd (show p ∈ ([] : List (Addr × Obj)) from hp) (by simp), I.hok.kept hk, ?_⟩
  · have hx' : (scope.names.lookup x).map (relK X.env x) = some .cell ∨ (scope.names.lookup x).map (relK X.env x) = some .free := by
      rw [← kindOf_comp (cl := cl) (C := s.heap.objs.size)]
      exact hx
    cases e : scope.names.lookup x with
    | none =>
      rw [e] at hx'
      rcases hx' with z | z <;> cases z
    | some k =>
      rw [e] at hx'
      have z : relK X.env x k = .cell ∨ relK X.env x k = .free := by
        rcases hx' with z | z
        · exact .inl (Option.some.inj z)
        · exact .inr (Option.some.inj z)
      rcases relK_of z with z | z
      · subst z
        exact absurd rfl (S.nocell _ (PySem.mem_of_lookup e))
      · subst z
        exact frOf x e
  · obtain ⟨o, e⟩ := ho b hb
    exact Nat.ne_of_lt (Heap.lt_size e)
  · obtain ⟨_, _, _, f3, _⟩ := hf b hb
    rcases f3 with z | z
    · exact I.ok.noex b o e z
    · exact absurd (Nat.lt_of_lt_of_le (Heap.lt_size e) (Nat.le_trans I.ok.bsz z)) (Nat.lt_irrefl _)
  · have hi : i < caps.length := by
      unfold capt at e2
      obtain ⟨h1, _⟩ := List.getElem?_eq_some_iff.mp e2
      simpa using h1
    have ec : (capt caps σ)[i]? = (caps[i]?).map fun o => match o with
        | none => none
        | some j => (σ[j]?).join := by
      unfold capt
      rw [List.getElem?_map]
    rw [e2] at ec
    cases q : caps[i]? with
    | none =>
      rw [q] at ec
      cases ec
    | some o =>
      rw [q] at ec
      cases o with
      | none =>
        cases (Option.some.inj ec)
      | some j =>
        have ej : σ[j]? = some (some v) := by
          have z : some v = (σ[j]?).join := Option.some.inj ec
          cases q2 : σ[j]? with
          | none => rw [q2] at z; cases z
          | some w => rw [q2] at z; exact congrArg some z.symm
        obtain ⟨n1, n2⟩ := S.cap i j x e1 q
        have vis : X.env.kindOf x = some .cell ∨ X.env.kindOf x = some .free := S.fr (x, .free) (PySem.mem_of_lookup n2) rfl
        obtain ⟨m0, _, hl⟩ := I.loc
        obtain ⟨u, r, l⟩ := hl j x v n1 ej (.inr vis)
        refine ⟨u, r, ?_⟩
        rcases l with ⟨k, _⟩ | ⟨_, c, ec, z⟩
        · rw [k] at vis
          rcases vis with z | z <;> cases z
        · obtain ⟨c', e'⟩ := frOf x n2
          have : c' = c := Option.some.inj ((c1 x c' e').symm.trans ec)
          subst this
          refine .inr ⟨?_, c', e', ?_⟩
          · have kk : (compEnvC scope cl s.heap.objs.size X.env).kindOf x = some (relK X.env x .free) := by rw [kindOf_comp, n2]; rfl
            rcases relK_free (env := X.env) (x := x) with z | z
            · rw [z] at kk; exact .inl kk
            · rw [z] at kk; exact .inr kk
          · obtain ⟨o, ho1, ho2⟩ := z
            exact ⟨o, hk _ _ ho1, ho2⟩
  · obtain ⟨v, o, ho1, ho2⟩ := I.cell x c (c1 x c e)
    exact ⟨v, o, hk _ _ ho1, ho2⟩
  · show (capt caps σ).length = N.length
    unfold capt
    rw [List.length_map]
    exact S.len.symm
end
end L2
namespace L2
open PySem PySem.Spec PyProof.Rows
def PF (X : Cx) (ifs : List Expr) (t : TT) : Prop :=
  ∀ (pins : List (Addr × Obj)) (s : Shared) (σ : St) (H : Hp) (Q : Bool → Hp → Prop), Inv X pins σ H s → t σ H Q →
    wpAny (model X.prog X.w) X.A (forIn ifs true fun c r => if r = true then do let ok ← isTrue c X.env (eval c X.env); pure (ForInStep.yield ok) else pure (ForInStep.yield r)) (TP X pins σ Q) X.xe s
def tYes : TT := fun _ H Q => Q true H
section
variable {X : Cx}
theorem pf_nil : PF X [] tYes := fun _ _ _ H _ I h => wpAny_pure ⟨H, I, h⟩
theorem pf_one {c : Expr} {t : TT} (hc : PT X c t) : PF X [c] t := by
  intro pins s σ H Q I h
  rw [List.forIn_cons]
  refine wpAny_bind ?_
  rw [if_pos rfl]
  refine wpAny_bind (thn (hc pins s σ H Q I h) fun ok s1 q => wpAny_pure ?_)
  exact wpAny_pure q
end
theorem compLoop_any {prog : Program} {w : World} {A : Around} {R : Result → Shared → Prop} {s : Shared} {elt target iter : Expr} {ifs : List Expr} {scope : Scope} {pos : Pos} {it acc : Value} {env : Env} (I : Nat → Shared → Prop)
    (turn : ∀ n s, I n s → wpAny (model prog w) A (pyNext it) (fun r s₁ => match r with
      | none => R (.ok .next) s₁
      | some v => wpAny (model prog w) A (letOwnedTupleGo target it v) (fun _ s₁' => wpAny (model prog w) A (assign target env v) (fun _ s₂ =>
          wpAny (model prog w) A (forIn ifs true fun c r => if r = true then do let ok ← isTrue c env (eval c env); pure (ForInStep.yield ok) else pure (ForInStep.yield r)) (fun ok s₃ =>
            if ok = true then wpAny (model prog w) A (eval elt env) (fun x s₄ =>
              wpAny (model prog w) A (call (.builtin "list.append") [acc, x]) (fun _ s₅ => ∃ m, m < n ∧ I m s₅) (fun _ _ => False) s₄) (fun _ _ => False) s₃
            else ∃ m, m < n ∧ I m s₃) (fun _ _ => False) s₂) (fun _ _ => False) s₁') (fun _ _ => False) s₁) (fun _ _ => False) s)
    (n : Nat) (h : I n s) :
    codeAny (model prog w) A (.compLoop (.ListComp elt [⟨target, iter, ifs, 0⟩] scope pos) 0 it acc env) R s := by
  refine codeAny_loop rfl I (fun n s hI => ?_) n h
  show wpAny _ A ((compTurn (.ListComp elt [⟨target, iter, ifs, 0⟩] scope pos) 0 it acc env).onRaise (fun x => do noteFrame x env; theTreesLotGoes x)) _ _ s
  refine wpAny_noted ?_
  rw [compTurn_list]
  refine wpAny_bind (wpAny_standAt (wpAny_bind (wpAny_mono (turn n s hI) (fun r s₁ h₁ => ?_) fun _ _ z => False.elim z)))
  cases r with
  | none => exact wpAny_pure h₁
  | some v =>
    refine wpAny_bind (wpAny_mono h₁ (fun _ s₁' h₁' => ?_) fun _ _ z => False.elim z)
    refine wpAny_bind (wpAny_mono h₁' (fun _ s₂ h₂ => wpAny_bind (wpAny_mono h₂ (fun ok s₃ h₃ => ?_) fun _ _ z => False.elim z)) fun _ _ z => False.elim z)
    cases ok with
    | false => exact wpAny_pure ⟨rfl, h₃⟩
    | true =>
      exact wpAny_bind (wpAny_bind (wpAny_mono h₃ (fun x s₄ h₄ => wpAny_bind (wpAny_mono h₄ (fun _ s₅ h₅ => wpAny_pure (wpAny_pure ⟨rfl, h₅⟩)) fun _ _ z => False.elim z)) fun _ _ z => False.elim z))
def CompW (J : It) (g : TG) (tf : TT) (te : TE) (D : Addr) (QE : Hp → Prop) (W : Nat → Nat → St → Hp → Prop) : Prop := ∀ i m σ H, W i m σ H →
  (J.stop i H ∧ QE H) ∨ (J.go i H ∧ ∃ N : St → Hp → Prop, (∀ σ' H', N σ' H' → ∃ m', m' < m ∧ W (i + 1) m' σ' H') ∧ ∀ x H', J.yld i H x H' → g x σ H' fun σ2 H2 => tf σ2 H2 fun b H3 =>
    if b = true then te σ2 H3 fun v H4 => ∃ xs, H4 D = some (.lst xs) ∧ xs.length < sizeLine ∧ N σ2 (upd H4 D (.lst (xs ++ [v]))) else N σ2 H3)
def tComp (caps : List (Option Nat)) (wi : TI) (g : TG) (tf : TT) (te : TE) : TE := fun σ H Q => wi σ H fun J H1 => ∀ D, H1 D = none →
  ∃ W : Nat → Nat → St → Hp → Prop, (∃ m, W 0 m (capt caps σ) (upd H1 D (.lst []))) ∧ CompW J g tf te D (fun H' => Q (.ref D) H') W
section
variable {X : Cx} {pins : List (Addr × Obj)} {σ : St} {H : Hp} {s : Shared} {N : List Str} {caps : List (Option Nat)} {scope : Scope} {elt tg iter : Expr} {ifs : List Expr} {wi : TI} {g : TG} {tf : TT} {te : TE} {pos : Pos}
theorem comp_core {RR : Value → Addr → Result → Shared → Prop} {cl : List (Str × Addr)} {Q : VK} (hc : X.calm = true) (S : CompOk X.N X.env.scope N caps scope) (hi : PI X tg iter wi)
    (hg : ∀ cl C fp s H, PG (cxComp X N scope cl C fp s H) tg g) (hf : ∀ cl C fp s H, PF (cxComp X N scope cl C fp s H) ifs tf) (he : ∀ cl C fp s H, PE (cxComp X N scope cl C fp s H) elt te)
    (c1 : ∀ x c, cl.lookup x = some c → X.env.cells.lookup x = some c) (c2 : ∀ y ∈ scope.names, y.2 = .free → ∃ c, cl.lookup y.1 = some c)
    (I : Inv X pins σ H s) (h : tComp caps wi g tf te σ H Q)
    (fin : ∀ (D C : Addr) (m : Str → Option Value) (H5 : Hp) (s5 : Shared), Inv X pins σ H5 s5 → s5.heap.Ns C m → FpOk X pins H5 C → Q (.ref D) H5 → RR (.ref D) C (.ok .next) s5) :
    wpAny (model X.prog X.w) X.A (eval iter X.env) (fun x s₁ => wpAny (model X.prog X.w) X.A (pyIter x) (fun it s₂ => wpAny (model X.prog X.w) X.A (newList []) (fun acc s₃ =>
      wpAny (model X.prog X.w) X.A (newFunctionEnv scope X.env.globals cl [] X.env.qual none .none (some X.env)) (fun cenv s₄ =>
        codeAny (model X.prog X.w) X.A (.compStart (.ListComp elt [⟨tg, iter, ifs, 0⟩] scope pos) 0 it acc { cenv with scope := relabel scope X.env }) (RR acc cenv.locals) s₄) X.xe s₃) X.xe s₂) X.xe s₁) X.xe s := by
  refine thn (hi pins s σ H _ I h) fun v s1 h1 => thn h1 fun itv s2 h2 => ?_
  obtain ⟨it, fp, tn, J, H2, e, I2, T, st2, f2, q⟩ := h2
  subst e
  have nD : H2 s2.heap.objs.size = none := I2.hok.fresh (Nat.le_refl _)
  obtain ⟨W, ⟨m0, w0⟩, turn⟩ := q s2.heap.objs.size nD
  refine wpAny_newObj_type ?_
  have I3 : Inv X pins σ (upd H2 s2.heap.objs.size (.lst [])) { s2 with heap := s2.heap.push { cls := .type "list", data := .seq ([] : List Value).toArray } } :=
    I2.laid (t' := s2.toks) (o := .lst []) (fun b ob e => Heap.get?_push_of_some _ e) (Nat.le_refl _) ⟨Nat.zero_le _, [], 0, .nil, Heap.get?_push_size _ rfl⟩
  have ob2 : ∀ b ∈ fp, ∃ o, s2.heap.get? b = some o := fun b hb => let ⟨o, e, _⟩ := T.obj 0 s2.heap st2 b hb; ⟨o, e⟩
  have nfD : ∀ b ∈ fp, b ≠ s2.heap.objs.size := fun b hb => let ⟨o, e⟩ := ob2 b hb; Nat.ne_of_lt (Heap.lt_size e)
  generalize hs3 : ({ s2 with heap := s2.heap.push { cls := .type "list", data := .seq ([] : List Value).toArray } } : Shared) = s3 at I3
  have eh : s3.heap = s2.heap.push { cls := .type "list", data := .seq ([] : List Value).toArray } := by rw [← hs3]
  generalize hD : s2.heap.objs.size = D at *
  generalize hH3 : upd H2 D (.lst []) = H3 at I3 w0
  have f3 : ∀ b ∈ fp, FpOk X pins H3 b := fun b hb => ⟨by rw [← hH3, upd_ne (nfD b hb)]; exact (f2 b hb).1, (f2 b hb).2⟩
  have ob3 : ∀ b ∈ fp, ∃ o, s3.heap.get? b = some o := fun b hb => let ⟨o, e⟩ := ob2 b hb; ⟨o, by rw [eh]; exact Heap.get?_push_of_some _ e⟩
  have st3 : tn 0 s3.heap := T.keep 0 _ _ st2 fun b hb o e => by rw [eh]; exact Heap.get?_push_of_some _ e
  show wpAny (model X.prog X.w) X.A (newFunctionEnv scope X.env.globals cl [] X.env.qual none .none (some X.env)) _ X.xe s3
  refine wpAny_newFunctionEnv S.nocell (by intro y hy; simp at hy) (fun h₁ hns₁ hsb₁ => ?_) S.kind
  have k1 : ∀ b u, s3.heap.get? b = some u → h₁.get? b = some u := fun b u e => hsb₁.extBut b u (Nat.ne_of_lt (Heap.lt_size e)) (Heap.get?_push_of_some _ e)
  have J0 := inv_comp (tk := s3.toks + ([] : List (Str × Value)).length) I3 f3 ob3 S c1 c2 hns₁ k1
  generalize hC : s3.heap.objs.size = C at *
  generalize hX' : cxComp X N scope cl C fp s3 H3 = X' at J0
  have st4 : tn 0 h₁ := T.keep 0 _ _ st3 fun b hb o e => k1 b o e
  have stat : ∀ {H' : Hp}, (∀ b ∈ fp, H' b = none) → ∀ b ∈ fp, FpOk X' [] H' b := fun {H'} hn b hb => by
    subst hX'
    exact ⟨hn b hb, (J0.ok.exf b hb).1, J0.ok.exfs b hb, .inl hb, (J0.ok.exf b hb).2, fun p hp => absurd (show p ∈ ([] : List (Addr × Obj)) from hp) (by simp)⟩
  have loop : ∀ s4 : Shared, s4 = { s3 with heap := h₁, toks := s3.toks + ([] : List (Str × Value)).length } →
      codeAny (model X.prog X.w) X.A (.compLoop (.ListComp elt [⟨tg, iter, ifs, 0⟩] scope pos) 0 (.ref it) (.ref D) (compEnvC scope cl C X.env)) (RR (.ref D) C) s4 := by
    rintro s4 rfl
    refine compLoop_any (fun n s' => ∃ i σ' H', Inv X' [] σ' H' s' ∧ tn i s'.heap ∧ (∀ b ∈ fp, H' b = none) ∧ W i n σ' H') ?_ m0 ⟨0, _, H3, J0, st4, fun b hb => (f3 b hb).1, w0⟩
    rintro n s4 ⟨i, σ4, H4, J4, st4, fr4, w4⟩
    rcases turn i n σ4 H4 w4 with ⟨stop, qn⟩ | ⟨go, Nn, hNn, step⟩
    · have d := T.done X' (by subst hX'; rfl) (by subst hX'; rfl) (by subst hX'; rfl) (by subst hX'; exact hc) i [] s4 σ4 H4 (fun _ _ => False) J4 (stat fr4) st4 stop
      have eA : X'.A = X.A := by subst hX'; rfl
      rw [eA] at d
      refine wpAny_mono d (fun r s5 hr => ?_) fun _ _ z => z
      obtain ⟨hr, J5⟩ := hr
      subst hr
      have I5 : Inv X pins σ H4 s5 := by
        subst hX'
        exact I3.call' J5.os J5.base J5.hok J5.bare fun b hb => ⟨(f3 b hb).2.2.2.1, (f3 b hb).2.1, (f3 b hb).2.2.2.2.1, (f3 b hb).2.2.2.2.2⟩
      obtain ⟨m, hn, _⟩ := J5.loc
      have fr := J5.free
      subst hX'
      exact fin D C m H4 s5 I5 hn (I3.fpOk (b := C) (Nat.le_of_eq hC) fr) qn
    · have d := T.item X' (by subst hX'; rfl) (by subst hX'; rfl) (by subst hX'; rfl) (by subst hX'; exact hc) i [] s4 σ4 H4 (fun _ _ => False) J4 (stat fr4) st4 go
      have eA : X'.A = X.A := by subst hX'; rfl
      rw [eA] at d
      refine wpAny_mono d (fun r s5 hr => ?_) fun _ _ z => z
      obtain ⟨u, hr, h5⟩ := hr
      subst hr
      refine wpAny_mono h5 (fun _ s6 q6 => ?_) fun _ _ z => z
      obtain ⟨x, H6, J6, r6, y6, st6, fr6⟩ := q6
      have J6' := J6.pinned (stat fr6) (T.obj _ _ st6)
      have again : ∀ {H9 : Hp} {s9 : Shared} {σ9 : St}, Inv X' ([] ++ pinsAt fp s6.heap) σ9 H9 s9 → Nn σ9 H9 → ∃ m, m < n ∧ ∃ i σ' H', Inv X' [] σ' H' s9 ∧ tn i s9.heap ∧ (∀ b ∈ fp, H' b = none) ∧ W i m σ' H' := fun {H9 s9 σ9} J9 q9 => by
        obtain ⟨m', hm, w9⟩ := hNn σ9 H9 q9
        refine ⟨m', hm, i + 1, σ9, H9, J9.unpinned, T.keep _ _ _ st6 fun b hb o e => (J9.pin (b, o) (List.mem_append_right _ (List.mem_append_right _ (mem_pinsAt hb e)))).1, fun b hb => ?_, w9⟩
        obtain ⟨o, e, d⟩ := T.obj _ _ st6 b hb
        exact (J9.pin (b, o) (List.mem_append_right _ (List.mem_append_right _ (mem_pinsAt hb e)))).2.1
      subst hX'
      refine wpAny_mono (hg cl C fp s3 H3 _ s6 σ4 H6 x u _ J6' r6 (step x H6 y6)) (fun _ s7 q7 => ?_) fun _ _ z => z
      obtain ⟨σ7, H7, J7, q7⟩ := q7
      refine wpAny_mono (hf cl C fp s3 H3 _ s7 σ7 H7 _ J7 q7) (fun ok s8 q8 => ?_) fun _ _ z => z
      obtain ⟨H8, J8, q8⟩ := q8
      cases ok with
      | false =>
        rw [if_neg (by decide)] at q8
        rw [if_neg (by decide)]
        exact again J8 q8
      | true =>
        rw [if_pos rfl] at q8
        rw [if_pos rfl]
        refine wpAny_mono (he cl C fp s3 H3 _ s8 σ7 H8 _ J8 q8) (fun v9 s9 q9 => ?_) fun _ _ z => z
        obtain ⟨y, H9, J9, r9, xs, hD9, hz, q9⟩ := q9
        refine wpAny_mono (mt_append (X := cxComp X N scope cl C fp s3 H3) _ s9 σ7 H9 (.ref D) [y] (.ref D) [v9] (fun _ H' => Nn σ7 H') J9 rfl (.cons r9 .nil) ⟨D, xs, y, rfl, rfl, hD9, hz, q9⟩) (fun _ s10 q10 => ?_) fun _ _ z => z
        obtain ⟨_, H10, J10, _, q10⟩ := q10
        exact again J10 q10
  exact codeAny_compStart_list (loop _ rfl) (T.self _ 0 _ _ _ st4 (loop _ rfl))
theorem pe_comp (hc : X.calm = true) (ho : compOk X.N X.env.scope N caps scope = true) (hi : PI X tg iter wi)
    (hg : ∀ cl C fp s H, PG (cxComp X N scope cl C fp s H) tg g) (hf : ∀ cl C fp s H, PF (cxComp X N scope cl C fp s H) ifs tf) (he : ∀ cl C fp s H, PE (cxComp X N scope cl C fp s H) elt te)
    (hs : ∀ x, foldedSetIterable iter X.env x = pure x := by intro _; rfl) : PE X (.ListComp elt [⟨tg, iter, ifs, 0⟩] scope pos) (tComp caps wi g tf te) := by
  intro pins s σ H Q I h
  have S := compOk_of ho
  obtain ⟨cl, hcl, c1, c2⟩ := closFor (scope := scope) (env := X.env) (fun y hy e => I.ok.has y.1 (S.fr y hy e))
  rw [eval_ListComp]
  refine wpAny_comprehension_free (use := none) rfl hs hcl S.kind S.loc (comp_core (RR := fun acc C => compPost (model X.prog X.w) X.A X.xe none (EP X pins σ Q) acc C) hc S hi hg hf he c1 c2 I h ?_)
  intro D C m H5 s5 I5 hn fC q
  exact ⟨m, hn, fun h' sb => ⟨.ref D, H5, I5.turned (t' := s5.toks) (fun b o hb e => (sb.2 b hb).trans e) fC.1 fC.2.1 fC.2.2.2.1 fC.2.2.2.2.1 fC.2.2.2.2.2, rfl, q⟩⟩
theorem ps_setComp {i : Nat} {x : Str} {px spos : Pos} (hN : X.N.Nodup) (hix : X.N[i]? = some x) (hx : X.env.scope.names.lookup x = some .local) (hc : X.calm = true) (ho : compOk X.N X.env.scope N caps scope = true) (hi : PI X tg iter wi)
    (hg : ∀ cl C fp s H, PG (cxComp X N scope cl C fp s H) tg g) (hf : ∀ cl C fp s H, PF (cxComp X N scope cl C fp s H) ifs tf) (he : ∀ cl C fp s H, PE (cxComp X N scope cl C fp s H) elt te)
    (hsw : swapsWith (.ListComp elt [⟨tg, iter, ifs, 0⟩] scope pos) (some (.Name x px)) spos.line X.env = pure true := by rfl)
    (hs : ∀ x, foldedSetIterable iter X.env x = pure x := by intro _; rfl) : PS X (.Assign [.Name x px] (.ListComp elt [⟨tg, iter, ifs, 0⟩] scope pos) spos) (tAsg (tComp caps wi g tf te) (gName i)) := by
  intro pins s σ H D I h
  have S := compOk_of ho
  obtain ⟨cl, hcl, c1, c2⟩ := closFor (scope := scope) (env := X.env) (fun y hy e => I.ok.has y.1 (S.fr y hy e))
  rw [exec_Assign_Name_used _ _ _ _ hsw]
  refine wpAny_bind (wpAny_standAt (wpAny_bind ?_))
  show wpAny _ X.A (do let _ ← comprehension (.ListComp elt [⟨tg, iter, ifs, 0⟩] scope pos) scope X.env _ (newList []) false (eval iter X.env) (some (assign (.Name x px) X.env))) _ _ s
  refine wpAny_bind (wpAny_mono (wpAny_comprehension_free (use := some (assign (.Name x px) X.env)) (Q := fun _ s' => SP X pins D .next s') rfl hs hcl S.kind S.loc
    (comp_core (RR := fun acc C => compPost (model X.prog X.w) X.A X.xe (some (assign (.Name x px) X.env)) (fun _ s' => SP X pins D .next s') acc C) hc S hi hg hf he c1 c2 I h ?_)) (fun _ s' hq => wpAny_pure (wpAny_pure hq)) fun _ _ e => e)
  intro Da C m H5 s5 I5 hn fC q
  obtain ⟨oC, es, ep, hoC, hd, hrest⟩ := id hn
  have I5' := I5.pinned (fp := [C]) (fun b hb => by
    have e : b = C := by simpa using hb
    subst e; exact fC) (fun b hb => by
    have e : b = C := by simpa using hb
    subst e; exact ⟨oC, hoC, fun v z => by rw [hd] at z; cases z⟩)
  show wpAny _ X.A (assign (.Name x px) X.env (.ref Da)) _ _ _
  refine wpAny_assign_Name (store_ok I5' hN hix (.inl hx) (v := .ref Da) rfl (fun s6 I6 => ?_) (.inr hx))
  have pC := I6.pin (C, oC) (List.mem_append_right _ (List.mem_append_right _ (mem_pinsAt (by simp) hoC)))
  refine ⟨m, ⟨oC, es, ep, pC.1, hd, hrest⟩, fun h' sb => ?_⟩
  exact ⟨_, H5, I6.unpinned.turned (t' := s6.toks) (fun b o hb e => (sb.2 b hb).trans e) fC.1 fC.2.1 fC.2.2.2.1 fC.2.2.2.2.1 fC.2.2.2.2.2, q⟩
end
end L2
namespace L2
open PySem PySem.Spec PyProof.Rows
theorem comp_by {J : It} {g : TG} {tf : TT} {te : TE} {D : Addr} {QE : Hp → Prop} {σ : St} {H : Hp} (n : Nat) (Pv : Nat → St → Hp → Prop) (h0 : Pv 0 σ H) (hgo : ∀ i σ H, i < n → Pv i σ H → J.go i H) (hst : ∀ σ H, Pv n σ H → J.stop n H ∧ QE H)
    (hs : ∀ i σ H, i < n → Pv i σ H → ∀ x H', J.yld i H x H' → g x σ H' fun σ2 H2 => tf σ2 H2 fun b H3 => if b = true then te σ2 H3 fun v H4 => ∃ xs, H4 D = some (.lst xs) ∧ xs.length < sizeLine ∧ Pv (i + 1) σ2 (upd H4 D (.lst (xs ++ [v]))) else Pv (i + 1) σ2 H3) :
    ∃ W : Nat → Nat → St → Hp → Prop, (∃ m, W 0 m σ H) ∧ CompW J g tf te D QE W := by
  refine ⟨fun i m σ H => m = n - i ∧ i ≤ n ∧ Pv i σ H, ⟨n, by simp, Nat.zero_le _, h0⟩, ?_⟩
  rintro i m σ H ⟨rfl, hi, p⟩
  by_cases hlt : i < n
  · exact .inr ⟨hgo i σ H hlt p, Pv (i + 1), fun σ' H' p' => ⟨n - (i + 1), by lia, rfl, hlt, p'⟩, hs i σ H hlt p⟩
  · have e : i = n := by lia
    subst e
    exact .inl (hst σ H p)
theorem for_by {J : It} {g : TG} {tb : TS} {D : Ends} {σ : St} {H : Hp} (n : Nat) (Pv : Nat → St → Hp → Prop) (h0 : Pv 0 σ H) (hgo : ∀ i σ H, i < n → Pv i σ H → J.go i H) (hst : ∀ σ H, Pv n σ H → J.stop n H ∧ D.nx σ H)
    (hs : ∀ i σ H, i < n → Pv i σ H → ∀ x H', J.yld i H x H' → g x σ H' fun σ2 H2 => tb { D with nx := Pv (i + 1), ct := Pv (i + 1), bk := D.nx } σ2 H2) :
    ∃ W : Nat → Nat → St → Hp → Prop, (∃ m, W 0 m σ H) ∧ ∀ i m σ H, W i m σ H →
      (J.stop i H ∧ D.nx σ H) ∨ (J.go i H ∧ ∃ N : St → Hp → Prop, (∀ σ' H', N σ' H' → ∃ m', m' < m ∧ W (i + 1) m' σ' H') ∧ ∀ x H', J.yld i H x H' → g x σ H' fun σ2 H2 => tb { D with nx := N, ct := N, bk := D.nx } σ2 H2) := by
  refine ⟨fun i m σ H => m = n - i ∧ i ≤ n ∧ Pv i σ H, ⟨n, by simp, Nat.zero_le _, h0⟩, ?_⟩
  rintro i m σ H ⟨rfl, hi, p⟩
  by_cases hlt : i < n
  · exact .inr ⟨hgo i σ H hlt p, Pv (i + 1), fun σ' H' p' => ⟨n - (i + 1), by lia, rfl, hlt, p'⟩, hs i σ H hlt p⟩
  · have e : i = n := by lia
    subst e
    exact .inl (hst σ H p)
def Its (z : Str) : It := ⟨fun i _ => i < z.cps.size, fun i H x H' => H' = H ∧ ∃ c, z.cps[i]? = some c ∧ x = .str ⟨#[c]⟩, fun i _ => i = z.cps.size⟩
theorem go_str {M : Model} {A : Around} {E : Value → Shared → Prop} {s : Shared} {tg : Expr} {it : Addr} {x : Str} {t : Tok} {Q : Unit → Shared → Prop} (hQ : Q () s) : wpAny M A (letOwnedTupleGo tg (.ref it) (.str x t)) Q E s := by
  unfold letOwnedTupleGo
  cases tg <;> exact wpAny_pure hQ
theorem turn_str {P : Program} {w : World} {K : PySem.W.Frag} {tg : Expr} (it : Addr) (z : Str) (t : Tok) (ty : String) (hty : ty = "str_ascii_iterator" ∨ ty = "str_iterator") :
    Turn P w K tg (Its z) [it] it (fun i h => h.IsStrIter it ty z t i) where
  mem := by simp
  obj := fun i h st b hb => by
    have e : b = it := by simpa using hb
    subst e
    obtain ⟨o, e, c, d⟩ := st
    exact ⟨o, e, fun v z => by rw [d] at z; cases z⟩
  keep := fun i h h' st k => let ⟨o, ho, r⟩ := st; ⟨o, k it (by simp) o ho, r⟩
  item := by
    intro X hP hw hK hc i pins s σ H E I hf st hg
    subst hP hw hK
    obtain ⟨f0, f1, f2, f3, f4, f5⟩ := hf it (by simp)
    have W : Walks X.prog X.w X.A it [it] [it] z.cps.size (SignAt z) (fun i h => h.IsStrIter it ty z t i) := by
      rcases hty with rfl | rfl
      · exact Walks.strAscii (I.ok.hd hc) it z t
      · exact Walks.strWide (I.ok.hd hc) it z t
    refine W.item i s _ _ hg st fun v h' tk hv st' kk => ?_
    obtain ⟨c, u, hx, rfl⟩ := hv
    have I1 : Inv X pins σ H { s with heap := h', toks := tk } := I.turned (fun b o hb e => kk b o (by simpa using hb) e) f0 f1 f3 f4 f5
    exact ⟨_, rfl, go_str ⟨.str ⟨#[c]⟩, H, I1, ⟨u, rfl⟩, ⟨rfl, c, hx, rfl⟩, st', fun b hb => (hf b hb).1⟩⟩
  done := by
    intro X hP hw hK hc i pins s σ H E I hf st hg
    subst hP hw hK
    obtain ⟨f0, f1, f2, f3, f4, f5⟩ := hf it (by simp)
    have W : Walks X.prog X.w X.A it [it] [it] z.cps.size (SignAt z) (fun i h => h.IsStrIter it ty z t i) := by
      rcases hty with rfl | rfl
      · exact Walks.strAscii (I.ok.hd hc) it z t
      · exact Walks.strWide (I.ok.hd hc) it z t
    have e : i = z.cps.size := hg
    subst e
    exact W.done s _ _ st fun h' tk kk => ⟨rfl, I.turned (fun b o hb e => kk b o (by simpa using hb) e) f0 f1 f3 f4 f5⟩
  self := fun _ _ _ _ _ st h => by
    rcases hty with rfl | rfl
    · exact wpAny_pyIter_striter_ascii st h
    · exact wpAny_pyIter_striter_wide st h
section
variable {X : Cx} {tg : Expr}
def iStr (tl : TE) : TI := fun σ H R => tl σ H fun x H1 => ∃ z, x = .str z ∧ R (Its z) H1
theorem pi_str {l : Expr} {tl : TE} (hl : PE X l tl) : PI X tg l (iStr tl) := by
  intro pins s σ H R I h
  refine thn (hl pins s σ H _ I h) fun v s1 ⟨x, H1, I1, r1, q1⟩ => ?_
  obtain ⟨z, e, q⟩ := q1
  subst e
  obtain ⟨t, rfl⟩ := r1
  have fin : ∀ ty, (ty = "str_ascii_iterator" ∨ ty = "str_iterator") → PIE X pins σ tg R (.ref s1.heap.objs.size) { s1 with heap := s1.heap.push { cls := .type ty, data := .fields #[.str z t, .int 0 0] } } := fun ty hty => by
    refine ⟨s1.heap.objs.size, [s1.heap.objs.size], _, _, H1, rfl, I1.kept (t' := s1.toks) fun b o e => Heap.get?_push_of_some _ e, turn_str _ z t ty hty, ⟨_, Heap.get?_push_size _ rfl, rfl, rfl⟩, fun b hb => ?_, q⟩
    have e : b = s1.heap.objs.size := by simpa using hb
    subst e
    exact I1.fpOk (Nat.le_refl _) (I1.hok.fresh (Nat.le_refl _))
  cases ha : z.cps.all (· < 128)
  · exact wpAny_pyIter_wide ha (fin _ (.inr rfl))
  · exact wpAny_pyIter_ascii ha (fin _ (.inl rfl))
end
def cutS (z : Str) (lo hi : Option Int) : Str := ⟨((z.cps.toList.drop (HT.sIx z.length 0 lo)).take (HT.sIx z.length z.length hi - HT.sIx z.length 0 lo)).toArray⟩
theorem strSlice_pick (lo hi : Option Int) (n : Nat) : Builtin.Str.strSliceIndices lo hi 1 n = (List.range (HT.sIx n n hi - HT.sIx n 0 lo)).map (HT.sIx n 0 lo + ·) := by
  have h : Builtin.Str.strSliceIndices lo hi 1 n = sliceRange ((HT.sIx n 0 lo : Nat) : Int) ((HT.sIx n n hi : Nat) : Int) 1 := by
    unfold Builtin.Str.strSliceIndices
    simp only [show (1 : Int) > 0 by decide, if_true]
    congr 1
    · cases lo with
      | none => rfl
      | some i =>
        rw [← HT.clip_eq i n 0]
        show max 0 (min (if i < 0 then i + (n : Int) else i) (n : Int)) = _
        split <;> lia
    · cases hi with
      | none => rfl
      | some i =>
        rw [← HT.clip_eq i n n]
        show max 0 (min (if i < 0 then i + (n : Int) else i) (n : Int)) = _
        split <;> lia
  rw [h]
  unfold sliceRange
  simp only [show (1 : Int) > 0 by decide, if_true]
  have e2 : (if ((HT.sIx n 0 lo : Nat) : Int) < ((HT.sIx n n hi : Nat) : Int) then (((HT.sIx n n hi : Nat) : Int) - ((HT.sIx n 0 lo : Nat) : Int) + 1 - 1) / 1 else 0).toNat = HT.sIx n n hi - HT.sIx n 0 lo := by
    split
    · rw [Int.ediv_one]; lia
    · lia
  rw [e2]
  apply List.map_congr_left
  intro k _
  lia
theorem pick_signs (xs : Array Nat) (i k : Nat) : (((List.range k).map (i + ·)).filterMap (xs[·]?)) = (xs.toList.drop i).take k := by
  induction k with
  | zero => simp
  | succ k ih =>
    rw [List.range_succ, List.map_append, List.filterMap_append, ih, List.take_succ]
    congr 1
    simp only [List.map_cons, List.map_nil, List.getElem?_drop, Array.getElem?_toList]
    cases h : xs[i + k]? <;> simp [h]
theorem cutS_length (z : Str) (lo hi : Option Int) : (cutS z lo hi).length ≤ z.length := by
  show ((z.cps.toList.drop _).take _).toArray.size ≤ z.length
  rw [List.size_toArray, List.length_take, List.length_drop]
  have : z.cps.toList.length = z.length := by simp [Str.length]
  lia
section
variable {X : Cx}
def rSlS : V → Option Int → Option Int → Hp → VK → Prop := fun x lo hi H Q => ∃ z, x = .str z ∧ z.length ≤ sizeLine ∧ Q (.str (cutS z lo hi)) H
theorem sl_str : SlR X rSlS := by
  intro pins s σ H x v vl vu lo hi sl Q I rx hs pl pu h
  obtain ⟨z, rfl, hzl, q⟩ := h
  obtain ⟨t, rfl⟩ := rx
  refine ⟨"str", _, F.slot_str_getitem.lookup, typeIs_str s z t, ?_⟩
  obtain ⟨l, rfl, el⟩ : ∃ l : Option (Int × Tok), vl = partValue l ∧ l.map (·.1) = lo := by
    cases pl with
    | none => exact ⟨none, rfl, rfl⟩
    | int i t => exact ⟨some (i, t), rfl, rfl⟩
  obtain ⟨u, rfl, eu⟩ : ∃ u : Option (Int × Tok), vu = partValue u ∧ u.map (·.1) = hi := by
    cases pu with
    | none => exact ⟨none, rfl, rfl⟩
    | int i t => exact ⟨some (i, t), rfl, rfl⟩
  refine wpAny_getItem_str_slice (l := l) (u := u) (st := none) hs rfl ?_
  have ep : slicePicked z l u none = (List.range (HT.sIx z.length z.length hi - HT.sIx z.length 0 lo)).map (HT.sIx z.length 0 lo + ·) := by
    unfold slicePicked
    rw [el, eu]
    exact strSlice_pick lo hi z.length
  have ec : (slicePicked z l u none).filterMap (z.cps[·]?) = (z.cps.toList.drop (HT.sIx z.length 0 lo)).take (HT.sIx z.length z.length hi - HT.sIx z.length 0 lo) := by
    rw [ep, pick_signs]
  unfold sliceMade
  split
  · rename_i hw
    have hlen : (slicePicked z l u none).length = z.length := by simpa using hw
    have e : cutS z lo hi = z := by
      have hl : z.cps.toList.length = z.length := by simp [Str.length]
      rw [ep, List.length_map, List.length_range] at hlen
      have h1 := HT.sIx_le z.length z.length (Nat.le_refl _) hi
      have a0 : HT.sIx z.length 0 lo = 0 ∨ z.length = 0 := by lia
      unfold cutS
      rcases a0 with a0 | a0
      · rw [hlen, a0, List.drop_zero, List.take_of_length_le (by lia)]
      · have z0 : z.cps.toList = [] := List.eq_nil_of_length_eq_zero (by lia)
        rw [z0, List.drop_nil, List.take_nil]
        cases z with
        | mk cps =>
          congr 1
          exact (Array.toList_inj.mp z0).symm
    rw [e] at q
    exact ⟨.str z, H, I, ⟨t, rfl⟩, q⟩
  · have e : (⟨((slicePicked z l u none).filterMap (z.cps[·]?)).toArray⟩ : Str) = cutS z lo hi := by
      unfold cutS
      rw [ec]
    rw [e]
    exact ⟨Nat.le_trans (cutS_length z lo hi) hzl, .str (cutS z lo hi), H, I.tok _, ⟨_, rfl⟩, q⟩
end
end L2
namespace L2
open PySem PySem.Spec PyProof.Rows
theorem all_range (bs : List Bool) : (List.range bs.length).all (fun i => (bs[i]?).getD true) = bs.all id := by
  rw [Bool.eq_iff_iff, List.all_eq_true, List.all_eq_true]
  constructor
  · intro h b hb
    obtain ⟨i, hi, e⟩ := List.mem_iff_getElem.mp hb
    have := h i (List.mem_range.mpr hi)
    rw [List.getElem?_eq_getElem hi, e] at this
    exact this
  · intro h i hi
    have hi' := List.mem_range.mp hi
    rw [List.getElem?_eq_getElem hi']
    exact h _ (List.getElem_mem hi')
theorem vals_bl {bs : List Bool} {us : List Value} (r : Vals (bs.map V.bl) us) {i : Nat} {v : Value} (h : us[i]? = some v) : ∃ b, bs[i]? = some b ∧ v = .bool b := by
  have hl := r.length
  obtain ⟨hi, _⟩ := List.getElem?_eq_some_iff.mp h
  rw [← hl, List.length_map] at hi
  have e : (bs.map V.bl)[i]? = some (V.bl bs[i]) := by rw [List.getElem?_map, List.getElem?_eq_getElem hi]; rfl
  obtain ⟨u, hu, ru⟩ := r.get e
  rw [h] at hu
  cases hu
  exact ⟨bs[i], List.getElem?_eq_getElem hi, ru⟩
section
variable {X : Cx}
theorem call_allL (hc : X.calm = true) (K : PySem.W.Frag) (hK : X.K = K := by rfl) : CallR X (.builtin "all") (fun xs H Q => ∃ (p : Addr) (bs : List Bool), xs = [.ref p] ∧ SqL K H p (bs.map V.bl) ∧ Q (.bl (bs.all id)) H) := by
  subst hK
  intro pins s σ H xs us Q I r h
  obtain ⟨p, bs, rfl, hp, q⟩ := h
  obtain ⟨u, rfl, ru⟩ := vals1 r
  cases ru
  obtain ⟨its, rv, pl, hz⟩ := I.list hp
  have hl : its.toArray.size = bs.length := by
    have := rv.length
    rw [List.length_map] at this
    rw [List.size_toArray]
    exact this.symm
  have hh : X.A.in1.handled = none := I.ok.hd hc
  have hne : p ≠ s.heap.objs.size := fun e => by
    obtain ⟨o, n, e1, _⟩ := pl
    exact absurd (Heap.lt_size e1) (by rw [e]; exact Nat.lt_irrefl _)
  refine call_all_walk (wpAny_pyIter_list pl.isList ?_)
  refine ⟨s.heap.objs.size, _, _, _, _, _, fun i => (bs[i]?).getD true, rfl, Walks.list hh _ p hne its.toArray, ⟨⟨_, Heap.get?_push_size _ rfl, rfl, rfl⟩, pl.isList.at fun o e => Heap.get?_push_of_some _ e⟩, ?_, fun h' tk kk => ?_⟩
  · intro i v s' Q' E' hv hq
    have hv' : its[i]? = some v := by simpa using hv
    obtain ⟨b, e, rfl⟩ := vals_bl rv hv'
    have hq' : Q' ((bs[i]?).getD true) s' := hq
    rw [e] at hq'
    exact wpAny_truthy_bool hq'
  · rw [hl, all_range]
    exact ⟨.bl _, H, I.kept fun b o e => kk b o (by simp; exact Nat.ne_of_lt (Heap.lt_size e)) (Heap.get?_push_of_some _ e), rfl, q⟩
def tyTs : List String := ["NoneType", "bool", "int", "str", "list", "tuple", "dict"]
def tyNs : List String := ["bool", "int", "str", "list", "tuple", "dict"]
def tyIs (T n : String) : Bool := T == n || (T == "bool" && n == "int")
theorem kit_tab : ∀ T ∈ tyTs, ∀ n ∈ tyNs, PySem.W.kitMeta n = true ∧ (PySem.fastBuiltinMro T).map (·.contains (Value.type n)) = some (tyIs T n) := by decide +kernel
theorem kit_one {K : PySem.W.Frag} {T n : String} (hT : T ∈ tyTs) (hn : n ∈ tyNs) : PySem.W.kitOne K (.type T) (.type n) = some (tyIs T n) := by
  obtain ⟨h1, h2⟩ := kit_tab T hT n hn
  unfold PySem.W.kitOne
  split
  · rename_i e
    have e' := eq_of_beq e
    injection e' with e''
    subst e''
    simp [tyIs]
  · unfold PySem.W.kitCls
    show (if PySem.W.kitMeta n = true then PySem.W.subIn K (.type T) (.type n) else none) = _
    rw [if_pos h1]
    exact h2
theorem call_isi (K : PySem.W.Frag) (hK : X.K = K := by rfl) : CallR X (.builtin "isinstance") (fun xs H Q => ∃ x n T, xs = [x, .ty n] ∧ TyOf K H x (.type T) ∧ T ∈ tyTs ∧ n ∈ tyNs ∧ Q (.bl (tyIs T n)) H) := by
  subst hK
  intro pins s σ H xs us Q I r h
  obtain ⟨x, n, T, rfl, ty, hT, hn, q⟩ := h
  obtain ⟨u, c, rfl, ru, rc⟩ := vals2 r
  cases rc
  exact isinst_ok I ru ty (kit_one hT hn) fun tk => ⟨.bl _, H, I.tok tk, rfl, q⟩
theorem pe_gI {x : Str} {i : Int} {pos : Pos} (hg : Gl X x) (hm : ∃ t, X.mg x = some (.int i t)) (hd : (x == ("__debug__" : Str)) = false := by decide) : PE X (.Name x pos) (tC (.int i)) := by
  obtain ⟨t, e⟩ := hm
  exact pe_glob hg e ⟨t, rfl⟩ hd
theorem pe_gS {x z : Str} {pos : Pos} (hg : Gl X x) (hm : ∃ t, X.mg x = some (.str z t)) (hd : (x == ("__debug__" : Str)) = false := by decide) : PE X (.Name x pos) (tC (.str z)) := by
  obtain ⟨t, e⟩ := hm
  exact pe_glob hg e ⟨t, rfl⟩ hd
theorem pe_ty {x : Str} {n : String} {pos : Pos} (hg : Gl X x) (hm : X.mg x = none) (hv : bootBuiltins x = some (.type n)) (hn : x ≠ "__name__" := by decide) (hd : (x == ("__debug__" : Str)) = false := by decide) : PE X (.Name x pos) (tC (.ty n)) :=
  pe_bltn hg hm hv rfl hn hd
end
structure Top (K : PySem.W.Frag) (mg : Str → Option Value) (x : Str) (st : Stmt) (ps : List Str) : Prop where
  ex : ∃ f fd, Fun K x x st f fd ∧ mg x = some (.ref f) ∧ ∀ us : List Value, us.length = ps.length → bindArgs fd ⟨us, []⟩ = pure (ps.zip us)
theorem top_mk {K : PySem.W.Frag} {h : Heap} {mg : Str → Option Value} {x : Str} {st : Stmt} {ps : List Str} {f : Addr} {oc : Value} {od an : Option Addr} {osl : Array (Option Value)} {kV doc pm cdv ct : Value} (X : K.In h) (G : h.Ns mainGlobals mg)
    (b : ∀ (kV doc pm : Value) (an : Option Addr) (cdv ct : Value) (us : List Value), us.length = ps.length → bindArgs (PySem.W.fnOf x x (defArgs st) (defBody st) (defScope st) .none kV doc pm an cdv ct) ⟨us, []⟩ = pure (ps.zip us))
    (a : PySem.W.nsIn K mainGlobals x = some (some (.ref f)))
    (l : K.lookup f = some ⟨oc, od, .func (PySem.W.fnOf x x (defArgs st) (defBody st) (defScope st) .none kV doc pm an cdv ct), osl⟩) (c : PySem.W.codeIn K cdv x = true) (k : PySem.W.keepIn K (.ref f) = true) : Top K mg x st ps := by
  have F := fun_mk (st := st) l c k
  exact ⟨f, _, F, PySem.W.mg_of X G a, b kV doc pm an cdv ct⟩
structure Def (P : Program) (w : World) (K : PySem.W.Frag) (mg : Str → Option Value) (base : Heap) (k : Nat) (x : Str) (ps : List Str) (sp : Sp) : Prop where
  ex : ∃ f fd, FnOk P w K mg base CX0 k f fd ps sp ∧ mg x = some (.ref f) ∧ PySem.W.keepIn K (.ref f) = true ∧ Binds K fd ps []
theorem Top.ok {P : Program} {w : World} {K : PySem.W.Frag} {mg : Str → Option Value} {base : Heap} {x : Str} {st : Stmt} {N ps : List Str} {k : Nat} {sp : Sp} (T : Top K mg x st ps) (S : FnScope N ps (defScope st)) (len : ∀ vs H Q E, sp vs H Q E → vs.length = ps.length)
    (hbody : ∀ (f : Addr) (cdv : Value) (A : Around) (outer : List Env) (s : Shared) (H : Hp) (vs : List V) (Q : VK) (E : XK), Room k (A.deeper (envOfC x (defScope st) s.heap.objs.size f cdv)) → sp vs H Q E →
      ∃ t, PSs (cxOf CX0 P w K mg base N x (defScope st) f cdv A outer s H E).nox (defBody st) t ∧ t { nx := fun _ H' => Q .non H', rt := Q } (start N vs) H) : Def P w K mg base (k + 1) x ps sp := by
  obtain ⟨f, fd, F, hm, hb⟩ := T.ex
  exact ⟨f, fd, F.ok S len (hbody f), hm, F.kp, Binds.all hb⟩
section
variable {X : Cx} {k k' : Nat} {x : Str} {ps : List Str} {sp : Sp} {p pos : Pos} {e : Expr} {es : List Expr} {t : TA}
theorem pe_def (D : Def X.prog X.w X.K X.mg X.base k x ps sp) (hr : Room k' X.A) (hg : Gl X x) (ha : PA X (e :: es) t) (hkk : k ≤ k' := by decide)
    (hdb : (x == ("__debug__" : Str)) = false := by decide) (he : starEach (e :: es) X.env = (false, eval e X.env) :: starEach es X.env := by rfl) (hpl : (backTo pos (starEach es X.env)).any (·.1) = false := by rfl) :
    PE X (.Call (.Name x p) (e :: es) [] pos) (tCall sp [] E0 t) := by
  obtain ⟨f, fd, F, hm, hk, hb⟩ := D.ex
  exact pe_call F (hr.mono hkk) hg hm hk hb .nil pass0 ha hdb he hpl
end
end L2
namespace L2
open PySem PySem.Spec PyProof.Rows
section
variable {X : Cx} {tg : Expr}
theorem call_lenK (K : PySem.W.Frag) (hK : X.K = K := by rfl) : CallR X (.builtin "len") (fun xs H Q => ∃ x n, xs = [x] ∧ LenV K x H n ∧ Q (.int n) H) := by subst hK; exact call_len
theorem ix_listK (K : PySem.W.Frag) (hK : X.K = K := by rfl) : IxR X (rIxL K) := by subst hK; exact ix_list
theorem ix_tupK (K : PySem.W.Frag) (hK : X.K = K := by rfl) : IxR X (rIxT K) := by subst hK; exact ix_tup
theorem sl_listK (K : PySem.W.Frag) (hK : X.K = K := by rfl) : SlR X (rSlL K) := by subst hK; exact sl_list
theorem pi_listK (K : PySem.W.Frag) {l : Expr} {tl : TE} (hl : PE X l tl) (hK : X.K = K := by rfl) : PI X tg l (iList K tl) := by subst hK; exact pi_list hl
theorem pi_tupK (K : PySem.W.Frag) {l : Expr} {tl : TE} (hl : PE X l tl) (hK : X.K = K := by rfl) : PI X tg l (iTup K tl) := by subst hK; exact pi_tup hl
theorem call_listK (K : PySem.W.Frag) (hK : X.K = K := by rfl) : CallR X (.type "list") (fun xs H Q => ∃ p ys, xs = [.ref p] ∧ (SqL K H p ys ∨ SqT K H p ys) ∧ ∀ l, H l = none → Q (.ref l) (upd H l (.lst ys))) := by subst hK; exact call_list_of
theorem call_tupleK (K : PySem.W.Frag) (hK : X.K = K := by rfl) : CallR X (.type "tuple") (fun xs H Q => ∃ p ys, xs = [.ref p] ∧ ((SqL K H p ys ∧ ∀ l, H l = none → Q (.ref l) (upd H l (.tup ys))) ∨ (SqT K H p ys ∧ Q (.ref p) H))) := by subst hK; exact call_tuple_of
end
theorem atI_in {α : Type} {xs : List α} {i : Int} (h0 : 0 ≤ i) (h1 : i < xs.length) : ∃ v, atI xs i = some v ∧ v ∈ xs := by
  have hlt : i.toNat < xs.length := by lia
  refine ⟨xs[i.toNat], ?_, List.getElem_mem hlt⟩
  unfold atI ixN
  rw [if_pos h0, if_pos h1]
  show xs[i.toNat]? = _
  exact List.getElem?_eq_getElem hlt
theorem atI_lt {α : Type} {xs : List α} {i : Int} (h0 : 0 ≤ i) (h1 : i < xs.length) : atI xs i = xs[i.toNat]? := by
  unfold atI ixN
  rw [if_pos h0, if_pos h1]
  rfl
theorem same_upd {H : Hp} {a : Addr} {o : HO} (h : H a = none) : Same H (upd H a o) := fun b u e => by
  rw [upd_ne (ne_of_none e h)]
  exact e
theorem Same.set {H H' : Hp} {a : Addr} {o : HO} (h : Same H H') (n : H a = none) : Same H (upd H' a o) := fun b u e => by
  rw [upd_ne (ne_of_none e n)]
  exact h b u e
theorem Same.seqT {K : PySem.W.Frag} {H H' : Hp} {a : Addr} {xs : List V} (e : Same H H') (h : SqT K H a xs) : SqT K H' a xs := by
  rcases h with (h | ⟨o, h⟩) | h
  · exact .inl (.inl (e _ _ h))
  · exact .inl (.inr ⟨o, e _ _ h⟩)
  · exact .inr h
def notStar : Expr → Bool
  | .Starred _ _ => false
  | _ => true
theorem starEach_cons {e : Expr} {es : List Expr} {env : Env} (h : notStar e = true) : starEach (e :: es) env = (false, eval e env) :: starEach es env := by
  cases e <;> first
    | rfl
    | cases h
theorem pa_con {X : Cx} {e : Expr} {es : List Expr} {te : TE} {t : TA} (ha : PE X e te) (hr : PA X es t) (hs : notStar e = true := by rfl) : PA X (e :: es) (tCons te t) := pa_cons ha hr (starEach_cons hs)
theorem bt_len : bootBuiltins "len" = some (.builtin "len") := by decide +kernel
theorem bt_isinstance : bootBuiltins "isinstance" = some (.builtin "isinstance") := by decide +kernel
theorem bt_all : bootBuiltins "all" = some (.builtin "all") := by decide +kernel
theorem bt_any : bootBuiltins "any" = some (.builtin "any") := by decide +kernel
theorem bt_sorted : bootBuiltins "sorted" = some (.builtin "sorted") := by decide +kernel
theorem bt_zip : bootBuiltins "zip" = some (.type "zip") := by decide +kernel
theorem bt_str : bootBuiltins "str" = some (.type "str") := by decide +kernel
theorem bt_int : bootBuiltins "int" = some (.type "int") := by decide +kernel
theorem bt_bool : bootBuiltins "bool" = some (.type "bool") := by decide +kernel
theorem bt_list : bootBuiltins "list" = some (.type "list") := by decide +kernel
theorem bt_tuple : bootBuiltins "tuple" = some (.type "tuple") := by decide +kernel
theorem bt_dict : bootBuiltins "dict" = some (.type "dict") := by decide +kernel
theorem getD_lt {α : Type} {l : List α} {i : Nat} {d : α} (h : i < l.length) : l.getD i d = l[i] := by
  rw [List.getD_eq_getElem?_getD, List.getElem?_eq_getElem h]
  rfl
theorem getD_ge {α : Type} {l : List α} {i : Nat} {d : α} (h : l.length ≤ i) : l.getD i d = d := by
  rw [List.getD_eq_getElem?_getD, List.getElem?_eq_none_iff.mpr h]
  rfl
theorem pa_1 {X : Cx} {e0 : Expr} {t0 : TE} (h0 : PE X e0 t0) (hs0 : notStar e0 = true := by rfl) : PA X [e0] (tCons t0 tNil) := (pa_con h0 pa_nil hs0)
theorem pa_2 {X : Cx} {e0 e1 : Expr} {t0 t1 : TE} (h0 : PE X e0 t0) (h1 : PE X e1 t1) (hs0 : notStar e0 = true := by rfl) (hs1 : notStar e1 = true := by rfl) : PA X [e0, e1] (tCons t0 (tCons t1 tNil)) := (pa_con h0 (pa_con h1 pa_nil hs1) hs0)
theorem pa_3 {X : Cx} {e0 e1 e2 : Expr} {t0 t1 t2 : TE} (h0 : PE X e0 t0) (h1 : PE X e1 t1) (h2 : PE X e2 t2) (hs0 : notStar e0 = true := by rfl) (hs1 : notStar e1 = true := by rfl) (hs2 : notStar e2 = true := by rfl) : PA X [e0, e1, e2] (tCons t0 (tCons t1 (tCons t2 tNil))) := (pa_con h0 (pa_con h1 (pa_con h2 pa_nil hs2) hs1) hs0)
theorem pa_4 {X : Cx} {e0 e1 e2 e3 : Expr} {t0 t1 t2 t3 : TE} (h0 : PE X e0 t0) (h1 : PE X e1 t1) (h2 : PE X e2 t2) (h3 : PE X e3 t3) (hs0 : notStar e0 = true := by rfl) (hs1 : notStar e1 = true := by rfl) (hs2 : notStar e2 = true := by rfl) (hs3 : notStar e3 = true := by rfl) : PA X [e0, e1, e2, e3] (tCons t0 (tCons t1 (tCons t2 (tCons t3 tNil)))) := (pa_con h0 (pa_con h1 (pa_con h2 (pa_con h3 pa_nil hs3) hs2) hs1) hs0)
theorem pa_5 {X : Cx} {e0 e1 e2 e3 e4 : Expr} {t0 t1 t2 t3 t4 : TE} (h0 : PE X e0 t0) (h1 : PE X e1 t1) (h2 : PE X e2 t2) (h3 : PE X e3 t3) (h4 : PE X e4 t4) (hs0 : notStar e0 = true := by rfl) (hs1 : notStar e1 = true := by rfl) (hs2 : notStar e2 = true := by rfl) (hs3 : notStar e3 = true := by rfl) (hs4 : notStar e4 = true := by rfl) : PA X [e0, e1, e2, e3, e4] (tCons t0 (tCons t1 (tCons t2 (tCons t3 (tCons t4 tNil))))) := (pa_con h0 (pa_con h1 (pa_con h2 (pa_con h3 (pa_con h4 pa_nil hs4) hs3) hs2) hs1) hs0)
theorem pa_6 {X : Cx} {e0 e1 e2 e3 e4 e5 : Expr} {t0 t1 t2 t3 t4 t5 : TE} (h0 : PE X e0 t0) (h1 : PE X e1 t1) (h2 : PE X e2 t2) (h3 : PE X e3 t3) (h4 : PE X e4 t4) (h5 : PE X e5 t5) (hs0 : notStar e0 = true := by rfl) (hs1 : notStar e1 = true := by rfl) (hs2 : notStar e2 = true := by rfl) (hs3 : notStar e3 = true := by rfl) (hs4 : notStar e4 = true := by rfl) (hs5 : notStar e5 = true := by rfl) : PA X [e0, e1, e2, e3, e4, e5] (tCons t0 (tCons t1 (tCons t2 (tCons t3 (tCons t4 (tCons t5 tNil)))))) := (pa_con h0 (pa_con h1 (pa_con h2 (pa_con h3 (pa_con h4 (pa_con h5 pa_nil hs5) hs4) hs3) hs2) hs1) hs0)
theorem pa_7 {X : Cx} {e0 e1 e2 e3 e4 e5 e6 : Expr} {t0 t1 t2 t3 t4 t5 t6 : TE} (h0 : PE X e0 t0) (h1 : PE X e1 t1) (h2 : PE X e2 t2) (h3 : PE X e3 t3) (h4 : PE X e4 t4) (h5 : PE X e5 t5) (h6 : PE X e6 t6) (hs0 : notStar e0 = true := by rfl) (hs1 : notStar e1 = true := by rfl) (hs2 : notStar e2 = true := by rfl) (hs3 : notStar e3 = true := by rfl) (hs4 : notStar e4 = true := by rfl) (hs5 : notStar e5 = true := by rfl) (hs6 : notStar e6 = true := by rfl) : PA X [e0, e1, e2, e3, e4, e5, e6] (tCons t0 (tCons t1 (tCons t2 (tCons t3 (tCons t4 (tCons t5 (tCons t6 tNil))))))) := (pa_con h0 (pa_con h1 (pa_con h2 (pa_con h3 (pa_con h4 (pa_con h5 (pa_con h6 pa_nil hs6) hs5) hs4) hs3) hs2) hs1) hs0)
theorem pss_2 {X : Cx} {s0 s1 : Stmt} {t0 t1 : TS} (h0 : PS X s0 t0) (h1 : PS X s1 t1) : PSs X [s0, s1] (tSeq t0 t1) := (pss_cons h0 (pss_one h1))
theorem pss_3 {X : Cx} {s0 s1 s2 : Stmt} {t0 t1 t2 : TS} (h0 : PS X s0 t0) (h1 : PS X s1 t1) (h2 : PS X s2 t2) : PSs X [s0, s1, s2] (tSeq t0 (tSeq t1 t2)) := (pss_cons h0 (pss_cons h1 (pss_one h2)))
theorem pss_4 {X : Cx} {s0 s1 s2 s3 : Stmt} {t0 t1 t2 t3 : TS} (h0 : PS X s0 t0) (h1 : PS X s1 t1) (h2 : PS X s2 t2) (h3 : PS X s3 t3) : PSs X [s0, s1, s2, s3] (tSeq t0 (tSeq t1 (tSeq t2 t3))) := (pss_cons h0 (pss_cons h1 (pss_cons h2 (pss_one h3))))
theorem pss_5 {X : Cx} {s0 s1 s2 s3 s4 : Stmt} {t0 t1 t2 t3 t4 : TS} (h0 : PS X s0 t0) (h1 : PS X s1 t1) (h2 : PS X s2 t2) (h3 : PS X s3 t3) (h4 : PS X s4 t4) : PSs X [s0, s1, s2, s3, s4] (tSeq t0 (tSeq t1 (tSeq t2 (tSeq t3 t4)))) := (pss_cons h0 (pss_cons h1 (pss_cons h2 (pss_cons h3 (pss_one h4)))))
theorem pss_6 {X : Cx} {s0 s1 s2 s3 s4 s5 : Stmt} {t0 t1 t2 t3 t4 t5 : TS} (h0 : PS X s0 t0) (h1 : PS X s1 t1) (h2 : PS X s2 t2) (h3 : PS X s3 t3) (h4 : PS X s4 t4) (h5 : PS X s5 t5) : PSs X [s0, s1, s2, s3, s4, s5] (tSeq t0 (tSeq t1 (tSeq t2 (tSeq t3 (tSeq t4 t5))))) := (pss_cons h0 (pss_cons h1 (pss_cons h2 (pss_cons h3 (pss_cons h4 (pss_one h5))))))
theorem pss_7 {X : Cx} {s0 s1 s2 s3 s4 s5 s6 : Stmt} {t0 t1 t2 t3 t4 t5 t6 : TS} (h0 : PS X s0 t0) (h1 : PS X s1 t1) (h2 : PS X s2 t2) (h3 : PS X s3 t3) (h4 : PS X s4 t4) (h5 : PS X s5 t5) (h6 : PS X s6 t6) : PSs X [s0, s1, s2, s3, s4, s5, s6] (tSeq t0 (tSeq t1 (tSeq t2 (tSeq t3 (tSeq t4 (tSeq t5 t6)))))) := (pss_cons h0 (pss_cons h1 (pss_cons h2 (pss_cons h3 (pss_cons h4 (pss_cons h5 (pss_one h6)))))))
theorem psr_7 {X : Cx} {s0 s1 s2 s3 s4 s5 s6 : Stmt} {ss : List Stmt} {t0 t1 t2 t3 t4 t5 t6 u : TS} (h0 : PS X s0 t0) (h1 : PS X s1 t1) (h2 : PS X s2 t2) (h3 : PS X s3 t3) (h4 : PS X s4 t4) (h5 : PS X s5 t5) (h6 : PS X s6 t6) (hu : PSs X ss u) : PSs X (s0 :: s1 :: s2 :: s3 :: s4 :: s5 :: s6 :: ss) (tSeq t0 (tSeq t1 (tSeq t2 (tSeq t3 (tSeq t4 (tSeq t5 (tSeq t6 u))))))) := (pss_cons h0 (pss_cons h1 (pss_cons h2 (pss_cons h3 (pss_cons h4 (pss_cons h5 (pss_cons h6 hu)))))))
theorem join_at {X : Cx} {body : List Stmt} {D : Ends} {σ : St} {H : Hp} (n : Nat) (C : St → Hp → Prop) (rest : ∃ u, PSs X (body.drop n) u ∧ ∀ σ H, C σ H → u D σ H)
    (first : ∀ u, PSs X (body.drop n) u → (∀ σ H, C σ H → u D σ H) → ∃ t, PSs X body t ∧ t D σ H) : ∃ t, PSs X body t ∧ t D σ H :=
  let ⟨u, h1, h2⟩ := rest
  first u h1 h2
end L2
namespace L2
open PySem PySem.Spec PyProof.Rows
mutual
inductive Dat (K : PySem.W.Frag) (H : Hp) : PyData → V → Prop
  | non : Dat K H .none .non
  | bl (b : Bool) : Dat K H (.bool b) (.bl b)
  | int (i : Int) : Dat K H (.int i) (.int i)
  | str (x : Str) (h : PyData.strOk x = true) : Dat K H (.str x) (.str x)
  | lst {a : Addr} {xs : List V} {ds : List PyData} : SqL K H a xs → Dats K H ds xs → Dat K H (.list ds) (.ref a)
  | tup {a : Addr} {xs : List V} {ds : List PyData} : SqT K H a xs → Dats K H ds xs → Dat K H (.tuple ds) (.ref a)
inductive Dats (K : PySem.W.Frag) (H : Hp) : List PyData → List V → Prop
  | nil : Dats K H [] []
  | cons {d : PyData} {x : V} {ds : List PyData} {xs : List V} : Dat K H d x → Dats K H ds xs → Dats K H (d :: ds) (x :: xs)
end
section
variable {K : PySem.W.Frag} {H H' : Hp}
mutual
theorem Dat.same (s : Same H H') : ∀ (d : PyData) (x : V), Dat K H d x → Dat K H' d x
  | _, _, .non => .non
  | _, _, .bl b => .bl b
  | _, _, .int i => .int i
  | _, _, .str x h => .str x h
  | _, _, .lst h r => .lst (s.seq h) (Dats.same s _ _ r)
  | _, _, .tup h r => .tup (s.seqT h) (Dats.same s _ _ r)
theorem Dats.same (s : Same H H') : ∀ (ds : List PyData) (xs : List V), Dats K H ds xs → Dats K H' ds xs
  | _, _, .nil => .nil
  | _, _, .cons a b => .cons (Dat.same s _ _ a) (Dats.same s _ _ b)
end
mutual
theorem Dat.lay : ∀ (d : PyData) (x : V), Dat K H d x → d.canLay0 = true
  | _, _, .non => rfl
  | _, _, .bl _ => rfl
  | _, _, .int _ => rfl
  | _, _, .str _ h => h
  | _, _, .lst _ r => Dats.lay _ _ r
  | _, _, .tup _ r => Dats.lay _ _ r
theorem Dats.lay : ∀ (ds : List PyData) (xs : List V), Dats K H ds xs → PyData.canLayAll0 ds = true
  | _, _, .nil => rfl
  | _, _, .cons a b => by rw [PyData.canLayAll0, Dat.lay _ _ a, Dats.lay _ _ b]; rfl
end
end
section
variable {X : Cx} {pins : List (Addr × Obj)} {σ : St} {H : Hp} {s : Shared}
mutual
theorem Dat.reads (I : Inv X pins σ H s) : ∀ (d : PyData) (x : V) (u : Value), Dat X.K H d x → RelV x u → ∃ as, Reads s.heap u d as
  | _, _, _, .non, r => by cases r; exact ⟨_, .none⟩
  | _, _, _, .bl b, r => by cases r; exact ⟨_, .bool b⟩
  | _, _, _, .int i, r => by obtain ⟨t, rfl⟩ := r; exact ⟨_, .int i t⟩
  | _, _, _, .str x _, r => by obtain ⟨t, rfl⟩ := r; exact ⟨_, .str x t⟩
  | _, _, _, .lst h q, r => by
    cases r
    obtain ⟨its, rv, ⟨o, n, e, c, _, d⟩, _⟩ := I.list h
    obtain ⟨as, ra⟩ := Dats.reads I _ _ _ q rv
    exact ⟨_, .list e c d (by simpa using ra)⟩
  | _, _, _, .tup h q, r => by
    cases r
    obtain ⟨its, rv, ⟨o, e, c, n, d⟩, _⟩ := I.tuple h
    obtain ⟨as, ra⟩ := Dats.reads I _ _ _ q rv
    exact ⟨_, .tuple e c d (by simpa using ra)⟩
theorem Dats.reads (I : Inv X pins σ H s) : ∀ (ds : List PyData) (xs : List V) (us : List Value), Dats X.K H ds xs → Vals xs us → ∃ as, ReadsAll s.heap us ds as
  | _, _, _, .nil, r => by cases r; exact ⟨_, .nil⟩
  | _, _, _, .cons a b, r => by
    cases r with
    | cons r1 r2 =>
      obtain ⟨as, h1⟩ := Dat.reads I _ _ _ a r1
      obtain ⟨bs, h2⟩ := Dats.reads I _ _ _ b r2
      exact ⟨_, .cons h1 h2⟩
end
end
section
variable {X : Cx}
theorem units_of {u d e : Nat} (hu : u + 64 < cLine) (hd : d ≤ 60) : u + min d e < cLine := by
  have : min d e ≤ d := Nat.min_le_left _ _
  lia
def rEqD (K : PySem.W.Frag) : R2 := fun x y H Q => ∃ d e, Dat K H d x ∧ Dat K H e y ∧ d.depth ≤ 60 ∧ Q (.bl (PyData.eqv d e)) H
theorem op_eqD (hu : X.A.units + 64 < cLine) (K : PySem.W.Frag) (hK : X.K = K := by rfl) : OpR X (compareOp .Eq) (rEqD K) := by
  subst hK
  intro pins s σ H x y v u Q I rx ry h
  obtain ⟨d, e, hd, he, hz, q⟩ := h
  obtain ⟨as, ra⟩ := Dat.reads I _ _ _ hd rx
  obtain ⟨bs, rb⟩ := Dat.reads I _ _ _ he ry
  exact SeqAt.rcAt_reads ra rb (Dat.lay _ _ hd) (Dat.lay _ _ he) (units_of hu hz) X.prog X.w X.xe _ (fin_bl I q rfl)
end
def LtAt (A : Around) (s : Shared) (u v : Value) (r : Bool) : Prop :=
  ∀ (prog : Program) (w : World) (E : Value → Shared → Prop) (Q : Value → Shared → Prop), Q (.bool r) s → wpAny (model prog w) A (richCompare .Lt u v) Q E s
inductive LexAt (A : Around) (s : Shared) : List Value → List Value → Bool → Prop
  | nn : LexAt A s [] [] false
  | nc {v : Value} {vs : List Value} : LexAt A s [] (v :: vs) true
  | cn {u : Value} {us : List Value} : LexAt A s (u :: us) [] false
  | eq {u v : Value} {us vs : List Value} {r : Bool} : SeqAt.EqAt A s u v true → LexAt A s us vs r → LexAt A s (u :: us) (v :: vs) r
  | lt {u v : Value} {us vs : List Value} {r : Bool} : SeqAt.EqAt A s u v false → LtAt A s u v r → LexAt A s (u :: us) (v :: vs) r
section
open PySem.SeqAt
open PySem.AutoSeq1 (wpAny_loadPart')
open PySem.MeetsSeq PySem.MeetsSeq2 PySem.MeetsSeq3
theorem tuple_lt_any (l b : Addr) (items items2 : Array Value) (n n2 : Nat) (dd dd2 : Option Addr) (sl sl2 : Array (Option Value)) (r : Bool) :
    Meets (Builtin.«tuple.__lt__» ⟨[.ref l, .ref b], []⟩)
      (fun A R s => s.heap.get? l = some { cls := .type "tuple", dict := dd, data := .seq items n, slots := sl } ∧ s.heap.get? b = some { cls := .type "tuple", dict := dd2, data := .seq items2 n2, slots := sl2 } ∧
        LexAt A.in1 s items.toList items2.toList r ∧ R (.ok (.ret (.bool r))) s) :=
  .of_wp fun prog w A R s h => by
    obtain ⟨hp, g, d, tk, os⟩ := s; obtain ⟨hl, hb, hx, h⟩ := h
    have f2 := AutoSeq1.sub_tuple_tuple
    wp_walk using wpAny_loadPart' hl, wpAny_loadPart' hb, wpAny_forIn_list _ (fun rest b s' => b.1 = none ∧ s' = ⟨hp, g, d, tk, os⟩ ∧ ∃ (vs ws : List Value), rest = vs.zip ws ∧
      LexAt A.in1 ⟨hp, g, d, tk, os⟩ vs ws r ∧ vs.length + items2.size = ws.length + items.size) _
    case turn =>
      rintro ⟨y, x⟩ rest b s' ⟨hb', rfl, vs, ws, hz, hvi, hlen⟩
      cases hvi with
      | nn => rw [List.zip_nil_left] at hz; cases hz
      | nc => rw [List.zip_nil_left] at hz; cases hz
      | cn => rw [List.zip_nil_right] at hz; cases hz
      | eq he hr =>
        rw [List.zip_cons_cons] at hz
        injection hz with hyx hrest
        injection hyx with hy hx
        subst hy hx
        simp only [List.length_cons] at hlen
        refine wpAny_bind (he prog w _ _ ?_)
        wp_walk
        exact ⟨rfl, rfl, _, _, hrest, hr, by lia⟩
      | lt he hr =>
        rw [List.zip_cons_cons] at hz
        injection hz with hyx hrest
        injection hyx with hy hx
        subst hy hx
        refine wpAny_bind (he prog w _ _ ?_)
        have hri := hr prog w
        wp_walk using hri
        exact ⟨_, rfl, by simpa using h⟩
    case fin =>
      rintro ⟨b1, b2⟩ s' ⟨hb', rfl, vs, ws, hz, hvi, hlen⟩
      simp only at hb'
      subst hb'
      have hv : r = decide (items.size < items2.size) := by
        cases hvi with
        | nn =>
          simp only [List.length_nil] at hlen
          exact (decide_eq_false (by lia)).symm
        | nc =>
          simp only [List.length_nil, List.length_cons] at hlen
          exact (decide_eq_true (by lia)).symm
        | cn =>
          simp only [List.length_nil, List.length_cons] at hlen
          exact (decide_eq_false (by lia)).symm
        | eq _ _ => rw [List.zip_cons_cons] at hz; cases hz
        | lt _ _ => rw [List.zip_cons_cons] at hz; cases hz
      rw [hv] at h
      wp_walk
      exact ⟨_, rfl, by simpa [Builtin.Tuple.tupleCompareSizes] using h⟩
    case h =>
      exact ⟨rfl, rfl, items.toList, items2.toList, rfl, hx, by simp; lia⟩
theorem lt_loop (l b : Addr) (items items2 : Array Value) (n n2 : Nat) (dd dd2 : Option Addr) (sl sl2 : Array (Option Value)) (r : Bool) (k : Nat) :
    ∀ i : Nat, items.size - i = k → i ≤ items.size → i ≤ items2.size → Meets (Builtin.«list.__eq__.loop» ⟨[.ref l, .ref b, rawInt i, rawInt 0], []⟩)
      (fun A R s => s.heap.get? l = some { cls := .type "list", dict := dd, data := .seq items n, slots := sl } ∧ s.heap.get? b = some { cls := .type "list", dict := dd2, data := .seq items2 n2, slots := sl2 } ∧
        LexAt A.in1 s (items.toList.drop i) (items2.toList.drop i) r ∧ R (.ok (.ret (.bool r))) s) := by
  induction k with
  | zero =>
    intro i hk h1 h2 prog w A R s h
    obtain ⟨hp, g, d, tk, os⟩ := s; obtain ⟨hl, hb, hx, h⟩ := h
    wp_walk using wpAny_loadPart' hl, wpAny_loadPart' hb
    have hi1 : items[((i : Nat) : Int).toNat]? = none := by simp; lia
    have hd : items.toList.drop i = [] := by simp; lia
    rw [hd] at hx
    have hv : r = decide (items.size < items2.size) := by
      generalize e2 : items2.toList.drop i = ws at hx
      have hl2 : items2.size - i = ws.length := by rw [← e2]; simp
      cases hx with
      | nn => exact (decide_eq_false (by simp at hl2; lia)).symm
      | nc => exact (decide_eq_true (by simp at hl2; lia)).symm
    rw [hi1]
    wp_walk using wpAny_loadPart' hl, wpAny_loadPart' hb
    show R (.ok (.ret (.bool (decide (items.size < items2.size))))) _
    rw [← hv]
    exact h
  | succ k ih =>
    intro i hk h1 h2 prog w A R s h
    obtain ⟨hp, g, d, tk, os⟩ := s; obtain ⟨hl, hb, hx, h⟩ := h
    wp_walk using wpAny_loadPart' hl, wpAny_loadPart' hb
    have hlt : i < items.size := by lia
    have hi1 : items[((i : Nat) : Int).toNat]? = some items[i] := by simp [hlt]
    have hc : ((i : Int) + 1) = ((i + 1 : Nat) : Int) := by push_cast; rfl
    have hd : items.toList.drop i = items[i] :: items.toList.drop (i + 1) := by simp [List.drop_eq_getElem_cons, hlt]
    rw [hd] at hx
    by_cases hlt2 : i < items2.size
    · have hi2 : items2[((i : Nat) : Int).toNat]? = some items2[i] := by simp [hlt2]
      have hd2 : items2.toList.drop i = items2[i] :: items2.toList.drop (i + 1) := by simp [List.drop_eq_getElem_cons, hlt2]
      rw [hd2] at hx
      rw [hi1, hi2]
      cases hx with
      | eq he hr =>
        refine wpAny_bind (he prog w _ _ ?_)
        wp_walk
        rw [hc]
        exact ⟨plainId_quiet plain_eq_loop _, codeAny_builtin entry_eq_loop (by
          rw [Around.under_plainId plain_eq_loop _]
          exact ih (i + 1) (by lia) hlt hlt2 prog w A R _ ⟨hl, hb, hr, h⟩)⟩
      | lt he hr =>
        refine wpAny_bind (he prog w _ _ ?_)
        wp_walk using wpAny_loadPart' hl, wpAny_loadPart' hb
        rw [hi1, hi2]
        have hri := hr prog w
        wp_walk using hri
        exact h
    · have hi2 : items2[((i : Nat) : Int).toNat]? = none := by simp; lia
      have hd2 : items2.toList.drop i = [] := by simp; lia
      rw [hd2] at hx
      have hv : r = decide (items.size < items2.size) := by
        cases hx
        exact (decide_eq_false (by lia)).symm
      rw [hi1, hi2]
      wp_walk using wpAny_loadPart' hl, wpAny_loadPart' hb
      show R (.ok (.ret (.bool (decide (items.size < items2.size))))) _
      rw [← hv]
      exact h
theorem list_lt_any (l b : Addr) (items items2 : Array Value) (n n2 : Nat) (dd dd2 : Option Addr) (sl sl2 : Array (Option Value)) (r : Bool) :
    Meets (Builtin.«list.__lt__» ⟨[.ref l, .ref b], []⟩)
      (fun A R s => s.heap.get? l = some { cls := .type "list", dict := dd, data := .seq items n, slots := sl } ∧ s.heap.get? b = some { cls := .type "list", dict := dd2, data := .seq items2 n2, slots := sl2 } ∧
        LexAt A.in1 s items.toList items2.toList r ∧ R (.ok (.ret (.bool r))) s) := by
  intro prog w A R s h
  obtain ⟨hp, g, d, tk, os⟩ := s; obtain ⟨hl, hb, hx, h⟩ := h
  have f3 := AutoSeq1.sub_list_list
  wp_walk using wpAny_loadPart' hl, wpAny_loadPart' hb
  exact ⟨plainId_quiet plain_eq_loop _, codeAny_builtin entry_eq_loop (by
    rw [Around.under_plainId plain_eq_loop _]
    exact lt_loop l b items items2 n n2 dd dd2 sl sl2 r _ 0 rfl (Nat.zero_le _) (Nat.zero_le _) prog w A R _ ⟨hl, hb, hx, h⟩)⟩
end
theorem ltAt_tup {A : Around} {s : Shared} {l b : Addr} {items items2 : Array Value} {r : Bool} (hl : IsTup s.heap l items) (hb : IsTup s.heap b items2) (hx : LexAt A.in1 s items.toList items2.toList r) (hu : A.units < cLine) : LtAt A s (.ref l) (.ref b) r := by
  intro prog w E Q h
  obtain ⟨⟨cls, dd, data, sl⟩, ho, hc, n, hd⟩ := id hl
  obtain ⟨⟨cls2, dd2, data2, sl2⟩, ho2, hc2, n2, hd2⟩ := id hb
  simp only at hc hd hc2 hd2
  subst hc hd hc2 hd2
  exact richCompare_meets_room (op := .Lt) ⟨_, ho, rfl⟩ ⟨_, ho2, rfl⟩ PySem.F.slot_tuple_lt PySem.F.entry_tuple_lt (PySem.F.args_tuple_lt_2 _ _) (tuple_lt_any l b items items2 n n2 dd dd2 sl sl2 r)
    ⟨ho, ho2, hx, show Value.bool r ≠ Value.notImplemented ∧ Q (.bool r) s from ⟨(fun x => nomatch x), h⟩⟩ hu
theorem ltAt_lst {A : Around} {s : Shared} {l b : Addr} {o o2 : Obj} {items items2 : Array Value} {n n2 : Nat} {r : Bool} (ho : s.heap.get? l = some o) (hc : o.cls = .type "list") (hd : o.data = .seq items n) (ho2 : s.heap.get? b = some o2) (hc2 : o2.cls = .type "list") (hd2 : o2.data = .seq items2 n2)
    (hx : LexAt A.in1 s items.toList items2.toList r) (hu : A.units < cLine) : LtAt A s (.ref l) (.ref b) r := by
  intro prog w E Q h
  obtain ⟨cls, dd, data, sl⟩ := o
  obtain ⟨cls2, dd2, data2, sl2⟩ := o2
  simp only at hc hd hc2 hd2
  subst hc hd hc2 hd2
  exact richCompare_meets_room (op := .Lt) ⟨_, ho, rfl⟩ ⟨_, ho2, rfl⟩ PySem.F.slot_list_lt PySem.F.entry_list_lt (PySem.F.args_list_lt_2 _ _) (list_lt_any l b items items2 n n2 dd dd2 sl sl2 r)
    ⟨ho, ho2, hx, show Value.bool r ≠ Value.notImplemented ∧ Q (.bool r) s from ⟨(fun x => nomatch x), h⟩⟩ hu
theorem ltAt_bool {A : Around} {s : Shared} (x y : Bool) : LtAt A s (.bool x) (.bool y) (!x && y) := by
  intro prog w E Q h
  have e : decide (b2i x < b2i y) = (!x && y) := by cases x <;> cases y <;> rfl
  rw [← e] at h
  exact show wpAny (model prog w) A (compareOp .Lt _ _) Q E s from lt_bool h
mutual
def ltD? : PyData → PyData → Option Bool
  | .int a, .int b => some (decide (a < b))
  | .str a, .str b => some (decide (a.cps.toList < b.cps.toList))
  | .tuple as, .tuple bs => lexD? as bs
  | .list as, .list bs => lexD? as bs
  | .bool a, .bool b => some (!a && b)
  | _, _ => none
def lexD? : List PyData → List PyData → Option Bool
  | [], [] => some false
  | [], _ :: _ => some true
  | _ :: _, [] => some false
  | a :: as, b :: bs => if PyData.eqv a b = true then lexD? as bs else ltD? a b
end
mutual
theorem ltAt_reads : ∀ (da db : PyData) (A : Around) (s : Shared) (a b : Value) (as bs : List Addr) (r : Bool), Reads s.heap a da as → Reads s.heap b db bs → da.canLay0 = true → db.canLay0 = true →
    A.units + min da.depth db.depth < cLine → ltD? da db = some r → LtAt A s a b r
  | .int x, db, A, s, _, _, _, _, r, ra, rb, ha, hb, hu, e => by
    cases ra
    cases rb <;> first
      | (cases e; intro prog w E Q h; exact show wpAny (model prog w) A (compareOp .Lt _ _) Q E s from lt_int h)
      | (exact nomatch e)
  | .str x, db, A, s, _, _, _, _, r, ra, rb, ha, hb, hu, e => by
    cases ra
    cases rb <;> first
      | (cases e; intro prog w E Q h; exact show wpAny (model prog w) A (compareOp .Lt _ _) Q E s from lt_str h)
      | (exact nomatch e)
  | .tuple xs, db, A, s, _, _, _, _, r, ra, rb, ha, hb, hu, e => by
    cases ra with
    | tuple h1 h2 h3 h4 =>
      cases rb with
      | tuple k1 k2 k3 k4 =>
        exact ltAt_tup ⟨_, h1, h2, _, h3⟩ ⟨_, k1, k2, _, k3⟩ (lexAt_reads xs _ A.in1 s _ _ _ _ r h4 k4 ha hb (SeqAt.room_in hu) e) (SeqAt.room_here hu)
      | none => exact nomatch e
      | bool => exact nomatch e
      | int => exact nomatch e
      | str => exact nomatch e
      | list => exact nomatch e
      | dict => exact nomatch hb
  | .none, _, _, _, _, _, _, _, _, _, _, _, _, _, e => by simp [ltD?] at e
  | .bool x, db, A, s, _, _, _, _, r, ra, rb, ha, hb, hu, e => by
    cases ra
    cases rb <;> first
      | (cases e; exact ltAt_bool _ _)
      | (exact nomatch e)
  | .list xs, db, A, s, _, _, _, _, r, ra, rb, ha, hb, hu, e => by
    cases ra with
    | list h1 h2 h3 h4 =>
      cases rb with
      | list k1 k2 k3 k4 =>
        exact ltAt_lst h1 h2 h3 k1 k2 k3 (lexAt_reads xs _ A.in1 s _ _ _ _ r h4 k4 ha hb (SeqAt.room_in hu) e) (SeqAt.room_here hu)
      | none => exact nomatch e
      | bool => exact nomatch e
      | int => exact nomatch e
      | str => exact nomatch e
      | tuple => exact nomatch e
      | dict => exact nomatch hb
  | .dict _, _, _, _, _, _, _, _, _, _, _, ha, _, _, _ => nomatch ha
theorem lexAt_reads : ∀ (xs ys : List PyData) (A : Around) (s : Shared) (vs ws : List Value) (as bs : List Addr) (r : Bool), ReadsAll s.heap vs xs as → ReadsAll s.heap ws ys bs → PyData.canLayAll0 xs = true → PyData.canLayAll0 ys = true →
    A.units + min (PyData.depthAll xs) (PyData.depthAll ys) < cLine → lexD? xs ys = some r → LexAt A s vs ws r
  | [], [], _, _, _, _, _, _, r, ra, rb, _, _, _, e => by cases ra; cases rb; cases e; exact .nn
  | [], _ :: _, _, _, _, _, _, _, r, ra, rb, _, _, _, e => by cases ra; cases rb; cases e; exact .nc
  | _ :: _, [], _, _, _, _, _, _, r, ra, rb, _, _, _, e => by cases ra; cases rb; cases e; exact .cn
  | x :: xs, y :: ys, A, s, _, _, _, _, r, ra, rb, ha, hb, hu, e => by
    have ha' : x.canLay0 = true ∧ PyData.canLayAll0 xs = true := by simpa [PyData.canLayAll0] using ha
    have hb' : y.canLay0 = true ∧ PyData.canLayAll0 ys = true := by simpa [PyData.canLayAll0] using hb
    cases ra with
    | cons r1 rs =>
      cases rb with
      | cons r1' rs' =>
        have eq := SeqAt.eqAt_reads x y A s _ _ _ _ r1 r1' ha'.1 hb'.1 (SeqAt.room_head hu)
        rw [lexD?] at e
        cases q : PyData.eqv x y with
        | true =>
          rw [q] at eq
          rw [if_pos q] at e
          exact .eq eq (lexAt_reads xs ys A s _ _ _ _ r rs rs' ha'.2 hb'.2 (SeqAt.room_tail hu) e)
        | false =>
          rw [q] at eq
          rw [if_neg (by rw [q]; exact Bool.false_ne_true)] at e
          exact .lt eq (ltAt_reads x y A s _ _ _ _ r r1 r1' ha'.1 hb'.1 (SeqAt.room_head hu) e)
end
section
variable {X : Cx}
end
end L2
namespace L2
open PySem PySem.Spec PyProof.Rows
def tyD : PyData → String
  | .none => "NoneType"
  | .bool _ => "bool"
  | .int _ => "int"
  | .str _ => "str"
  | .list _ => "list"
  | .tuple _ => "tuple"
  | .dict _ => "dict"
theorem tyD_in (d : PyData) : tyD d ∈ tyTs := by
  cases d <;> simp [tyD, tyTs]
section
variable {X : Cx}
theorem call_isiD (K : PySem.W.Frag) (hK : X.K = K := by rfl) : CallR X (.builtin "isinstance") (fun xs H Q => ∃ x n d, xs = [x, .ty n] ∧ Dat K H d x ∧ n ∈ tyNs ∧ Q (.bl (tyIs (tyD d) n)) H) := by
  subst hK
  intro pins s σ H xs us Q I r h
  obtain ⟨x, n, d, rfl, hd, hn, q⟩ := h
  obtain ⟨u, c, rfl, ru, rc⟩ := vals2 r
  cases rc
  have e := kit_one (K := X.K) (tyD_in d) hn
  have fin : ∀ tk, EP X pins σ Q (.bool (tyIs (tyD d) n)) { s with toks := tk } := fun tk => ⟨.bl _, H, I.tok tk, rfl, q⟩
  cases hd with
  | non => cases ru; exact PySem.W.kia_one PySem.W.kitx_none I.kIn True.intro e (fun z => nomatch z) fin
  | bl b => cases ru; exact PySem.W.kia_one PySem.W.kitx_bool I.kIn True.intro e (fun z => nomatch z) fin
  | int i => obtain ⟨t, rfl⟩ := ru; exact PySem.W.kia_one PySem.W.kitx_int I.kIn True.intro e (fun z => nomatch z) fin
  | str z h => obtain ⟨t, rfl⟩ := ru; exact PySem.W.kia_one PySem.W.kitx_str I.kIn True.intro e (fun z => nomatch z) fin
  | lst hq _ =>
    cases ru
    obtain ⟨its, _, ⟨o, m, e1, c, _, _⟩, _⟩ := I.list hq
    exact PySem.W.kia_one PySem.W.kitx_list I.kIn ⟨o, e1, c⟩ e (fun z => nomatch z) fin
  | tup hq _ =>
    cases ru
    obtain ⟨its, _, ⟨o, e1, c, _⟩, _⟩ := I.tuple hq
    exact PySem.W.kia_one PySem.W.kitx_tuple I.kIn ⟨o, e1, c⟩ e (fun z => nomatch z) fin
def rNeD (K : PySem.W.Frag) : R2 := fun x y H Q => ∃ d e, Dat K H d x ∧ Dat K H e y ∧ d.depth ≤ 60 ∧ Q (.bl (!PyData.eqv d e)) H
theorem op_neD (hu : X.A.units + 64 < cLine) (K : PySem.W.Frag) (hK : X.K = K := by rfl) : OpR X (compareOp .NotEq) (rNeD K) := by
  subst hK
  intro pins s σ H x y v u Q I rx ry h
  obtain ⟨d, e, hd, he, hz, q⟩ := h
  obtain ⟨as, ra⟩ := Dat.reads I _ _ _ hd rx
  obtain ⟨bs, rb⟩ := Dat.reads I _ _ _ he ry
  exact SeqAt.compareNe_reads ra rb (Dat.lay _ _ hd) (Dat.lay _ _ he) (units_of hu hz) (fin_bl I q rfl)
theorem len_upper (z : Str) : (Txt.upper z).length ≤ 3 * z.length := by
  show (placed z fun _ c => Unicode.upperOf c).size ≤ 3 * z.cps.size
  exact StrLaws.placedRaw_le3 z.cps _ fun _ c => StrLaws.upperOf_le3 c
def rUpper : V → List V → Hp → VK → Prop := fun x xs H Q => ∃ z, x = .str z ∧ xs = [] ∧ z.length ≤ 100 ∧ Q (.str (Txt.upper z)) H
theorem mt_upper : MtR X "str.upper" rUpper := by
  intro pins s σ H x xs v us Q I rx rv h
  obtain ⟨z, rfl, rfl, hz, q⟩ := h
  obtain ⟨t, rfl⟩ := rx
  cases rv.zero
  have hl : (Txt.upper z).length ≤ 300 := Nat.le_trans (len_upper z) (by lia)
  have hfit : Builtin.Str.tooLong (Txt.upper z).length = false := by
    unfold Builtin.Str.tooLong
    simp
    exact Nat.le_trans hl (by decide)
  exact call_gives F.slot_str_upper (typeIs_str _ _ _) F.entry_str_upper (F.args_str_upper_1 _) (gives_str_upper z t hfit) ⟨Nat.le_trans hl (by decide), .str (Txt.upper z), H, I.tok _, ⟨_, rfl⟩, q⟩
def firstAt (x y : Str) : Int := match Builtin.Str.occurrences x y 0 x.length 1 with | i :: _ => (i : Int) | [] => -1
def rFind : V → List V → Hp → VK → Prop := fun x xs H Q => ∃ z y, x = .str z ∧ xs = [.str y] ∧ Q (.int (firstAt z y)) H
theorem mt_find : MtR X "str.find" rFind := by
  intro pins s σ H x xs v us Q I rx rv h
  obtain ⟨z, y, rfl, rfl, q⟩ := h
  obtain ⟨t, rfl⟩ := rx
  obtain ⟨u, rfl, ru⟩ := rv.one
  obtain ⟨t2, rfl⟩ := ru
  exact call_gives F.slot_str_find (typeIs_str _ _ _) F.entry_str_find (F.args_str_find_2 _ _) (gives_str_find z y t t2) ⟨.int _, H, I.tok _, ⟨_, rfl⟩, q⟩
end
end L2
namespace L2
open PySem PySem.Spec PyProof.Rows PySem.W
section
variable {prog : Program} {w : World} {A : Around} {E : Value → Shared → Prop} {s : Shared} {d it : Addr} {es : Array DictEntry} {ep i : Nat}
theorem collect_sq {T : String} {o : Obj} {items : Array Value} {n : Nat} {l : Addr} {R : List Value → Shared → Prop} (hT : T = "list" ∨ T = "tuple") (ho : s.heap.get? l = some o) (hc : o.cls = .type T) (hd : o.data = .seq items n) (hz : items.size ≤ sizeLine)
    (h : ∀ (h' : Heap) (tk : Nat), (∀ b o, s.heap.get? b = some o → h'.get? b = some o) → s.heap.objs.size ≤ h'.objs.size → R items.toList { s with heap := h', toks := tk }) : wpAny (model prog w) A (collect (.ref l)) R E s := by
  unfold collect
  refine wpAny_bind (wpAny_runValue (codeAny_builtin entry_proto_collect' ?_))
  show wpAny _ _ (do again (.builtin "list.__iadd__" ⟨[← newList [], .ref l], []⟩)) _ _ s
  refine wpAny_bind (wpAny_newList (wpAny_pure ⟨Code.quiet_builtin _ (by decide +kernel), codeAny_builtin entry_list_iadd' ?_⟩))
  show wpAny _ _ (Builtin.List.listExtendWith (.ref s.heap.objs.size) (.ref l) (.ref s.heap.objs.size)) _ _ { s with heap := s.heap.push (seqObj "list" #[] 0) }
  unfold Builtin.List.listExtendWith
  have ho' : (s.heap.push (seqObj "list" #[] 0)).get? l = some o := Heap.get?_push_of_some _ ho
  refine wpAny_bind (wpAny_typeOf (T := T) ⟨o, ho', hc⟩ ?_)
  have ht : ((Value.type T == Value.type "list") || (Value.type T == Value.type "tuple")) = true := by rcases hT with rfl | rfl <;> rfl
  rw [if_pos (by rw [Bool.or_assoc, ht]; simp)]
  refine wpAny_bind (listItems_at ho' hd ?_)
  refine wpAny_bind (listItems_at (xs := #[]) (n := 0) (Heap.get?_push_size _ rfl) rfl ?_)
  rw [if_neg (by simp)]
  refine wpAny_bind (listUpdate_at (xs := #[]) (n := 0) (Heap.get?_push_size _ rfl) rfl ?_ (Nat.zero_le _) (by rw [Array.size_append]; simp; lia))
  refine wpAny_pure ?_
  show wpAny (model prog w) A (load s.heap.objs.size >>= fun o => match o.data with
      | .seq xs _ => pure xs.toList
      | _ => unsupported "internal:collect") R E { s with heap := (s.heap.push (seqObj "list" #[] 0)).update s.heap.objs.size (Obj.mapSeq (· ++ items)) }
  refine wpAny_bind (wpAny_load (get?_update_seq (Heap.get?_push_size _ rfl) _) ?_)
  show wpAny _ _ (pure ((#[] : Array Value) ++ items).toList) R E _
  rw [show ((#[] : Array Value) ++ items).toList = items.toList by simp]
  refine wpAny_pure (h _ s.toks (fun b o e => ?_) (by rw [Heap.size_update, size_push']; lia))
  exact (Heap.get?_update_other _ _ (Nat.ne_of_gt (Heap.lt_size e))).trans (Heap.get?_push_of_some _ e)
end
end L2
namespace Tim
section
variable {α : Type}
def srt (lt : α → α → Bool) (l : List α) : List α := l.mergeSort fun a b => !lt b a
theorem srt_perm (lt : α → α → Bool) (l : List α) : (srt lt l).Perm l := List.mergeSort_perm _ _
theorem srt_asc {lt : α → α → Bool} (h : STO lt) (l : List α) : (srt lt l).Pairwise fun a b => lt b a = false := by
  have := List.pairwise_mergeSort (le := fun a b => !lt b a) (fun a b c h1 h2 => by
    cases e : lt c a with
    | false => rfl
    | true =>
      rcases h.nt b e with q | q
      · rw [q] at h2
        cases h2
      · rw [q] at h1
        cases h1) (fun a b => by
    cases e : lt b a with
    | false => rfl
    | true =>
      rw [h.asym e]
      rfl) l
  exact List.Pairwise.imp (fun {a b} (z : (!lt b a) = true) => by simpa using z) this
theorem srt_eq {lt : α → α → Bool} (h : STO lt) {l k : List α} (p : k.Perm l) (a : k.Pairwise fun a b => lt b a = false) : k = srt lt l := h.uniq (p.trans (srt_perm lt l).symm) a (srt_asc h l)
end
section
open PySem
theorem sorted_data {α : Type} {lt : α → α → Bool} (h : STO lt) (dec : Value → α) {vs out : List Value} (so : Sorted (fun v => rank lt (vs.map dec) (dec v)) vs out) : out.map dec = srt lt (vs.map dec) := by
  refine srt_eq h (so.perm.map dec) ?_
  rw [List.pairwise_map]
  refine List.Pairwise.imp_of_mem (fun {x y} hx hy hr => ?_) so.asc
  have mx : dec x ∈ vs.map dec := List.mem_map.mpr ⟨x, so.perm.mem_iff.mp hx, rfl⟩
  have my : dec y ∈ vs.map dec := List.mem_map.mpr ⟨y, so.perm.mem_iff.mp hy, rfl⟩
  rw [rank_lt (fun a _ => h.irr a) (fun a _ b _ c _ => h.tr a b c) (fun a _ b _ c _ z => h.nt b z) my mx]
  exact decide_eq_false (by lia)
theorem rank_dec {α : Type} {lt : α → α → Bool} (h : STO lt) (dec : Value → α) {vs : List Value} {x y : Value} (hx : x ∈ vs) (hy : y ∈ vs) : lt (dec x) (dec y) = decide (rank lt (vs.map dec) (dec x) < rank lt (vs.map dec) (dec y)) :=
  rank_lt (fun a _ => h.irr a) (fun a _ b _ c _ => h.tr a b c) (fun a _ b _ c _ z => h.nt b z) (List.mem_map.mpr ⟨x, hx, rfl⟩) (List.mem_map.mpr ⟨y, hy, rfl⟩)
end
end Tim
namespace L2
open PySem PySem.Spec PyProof.Rows PySem.W
def strLt (x y : Str) : Bool := decide (x.cps.toList < y.cps.toList)
theorem sto_str : Tim.STO strLt := by
  have h := (Tim.sto_nat.lex).map (fun z : Str => z.cps.toList) (fun a b e => by
    cases a
    cases b
    congr
    exact Array.toList_inj.mp e)
  have e : strLt = fun a b : Str => Tim.lexB (fun x y : Nat => decide (x < y)) a.cps.toList b.cps.toList := by
    funext a b
    exact Tim.lex_nat _ _
  rw [e]
  exact h
section
variable {prog : Program} {w : World} {A : Around} {s : Shared} {a : Addr}
end
section
variable {X : Cx}
end
section
variable {prog : Program} {w : World} {A : Around} {E : Value → Shared → Prop} {s : Shared} {a : Addr}
end
section
variable {X : Cx}
end
end L2
namespace L2
open PySem PySem.Spec PyProof.Rows
section
variable {X : Cx}
theorem pg_tupK (K : PySem.W.Frag) {es : List Expr} {k : Nat} {t : TGs} {n : Nat} {pos : Pos} (hc : X.calm = true) (h : PGs X es t) (hK : X.K = K := by rfl)
    (hn : (assignEach es X.env).length = n := by rfl) (hst : (assignEach es X.env).findIdx? (·.1) = none := by rfl) : PG X (.Tuple es k pos) (gTup K n t) := by
  subst hK
  exact pg_tup hc h hn hst
end
end L2
namespace L2
open PySem PySem.Spec PyProof.Rows
section
variable {X : Cx} {e : Expr} {lo hi : Option Expr} {se : Expr} {te : TE} {tl th ts : TO} {p2 pos : Pos}
end
end L2
namespace L2
open PySem PySem.Spec PyProof.Rows
section
variable {X : Cx}
def rCatA (K : PySem.W.Frag) : R2 := fun x y H Q => ∃ a b xs ys, x = .ref a ∧ y = .ref b ∧ SqT K H a xs ∧ SqT K H b ys ∧ xs.length + ys.length ≤ sizeLine ∧ ∀ p H', Same H H' → SqT K H' p (xs ++ ys) → Q (.ref p) H'
theorem op_catA (K : PySem.W.Frag) (hK : X.K = K := by rfl) : OpR X (binaryOp .Add) (rCatA K) := by
  subst hK
  intro pins s σ H x y v u Q I rx ry h
  obtain ⟨a, b, xs, ys, rfl, rfl, ha, hb, hz, q⟩ := h
  by_cases hx : xs = []
  · subst hx
    cases rx
    cases ry
    obtain ⟨its, r1, p1, _⟩ := I.tuple ha
    obtain ⟨its2, r2, p2, _⟩ := I.tuple hb
    have e0 : its = [] := r1.nil_iff.mpr rfl
    subst e0
    obtain ⟨⟨cls, dd, data, sl⟩, ho, hc, n, hd⟩ := id p1
    obtain ⟨⟨cls2, dd2, data2, sl2⟩, ho2, hc2, n2, hd2⟩ := id p2
    simp only at hc hd hc2 hd2
    subst hc hd hc2 hd2
    exact concat_meets ⟨_, ho, rfl⟩ ⟨_, ho2, rfl⟩ noFill_tuple_add seq_tuple_add PySem.F.slot_tuple_add PySem.F.entry_tuple_add (PySem.F.args_tuple_add_2 _ _)
      (tuple_addW0 a b #[] its2.toArray n n2 dd dd2 sl sl2 rfl) ⟨ho, ho2, ⟨.ref b, H, I, rfl, q b H (Same.refl _) hb⟩⟩
  · refine op_catT pins s σ H _ _ v u Q I rx ry ⟨a, b, xs, ys, rfl, rfl, ha, hb, hx, hz, fun e => ?_, fun _ p hp => q p _ (same_upd hp) (SqT.of upd_same)⟩
    subst e
    exact q a H (Same.refl _) (by rw [List.append_nil]; exact ha)
end
end L2
namespace L2
open PySem PySem.Spec PyProof.Rows
theorem any_range (bs : List Bool) : (List.range bs.length).any (fun i => (bs[i]?).getD true) = bs.any id := by
  rw [Bool.eq_iff_iff, List.any_eq_true, List.any_eq_true]
  constructor
  · rintro ⟨i, hi, h⟩
    have hi' := List.mem_range.mp hi
    rw [List.getElem?_eq_getElem hi'] at h
    exact ⟨_, List.getElem_mem hi', h⟩
  · rintro ⟨b, hb, h⟩
    obtain ⟨i, hi, e⟩ := List.mem_iff_getElem.mp hb
    refine ⟨i, List.mem_range.mpr hi, ?_⟩
    rw [List.getElem?_eq_getElem hi, e]
    exact h
section
variable {X : Cx}
theorem call_anyL (hc : X.calm = true) (K : PySem.W.Frag) (hK : X.K = K := by rfl) : CallR X (.builtin "any") (fun xs H Q => ∃ (p : Addr) (bs : List Bool), xs = [.ref p] ∧ SqL K H p (bs.map V.bl) ∧ Q (.bl (bs.any id)) H) := by
  subst hK
  intro pins s σ H xs us Q I r h
  obtain ⟨p, bs, rfl, hp, q⟩ := h
  obtain ⟨u, rfl, ru⟩ := vals1 r
  cases ru
  obtain ⟨its, rv, pl, hz⟩ := I.list hp
  have hl : its.toArray.size = bs.length := by
    have := rv.length
    rw [List.length_map] at this
    rw [List.size_toArray]
    exact this.symm
  have hh : X.A.in1.handled = none := I.ok.hd hc
  have hne : p ≠ s.heap.objs.size := fun e => by
    obtain ⟨o, n, e1, _⟩ := pl
    exact absurd (Heap.lt_size e1) (by rw [e]; exact Nat.lt_irrefl _)
  refine call_any_walk (wpAny_pyIter_list pl.isList ?_)
  refine ⟨s.heap.objs.size, _, _, _, _, _, fun i => (bs[i]?).getD true, rfl, Walks.list hh _ p hne its.toArray, ⟨⟨_, Heap.get?_push_size _ rfl, rfl, rfl⟩, pl.isList.at fun o e => Heap.get?_push_of_some _ e⟩, ?_, fun h' tk kk => ?_⟩
  · intro i v s' Q' E' hv hq
    have hv' : its[i]? = some v := by simpa using hv
    obtain ⟨b, e, rfl⟩ := vals_bl rv hv'
    have hq' : Q' ((bs[i]?).getD true) s' := hq
    rw [e] at hq'
    exact wpAny_truthy_bool hq'
  · rw [hl, any_range]
    exact ⟨.bl _, H, I.kept fun b o e => kk b o (by simp; exact Nat.ne_of_lt (Heap.lt_size e)) (Heap.get?_push_of_some _ e), rfl, q⟩
end
section
variable {prog : Program} {w : World} {A : Around} {R : Result → Shared → Prop} {I : Addr} {fp wr : List Addr} {n : Nat} {P : Nat → Value → Prop} {St : Nat → Heap → Prop}
end
section
variable {X : Cx} {e d : Expr} {t tk : TA} {p pos kpos : Pos}
end
end L2
namespace L2
open PySem PySem.Spec PyProof.Rows
section
variable {prog : Program} {w : World} {A : Around} {E : Value → Shared → Prop} {s : Shared}
end
section
variable {prog : Program} {w : World} {A : Around} {R : Result → Shared → Prop} {I : Addr} {fp wr : List Addr} {n : Nat} {P : Nat → Value → Prop} {St : Nat → Heap → Prop}
end
section
variable {X : Cx}
end
end L2
namespace L2
open PySem PySem.Spec PyProof.Rows
section
variable {X : Cx} {tg : Expr}
theorem call_dictC : CallR X (.type "dict") (fun xs H Q => ∃ (a : Addr) (kvs : List (Key × V)), xs = [.ref a] ∧ Rd H a (.dK kvs) ∧ ∀ d, H d = none → Q (.ref d) (upd H d (.dK kvs))) := by
  intro pins s σ H xs us Q I r h
  obtain ⟨a, kvs, rfl, ha, q⟩ := h
  obtain ⟨u, rfl, ru⟩ := vals1 r
  cases ru
  obtain ⟨hz, hne, vs, rel, hd⟩ := ha.ok I.hok
  have hl : kvs.length = vs.length := Paired.length rel
  refine kt_call_dict hne hd (by lia) fun h' hd' hs => ?_
  exact ⟨.ref s.heap.objs.size, _, I.laid (a := s.heap.objs.size) (o := .dK kvs) (t' := s.toks) (fun b o e => (hs.2 b (Nat.ne_of_lt (Heap.lt_size e))).trans (Heap.get?_push_of_some _ e)) (Nat.le_refl _) ⟨hz, beq_eq_false_iff_ne.mpr (Ne.symm (Nat.ne_of_lt I.big)), vs, rel, hd'⟩, rfl, q _ (I.hok.fresh (Nat.le_refl _))⟩
end
section
variable {X : Cx} {e : Expr} {lo hi : Option Expr} {se : Expr} {te : TE} {tl th ts : TO} {p2 pos : Pos}
end
end L2
namespace L2
open PySem PySem.Spec PyProof.Rows
section
variable {prog : Program} {w : World} {A : Around} {E : Value → Shared → Prop} {s : Shared}
end
section
variable {X : Cx}
end
end L2
namespace L2
open PySem PySem.Spec PyProof.Rows
section
variable {X : Cx} {k k' : Nat} {C : Addr} {ps ks : List Str} {sp : Sp} {x m : Str} {p pos apos : Pos} {e o : Expr} {es : List Expr} {ta : TE} {t tk : TA} {kws : List Keyword}
variable {y : Str} {dv : V}
end
end L2
namespace L2
open PySem PySem.Spec PyProof.Rows PySem.W
section
variable {prog : Program} {w : World} {A : Around} {s : Shared} {a : Addr}
end
section
variable {X : Cx}
end
end L2
namespace L2
open PySem PySem.Spec PyProof.Rows
section
variable {X : Cx} {pins : List (Addr × Obj)} {σ : St} {H : Hp} {s : Shared} {a : Addr} {kvs : List (Key × V)} {k : Key} {z : V} {u r : Value} {A : Around} {E : Value → Shared → Prop}
theorem d_setd {Q : Value → Shared → Prop} (I : Inv X pins σ H s) (e : H a = some (.dK kvs)) (hl : kvs.length < sizeLine) (ry : RelV (kV k) u) (rz : RelV z r)
    (h1 : ∀ v w' s', valV kvs k = some v → Inv X pins σ H s' → RelV v w' → Q w' s') (h2 : valV kvs k = none → ∀ s', Inv X pins σ (upd H a (.dK (putK kvs k z))) s' → Q r s') :
    wpAny (model X.prog X.w) A (call (.builtin "dict.setdefault") [.ref a, u, r]) Q E s := by
  obtain ⟨zl, hd, vs, rel, dd⟩ := dk_of I.hok e
  have rv := rel.val k
  refine call_meetsIn PySem.F.slot_dict_setdefault dd.typeIs PySem.F.entry_dict_setdefault (PySem.F.args_dict_setdefault_3 _ _ _) (kt_meets_setdefault (mixKind X.prog X.w) a (kV_is ry) hd r) ⟨vs, dd, by rw [← rel.length]; exact zl, fun w' hw => ?_, fun hn h' dd' hs => ?_⟩
  · cases ev : valV kvs k with
    | none =>
      rw [ev, hw] at rv
      exact rv.elim
    | some v =>
      rw [ev, hw] at rv
      exact h1 v w' _ ev (I.tok _) rv
  · have hp : (putK kvs k z).length ≤ sizeLine := by have := length_putK kvs k z; lia
    have he : ∃ q, h'.get? a = some q := let ⟨q, _, _, hq, _⟩ := dd'; ⟨q, hq⟩
    refine h2 ?_ _ (d_write I (by rw [e]; exact True.intro) hs he (dk_new hp hd (rel.put k rz) dd'))
    cases ev : valV kvs k with
    | none => rfl
    | some v =>
      rw [ev, hn] at rv
      exact rv.elim
end
def tDSetd (td ty tx : TE) : TE := fun σ H Q => td σ H fun x H1 => ∃ a, x = .ref a ∧ IsD H1 a ∧ ty σ H1 fun y H2 => tx σ H2 fun z H3 => ∃ kvs k, H3 a = some (.dK kvs) ∧ y = kV k ∧ kvs.length < sizeLine ∧
  (∀ v, valV kvs k = some v → Q v H3) ∧ (valV kvs k = none → Q z (upd H3 a (.dK (putK kvs k z))))
section
variable {X : Cx} {o e f : Expr} {apos cpos : Pos} {td ty tx : TE}
theorem pe_dsetd (ho : PE X o td) (he : PE X e ty) (hf : PE X f tx) (m : M2 X o "setdefault" apos e f cpos) : PE X (.Call (.Attribute o "setdefault" apos) [e, f] [] cpos) (tDSetd td ty tx) := by
  intro pins s σ H Q I h
  refine wpAny_Call_method m.base m.few m.line PySem.F.plainAttrs_dict PySem.F.slot_dict_setdefault PySem.F.type_dict_setdefault (thn (ho pins s σ H _ I h) fun u s1 ⟨x, H1, I1, rx, a, ex, d, q1⟩ => ?_)
  subst ex
  obtain rfl : u = Value.ref a := rx
  obtain ⟨t1, t2, _⟩ := isD_at I1 d
  refine ⟨t1, t2, ?_⟩
  rw [m.trees]
  refine Calls.callWith_builtin rfl (Calls.evalArgs_plain (Calls.spliced_cons (thn (he pins s1 σ H1 _ I1 q1) fun iv s2 ⟨y, H2, I2, ry, q2⟩ =>
    Calls.spliced_cons (thn (hf pins s2 σ H2 _ I2 q2) fun fv s3 ⟨z, H3, I3, rz, kvs, k, eH, ey, hl, q3, q4⟩ => Calls.spliced_nil ?_))))
  subst ey
  exact d_setd I3 eH hl ry rz (fun v w' s4 ev I4 rw' => ⟨_, H3, I4, rw', q3 v ev⟩) fun en s4 I4 => ⟨z, _, I4, rz, q4 en⟩
end
end L2
namespace L2
open PySem PySem.Spec PyProof.Rows PySem.W
section
variable {P : Program} {w : World} {A : Around} {E : Value → Shared → Prop} {s : Shared} {a : Addr} {xs : List Str}
end
section
variable {prog : Program} {w : World} {A : Around} {R : Result → Shared → Prop} {I : Addr} {fp wr : List Addr} {G : Array GenState → Array GenState → Prop} {n : Nat} {P : Nat → Value → Prop} {St : Nat → Shared → Prop}
end
section
variable {prog : Program} {w : World} {A : Around} {E : Value → Shared → Prop} {s : Shared}
end
section
variable {prog : Program} {w : World} {A : Around} {E : Value → Shared → Prop} {s : Shared}
end
end L2
namespace L2
open PySem PySem.Spec PyProof.Rows PySem.W
section
variable {M : Model} {A : Around} {E : Value → Shared → Prop}
end
section
variable {prog : Program} {w : World} {A : Around} {E : Value → Shared → Prop} {s : Shared} {a : Addr}
end
end L2
namespace L2
open PySem PySem.Spec PyProof.Rows PySem.W
section
variable {prog : Program} {w : World} {A : Around} {E : Value → Shared → Prop} {s : Shared} {a I : Addr} {es : Array (Int × Value)} {ep : Nat} {t : SetTable}
end
end L2
namespace L2
open PySem PySem.Spec PyProof.Rows PySem.W
section
variable {prog : Program} {w : World} {A : Around} {E : Value → Shared → Prop} {s : Shared} {a I T : Addr} {es : Array (Int × Value)} {ep i : Nat} {t : SetTable} {o : Obj}
end
end L2
namespace L2
open PySem PySem.Spec PyProof.Rows PySem.W
section
variable {prog : Program} {w : World} {A : Around} {E : Value → Shared → Prop} {s : Shared} {a I T : Addr} {es : Array (Int × Value)} {ep : Nat} {t : SetTable} {o : Obj}
end
end L2
namespace L2
open PySem PySem.Spec PyProof.Rows PySem.W
section
variable {prog : Program} {w : World} {A : Around} {E : Value → Shared → Prop} {s : Shared} {a : Addr} {xs : List Str}
end
end L2
namespace L2
open PySem PySem.Spec PyProof.Rows PySem.W
section
variable {prog : Program} {w : World} {A : Around} {E : Value → Shared → Prop} {s : Shared} {a : Addr} {xs : List Str}
end
end L2
namespace L2
open PySem PySem.Spec PyProof.Rows PySem.W
section
variable {X : Cx} {pins : List (Addr × Obj)} {σ : St} {H : Hp} {s : Shared}
end
end L2
namespace L2
open PySem PySem.Spec PyProof.Rows PySem.W
section
variable {X : Cx}
end
end L2
namespace L2
open PySem PySem.Spec PyProof.Rows PySem.W
section
variable {X : Cx}
end
end L2
namespace L2
open PySem PySem.Spec PyProof.Rows PySem.W
section
variable {X : Cx}
end
end L2
namespace L2
open PySem PySem.Spec PyProof.Rows PySem.W
section
variable {X : Cx} {tg : Expr}
end
end L2
namespace L2
open PySem PySem.Spec PyProof.Rows
section
variable {X : Cx}
end
end L2
namespace L2
open PySem PySem.Spec PyProof.Rows
section
variable {prog : Program} {w : World} {A : Around} {E : Value → Shared → Prop} {s : Shared}
theorem getItem_tuple_whole {t sl : Addr} {items : Array Value} {vl vu : Value} {lo hi : Option Int} {Q : Value → Shared → Prop} (ht : IsTup s.heap t items) (hs : s.heap.IsSliceOf sl vl vu .none) (pl : IsPart vl lo) (pu : IsPart vu hi)
    (hw : HT.sIx items.size 0 lo = 0 ∧ HT.sIx items.size items.size hi = items.size) (h : Q (.ref t) s) : wpAny (model prog w) A (getItem (.ref t) (.ref sl)) Q E s := by
  obtain ⟨os, hos, hcs, hds⟩ := id hs
  have hTs : s.TypeIs (.ref sl) "slice" := ⟨os, hos, hcs⟩
  unfold getItem
  try with_reducible refine wpAny_holding ?_
  first | refine wpAny_bind (wpAny_pure ?_) | skip
  refine wpAny_bind (wpAny_sequenceKey ht.typeIs (by decide) ?_)
  refine wpAny_bind (wpAny_callSpecial?_slot (name := Str.ofString "__getitem__") ht.typeIs PyProof.Rows.slot_tuple_getitem
    (wpAny_call_entry PyProof.Rows.slot_tuple_getitem ht.typeIs entry_tuple_getitem ?_ (args_tuple_getitem _ _)))
  show wpAny _ _ (Builtin.Tuple.tupleItemsOf (.ref t) >>= _) _ _ s
  refine wpAny_bind (tupleItemsOf_ ht ?_)
  refine wpAny_bind (wpAny_typeOf hTs ?_)
  rw [if_pos (by decide)]
  refine wpAny_bind (HT.sliceApplied_gen hs pl pu ?_)
  have hyes : (((HT.sIx items.size 0 lo : Nat) : Int) == 0 && (1 : Int) == 1 && (HT.sIx items.size items.size hi - HT.sIx items.size 0 lo) == items.size) = true := by
    rw [hw.1, hw.2]
    simp
  show wpAny _ _ (if (((HT.sIx items.size 0 lo : Nat) : Int) == 0 && (1 : Int) == 1 && (HT.sIx items.size items.size hi - HT.sIx items.size 0 lo) == items.size) = true then _ else _) _ _ s
  rw [if_pos hyes]
  refine wpAny_bind (m := Builtin.Tuple.tupleIsExact (.ref t)) (wpAny_bind (m := typeOf (.ref t)) (wpAny_typeOf ht.typeIs (wpAny_pure ?_)))
  rw [if_pos (by decide)]
  first
    | exact wpAny_bind (wpAny_rule (wpAny_pure ⟨_, rfl, wpAny_pure h⟩))
    | exact wpAny_rule (wpAny_pure ⟨_, rfl, wpAny_pure h⟩)
    | exact wpAny_rule (wpAny_bind (wpAny_pure (wpAny_pure ⟨_, rfl, wpAny_pure h⟩)))
    | exact wpAny_bind (wpAny_rule (wpAny_bind (wpAny_pure (wpAny_pure ⟨_, rfl, wpAny_pure h⟩))))
    | skip
end
section
variable {X : Cx}
def rSlA (K : PySem.W.Frag) : V → Option Int → Option Int → Hp → VK → Prop := fun x lo hi H Q => ∃ a xs, x = .ref a ∧ SqT K H a xs ∧ ∀ p H', Same H H' → SqT K H' p (cutV xs lo hi) → Q (.ref p) H'
theorem sl_tupA (K : PySem.W.Frag) (hK : X.K = K := by rfl) : SlR X (rSlA K) := by
  subst hK
  intro pins s σ H x v vl vu lo hi sl Q I rx hs pl pu h
  obtain ⟨a, xs, rfl, hx, q⟩ := h
  by_cases hw : HT.sIx xs.length 0 lo = 0 ∧ HT.sIx xs.length xs.length hi = xs.length
  · cases rx
    obtain ⟨its, r, ht, hz⟩ := I.tuple hx
    have hlen : its.toArray.size = xs.length := by rw [List.size_toArray]; exact r.length.symm
    refine ⟨"tuple", _, PyProof.Rows.slot_tuple_getitem.lookup, ht.typeIs, ?_⟩
    refine getItem_tuple_whole ht hs pl pu (by rw [hlen]; exact hw) ⟨.ref a, H, I, rfl, q a H (Same.refl H) ?_⟩
    have : cutV xs lo hi = xs := by
      unfold cutV
      rw [hw.1, hw.2, List.drop_zero, Nat.sub_zero, List.take_length]
    rw [this]
    exact hx
  · exact sl_tup pins s σ H _ v vl vu lo hi sl Q I rx hs pl pu ⟨a, xs, rfl, hx, hw, fun p hp => q p _ (same_upd hp) (SqT.of upd_same)⟩
end
end L2
namespace L2
open PySem PySem.Spec PyProof.Rows
section
variable {X : Cx}
end
end L2
namespace L2
open PySem PySem.Spec PyProof.Rows
section
variable {prog : Program} {w : World} {A : Around} {E : Value → Shared → Prop} {s : Shared}
theorem nextOf_tuple_item {it t : Addr} {i : Nat} {items : Array Value} {x : Value} {Q : Value → Shared → Prop} (hit : s.heap.IsTupleIter it t i) (ht : s.heap.IsTuple t items) (hx : items[i]? = some x)
    (hQ : ∀ h', h'.IsTupleIter it t (i + 1) → Heap.SameBut it s.heap h' → Q x { s with heap := h' }) :
    wpAny (model prog w) A (Builtin.SmallTypes.nextOf (.ref it)) Q E s := by
  obtain ⟨o, ho, hc, hd⟩ := id hit
  obtain ⟨ol, hol, _, nl, hdl⟩ := ht
  unfold Builtin.SmallTypes.nextOf
  refine wpAny_bind (wpAny_callSpecial?_slot (name := Str.ofString "__next__") hit.typeIs F.slot_tuple_iterator_next
    (wpAny_call_entry F.slot_tuple_iterator_next hit.typeIs F.entry_tuple_iterator_next ?_ (F.args_tuple_iterator_next_1 _)))
  show wpAny _ _ (field (.ref it) 0 >>= _) _ _ s
  refine wpAny_bind (wpAny_field ho hd (x := .ref t) rfl ?_)
  show wpAny _ _ (if (Value.ref t == Value.none) = true then _ else _) _ _ s
  rw [if_neg (show ¬ ((Value.ref t == Value.none) = true) from Bool.false_ne_true)]
  show wpAny _ _ (field (.ref it) 1 >>= _) _ _ s
  refine wpAny_bind (wpAny_field ho hd (x := .int i 0) rfl ?_)
  show wpAny _ _ (seqItems? (.ref t) >>= _) _ _ s
  refine wpAny_bind (wpAny_seqItems hol hdl ?_)
  simp only [Int.toNat_natCast, hx]
  refine wpAny_bind (wpAny_setField ho hd (by simp) (wpAny_pure ⟨x, rfl, wpAny_pure (hQ _ ?_ (Heap.SameBut.update ..))⟩))
  exact ⟨_, Heap.get?_update_self _ ho (Obj.isFreed_of_fields (Obj.data_mapFields hd _)), (Obj.cls_mapFields ..).trans hc, by
    rw [Obj.data_mapFields hd]; simp [rawInt]⟩
theorem nextOf_tuple_end {it t : Addr} {i : Nat} {items : Array Value} {Q : Value → Shared → Prop} (hh : A.handled = none) (hit : s.heap.IsTupleIter it t i) (ht : s.heap.IsTuple t items) (hx : items[i]? = none)
    (hE : ∀ h' e, Heap.ExtBut it s.heap h' → (∃ o, h'.get? e = some o ∧ o.cls = .type "StopIteration") → E (.ref e) { s with heap := h' }) :
    wpAny (model prog w) A (Builtin.SmallTypes.nextOf (.ref it)) Q E s := by
  obtain ⟨o, ho, hc, hd⟩ := id hit
  obtain ⟨ol, hol, _, nl, hdl⟩ := ht
  unfold Builtin.SmallTypes.nextOf
  refine wpAny_bind (wpAny_callSpecial?_slot (name := Str.ofString "__next__") hit.typeIs F.slot_tuple_iterator_next
    (wpAny_call_entry F.slot_tuple_iterator_next hit.typeIs F.entry_tuple_iterator_next ?_ (F.args_tuple_iterator_next_1 _)))
  show wpAny _ _ (field (.ref it) 0 >>= _) _ _ s
  refine wpAny_bind (wpAny_field ho hd (x := .ref t) rfl ?_)
  show wpAny _ _ (if (Value.ref t == Value.none) = true then _ else _) _ _ s
  rw [if_neg (show ¬ ((Value.ref t == Value.none) = true) from Bool.false_ne_true)]
  show wpAny _ _ (field (.ref it) 1 >>= _) _ _ s
  refine wpAny_bind (wpAny_field ho hd (x := .int i 0) rfl ?_)
  show wpAny _ _ (seqItems? (.ref t) >>= _) _ _ s
  refine wpAny_bind (wpAny_seqItems hol hdl ?_)
  simp only [Int.toNat_natCast, hx]
  refine wpAny_bind (wpAny_rule (wpAny_bind (wpAny_setField ho hd (by simp) ?_)))
  show wpAny _ _ (newExc (.type "StopIteration") [] >>= _) _ _ _
  refine wpAny_bind ?_
  simp only [newExc, newTuple]
  refine wpAny_bind (wpAny_newObj_type ?_ (by size_fits))
  refine wpAny_bind (m := firstArgMember _ _) (wpAny_of_eq (a := Value.none) (by first | rfl | (simp only [firstArgMember]; rfl)) ?_)
  refine wpAny_newObj_type ?_ (by size_fits)
  simp only [raiseNew]
  refine wpAny_bind (wpAny_handled ?_)
  first | rw [show A.in1.handled = none from hh] | rw [hh]
  refine wpAny_bind (wpAny_pure (wpAny_throw ?_))
  exact hE _ _ (((Heap.SameBut.update ..).extBut.push _).push _) ⟨_, Heap.get?_push_size _ rfl, rfl⟩
theorem draws_tuple (hh : A.handled = none) (it t : Addr) (hne : t ≠ it) (items : Array Value) :
    Draws prog w A it [it, t] items.size (fun i v => items[i]? = some v) (fun i h => h.IsTupleIter it t i ∧ h.IsTuple t items) where
  live := fun _ _ st => let ⟨o, ho, _⟩ := st.1; ⟨o, ho⟩
  frame := fun _ _ _ st hk => ⟨st.1.at fun o e => hk it (by simp) o e, let ⟨o, e, r⟩ := st.2; ⟨o, hk t (by simp) o e, r⟩⟩
  item := fun i s Q E hi st hQ => by
    refine nextOf_tuple_item st.1 st.2 (x := items[i]) (by simp [hi]) fun h' hit' hs' => ?_
    exact hQ _ h' s.toks (by simp [hi]) ⟨hit', st.2.extBut hs'.extBut hne⟩ hs'
  done := fun s Q E st hE => nextOf_tuple_end hh st.1 st.2 (by simp) hE
structure ZAp (z TI TO i1 i2 : Addr) (f1 f2 : List Addr) : Prop where
  TIz : TI ≠ z
  TOz : TO ≠ z
  i1z : i1 ≠ z
  i2z : i2 ≠ z
  TITO : TI ≠ TO
  TIi1 : TI ≠ i1
  TIi2 : TI ≠ i2
  TOi1 : TO ≠ i1
  TOi2 : TO ≠ i2
  i12 : i1 ≠ i2
  z1 : z ∉ f1
  TO1 : TO ∉ f1
  i21 : i2 ∉ f1
  z2 : z ∉ f2
  TO2 : TO ∉ f2
  i1f : i1 ∉ f2
theorem extOf {it : Addr} {h h' : Heap} {f : List Addr} (x : Heap.ExtBut it h h') (n : it ∉ f) : ∀ b ∈ f, ∀ o, h.get? b = some o → h'.get? b = some o := fun b hb o e => x b o (fun z => n (z ▸ hb)) e
theorem zip_item {z TI TO i1 i2 : Addr} {f1 f2 : List Addr} {n1 n2 k1 k2 : Nat} {P1 P2 : Nat → Value → Prop} {S1 S2 : Nat → Heap → Prop} {a b : Value} {Q : Value → Shared → Prop} (D : ZAp z TI TO i1 i2 f1 f2)
    (D1 : Draws prog w A i1 f1 n1 P1 S1) (D2 : Draws prog w A i2 f2 n2 P2 S2)
    (hz : IsZip s.heap z TI TO .none) (hTI : IsPair s.heap TI (.ref i1) (.ref i2)) (hTO : IsPair s.heap TO a b)
    (h1 : S1 k1 s.heap) (h2 : S2 k2 s.heap) (hx : k1 < n1) (hy : k2 < n2)
    (hQ : ∀ x y h' tk, P1 k1 x → P2 k2 y → IsZip h' z TI TO (rawInt s.heap.objs.size) → IsPair h' TO x y → S1 (k1 + 1) h' → S2 (k2 + 1) h' → IsPair h' s.heap.objs.size x y → h'.objs.size = s.heap.objs.size + 1 →
      (∀ c o, c ≠ z → c ≠ TO → c ≠ i1 → c ≠ i2 → s.heap.get? c = some o → h'.get? c = some o) → Q (.ref s.heap.objs.size) { s with heap := h', toks := tk }) :
    wpAny (model prog w) A (Builtin.«zip.__next__» ⟨[.ref z], []⟩) (fun fin s' => ∃ v, fin = .done (.ret v) ∧ Q v s') E s := by
  obtain ⟨hp, g, d, tk₀, os⟩ := s
  show wpAny _ _ (field (.ref z) 2 >>= _) _ _ _
  refine wpAny_bind (wpAny_field hz rfl (x := .bool false) rfl ?_)
  show wpAny _ _ (field (.ref z) 3 >>= _) _ _ _
  refine wpAny_bind (wpAny_field hz rfl (x := .ref TI) rfl ?_)
  refine wpAny_bind (wpAny_seqItems hTI rfl ?_)
  show wpAny _ _ (Builtin.SmallTypes.ownedTupleIsFree (.ref z) >>= _) _ _ _
  refine wpAny_bind ?_
  unfold Builtin.SmallTypes.ownedTupleIsFree
  refine wpAny_bind (wpAny_field hz rfl (x := .none) rfl (wpAny_pure ?_))
  simp only [if_true]
  refine wpAny_bind (wpAny_rule ?_)
  refine wpAny_bind (wpAny_field hz rfl (x := .ref TO) rfl ?_)
  refine wpAny_bind (wpAny_setField_rec hz (by simp) fun h₁ hz₁ hs₁ => ?_)
  replace hz₁ : IsZip h₁ z TI TO .ellipsis := hz₁
  refine wpAny_bind ?_
  simp only [List.zipIdx_cons, List.zipIdx_nil, List.forIn_cons, List.forIn_nil]
  refine wpAny_bind (wpAny_bind (wpAny_onRaise ?_))
  show wpAny _ _ (Builtin.SmallTypes.nextOf (.ref i1) >>= _) _ _ _
  have h1₁ : S1 k1 h₁ := D1.frame _ _ _ h1 (extOf hs₁.extBut D.z1)
  refine wpAny_bind (D1.item k1 _ _ _ hx h1₁ fun x h₂ tk₂ hPx h1₂ hs₂ => wpAny_pure ?_)
  have hTO₂ : IsPair h₂ TO a b := hs₂.extBut _ _ D.TOi1 (hs₁.extBut _ _ D.TOz hTO)
  refine wpAny_bind (wpAny_seqItems hTO₂ rfl ?_)
  refine wpAny_bind (wpAny_updateSeq_pair hTO₂ fun h₃ hTO₃ hs₃ => ?_)
  replace hTO₃ : IsPair h₃ TO x b := hTO₃
  refine wpAny_bind (wpAny_letGo (wpAny_pure ?_))
  refine wpAny_bind (wpAny_bind (wpAny_onRaise ?_))
  show wpAny _ _ (Builtin.SmallTypes.nextOf (.ref i2) >>= _) _ _ _
  have h2₃ : S2 k2 h₃ := D2.frame _ _ _ (D2.frame _ _ _ (D2.frame _ _ _ h2 (extOf hs₁.extBut D.z2)) (extOf hs₂.extBut D.i1f)) (extOf hs₃.extBut D.TO2)
  refine wpAny_bind (D2.item k2 _ _ _ hy h2₃ fun y h₄ tk₄ hPy h2₄ hs₄ => wpAny_pure ?_)
  have hTO₄ : IsPair h₄ TO x b := hs₄.extBut _ _ D.TOi2 hTO₃
  refine wpAny_bind (wpAny_seqItems hTO₄ rfl ?_)
  refine wpAny_bind (wpAny_updateSeq_pair hTO₄ fun h₅ hTO₅ hs₅ => ?_)
  replace hTO₅ : IsPair h₅ TO x y := hTO₅
  refine wpAny_bind (wpAny_letGo (wpAny_pure (wpAny_pure ?_)))
  refine wpAny_bind (wpAny_seqItems hTO₅ rfl ?_)
  refine wpAny_bind (wpAny_newTuple ?_)
  have hsz : h₅.objs.size = hp.objs.size := by rw [hs₅.1, hs₄.1, hs₃.1, hs₂.1, hs₁.1]
  have hz₅ : IsZip h₅ z TI TO .ellipsis := hs₅.extBut _ _ D.TOz.symm (hs₄.extBut _ _ D.i2z.symm (hs₃.extBut _ _ D.TOz.symm (hs₂.extBut _ _ D.i1z.symm hz₁)))
  have hk₅ : ∀ c o, c ≠ z → c ≠ TO → c ≠ i1 → c ≠ i2 → hp.get? c = some o → h₅.get? c = some o := fun c o c1 c2 c3 c4 e =>
    hs₅.extBut _ _ c2 (hs₄.extBut _ _ c4 (hs₃.extBut _ _ c2 (hs₂.extBut _ _ c3 (hs₁.extBut _ _ c1 e))))
  have h1₅ : S1 (k1 + 1) h₅ := D1.frame _ _ _ (D1.frame _ _ _ (D1.frame _ _ _ h1₂ (extOf hs₃.extBut D.TO1)) (extOf hs₄.extBut D.i21)) (extOf hs₅.extBut D.TO1)
  have h2₅ : S2 (k2 + 1) h₅ := D2.frame _ _ _ h2₄ (extOf hs₅.extBut D.TO2)
  have hzlt : z < h₅.objs.size := Heap.lt_size hz₅
  show wpAny _ _ (Builtin.SmallTypes.ownedTupleHandOut (.ref z) (.ref h₅.objs.size) >>= _) _ _ _
  refine wpAny_bind ?_
  unfold Builtin.SmallTypes.ownedTupleHandOut
  have hz₆ : IsZip (h₅.push { cls := .type "tuple", data := .seq #[x, y] }) z TI TO .ellipsis := Heap.get?_push_of_some _ hz₅
  refine wpAny_bind (wpAny_setField_rec hz₆ (by simp) fun h₇ hz₇ hs₇ => ?_)
  replace hz₇ : IsZip h₇ z TI TO (rawInt h₅.objs.size) := hz₇
  refine wpAny_setField_rec hz₇ (by simp) fun h₈ hz₈ hs₈ => ?_
  replace hz₈ : IsZip h₈ z TI TO (rawInt h₅.objs.size) := hz₈
  have up : ∀ c o, c ≠ z → h₅.get? c = some o → h₈.get? c = some o := fun c o c1 e => hs₈.extBut _ _ c1 (hs₇.extBut _ _ c1 (Heap.get?_push_of_some _ e))
  have hT₈ : IsPair h₈ h₅.objs.size x y := hs₈.extBut _ _ (Nat.ne_of_gt hzlt) (hs₇.extBut _ _ (Nat.ne_of_gt hzlt) (Heap.get?_push_size _ rfl))
  have hz8 : h₈.objs.size = h₅.objs.size + 1 := by rw [hs₈.1, hs₇.1, Heap.size_push]
  rw [hsz] at hz₈ hT₈ hz8
  refine wpAny_pure ⟨_, rfl, ?_⟩
  show Q (.ref h₅.objs.size) _
  rw [hsz]
  exact hQ x y h₈ _ hPx hPy hz₈ (up _ _ D.TOz hTO₅) (D1.frame _ _ _ h1₅ fun b hb o e => up b o (fun q => D.z1 (q ▸ hb)) e) (D2.frame _ _ _ h2₅ fun b hb o e => up b o (fun q => D.z2 (q ▸ hb)) e) hT₈ hz8 fun c o c1 c2 c3 c4 e => up c o c1 (hk₅ c o c1 c2 c3 c4 e)
theorem zip_end {z TI TO i1 i2 : Addr} {f1 f2 : List Addr} {n1 n2 k1 k2 : Nat} {P1 P2 : Nat → Value → Prop} {S1 S2 : Nat → Heap → Prop} {a b : Value} {Q : Fin → Shared → Prop} (D : ZAp z TI TO i1 i2 f1 f2)
    (D1 : Draws prog w A i1 f1 n1 P1 S1) (D2 : Draws prog w A i2 f2 n2 P2 S2)
    (hz : IsZip s.heap z TI TO .none) (hTI : IsPair s.heap TI (.ref i1) (.ref i2)) (hTO : IsPair s.heap TO a b)
    (h1 : S1 k1 s.heap) (h2 : S2 k2 s.heap) (hend : k1 = n1 ∨ (k1 < n1 ∧ k2 = n2))
    (hE : ∀ h' tk e, (∀ c o, c ≠ z → c ≠ TO → c ≠ i1 → c ≠ i2 → s.heap.get? c = some o → h'.get? c = some o) → (∃ o, h'.get? e = some o ∧ o.cls = .type "StopIteration") → E (.ref e) { s with heap := h', toks := tk }) :
    wpAny (model prog w) A (Builtin.«zip.__next__» ⟨[.ref z], []⟩) Q E s := by
  obtain ⟨hp, g, d, tk₀, os⟩ := s
  show wpAny _ _ (field (.ref z) 2 >>= _) _ _ _
  refine wpAny_bind (wpAny_field hz rfl (x := .bool false) rfl ?_)
  show wpAny _ _ (field (.ref z) 3 >>= _) _ _ _
  refine wpAny_bind (wpAny_field hz rfl (x := .ref TI) rfl ?_)
  refine wpAny_bind (wpAny_seqItems hTI rfl ?_)
  show wpAny _ _ (Builtin.SmallTypes.ownedTupleIsFree (.ref z) >>= _) _ _ _
  refine wpAny_bind ?_
  unfold Builtin.SmallTypes.ownedTupleIsFree
  refine wpAny_bind (wpAny_field hz rfl (x := .none) rfl (wpAny_pure ?_))
  simp only [if_true]
  refine wpAny_bind (wpAny_rule ?_)
  refine wpAny_bind (wpAny_field hz rfl (x := .ref TO) rfl ?_)
  refine wpAny_bind (wpAny_setField_rec hz (by simp) fun h₁ hz₁ hs₁ => ?_)
  replace hz₁ : IsZip h₁ z TI TO .ellipsis := hz₁
  refine wpAny_bind ?_
  simp only [List.zipIdx_cons, List.zipIdx_nil, List.forIn_cons, List.forIn_nil]
  refine wpAny_bind (wpAny_bind (wpAny_onRaise ?_))
  show wpAny _ _ (Builtin.SmallTypes.nextOf (.ref i1) >>= _) _ _ _
  have h1₁ : S1 k1 h₁ := D1.frame _ _ _ h1 (extOf hs₁.extBut D.z1)
  rcases hend with hx | ⟨hx, hy⟩
  · subst hx
    refine wpAny_bind (D1.done _ _ _ h1₁ fun h₂ e hs₂ he => ?_)
    obtain ⟨oe, hoe, hce⟩ := he
    have hz₂ : IsZip h₂ z TI TO .ellipsis := hs₂ _ _ D.i1z.symm hz₁
    have hez : e ≠ z := fun x => by subst x; rw [hz₂] at hoe; cases hoe; simp at hce
    refine wpAny_setField_rec hz₂ (by simp) fun h₃ _ hs₃ => hE h₃ _ e (fun c o c1 _ c3 _ x => hs₃.extBut _ _ c1 (hs₂ _ _ c3 (hs₁.extBut _ _ c1 x))) ⟨oe, hs₃.extBut _ _ hez hoe, hce⟩
  · subst hy
    refine wpAny_bind (D1.item k1 _ _ _ hx h1₁ fun x h₂ tk₂ hPx h1₂ hs₂ => wpAny_pure ?_)
    have hTO₂ : IsPair h₂ TO a b := hs₂.extBut _ _ D.TOi1 (hs₁.extBut _ _ D.TOz hTO)
    refine wpAny_bind (wpAny_seqItems hTO₂ rfl ?_)
    refine wpAny_bind (wpAny_updateSeq_pair hTO₂ fun h₃ hTO₃ hs₃ => ?_)
    refine wpAny_bind (wpAny_letGo (wpAny_pure ?_))
    refine wpAny_bind (wpAny_bind (wpAny_onRaise ?_))
    show wpAny _ _ (Builtin.SmallTypes.nextOf (.ref i2) >>= _) _ _ _
    have h2₃ : S2 k2 h₃ := D2.frame _ _ _ (D2.frame _ _ _ (D2.frame _ _ _ h2 (extOf hs₁.extBut D.z2)) (extOf hs₂.extBut D.i1f)) (extOf hs₃.extBut D.TO2)
    refine wpAny_bind (D2.done _ _ _ h2₃ fun h₄ e hs₄ he => ?_)
    obtain ⟨oe, hoe, hce⟩ := he
    have hz₄ : IsZip h₄ z TI TO .ellipsis := hs₄ _ _ D.i2z.symm (hs₃.extBut _ _ D.TOz.symm (hs₂.extBut _ _ D.i1z.symm hz₁))
    have hez : e ≠ z := fun x => by subst x; rw [hz₄] at hoe; cases hoe; simp at hce
    refine wpAny_setField_rec hz₄ (by simp) fun h₅ _ hs₅ => hE h₅ _ e (fun c o c1 c2 c3 c4 x => hs₅.extBut _ _ c1 (hs₄ _ _ c4 (hs₃.extBut _ _ c2 (hs₂.extBut _ _ c3 (hs₁.extBut _ _ c1 x))))) ⟨oe, hs₅.extBut _ _ hez hoe, hce⟩
theorem pyNext_zipD {z TI TO i1 i2 : Addr} {f1 f2 : List Addr} {n1 n2 k1 k2 : Nat} {P1 P2 : Nat → Value → Prop} {S1 S2 : Nat → Heap → Prop} {a b : Value} {Q : Option Value → Shared → Prop} (hh : A.handled = none) (D : ZAp z TI TO i1 i2 f1 f2)
    (D1 : ∀ A : Around, A.handled = none → Draws prog w A i1 f1 n1 P1 S1) (D2 : ∀ A : Around, A.handled = none → Draws prog w A i2 f2 n2 P2 S2)
    (hz : IsZip s.heap z TI TO .none) (hTI : IsPair s.heap TI (.ref i1) (.ref i2)) (hTO : IsPair s.heap TO a b)
    (h1 : S1 k1 s.heap) (h2 : S2 k2 s.heap) (hx : k1 < n1) (hy : k2 < n2)
    (hQ : ∀ x y h' tk, P1 k1 x → P2 k2 y → IsZip h' z TI TO (rawInt s.heap.objs.size) → IsPair h' TO x y → S1 (k1 + 1) h' → S2 (k2 + 1) h' → IsPair h' s.heap.objs.size x y → h'.objs.size = s.heap.objs.size + 1 →
      (∀ c o, c ≠ z → c ≠ TO → c ≠ i1 → c ≠ i2 → s.heap.get? c = some o → h'.get? c = some o) → Q (some (.ref s.heap.objs.size)) { s with heap := h', toks := tk }) :
    wpAny (model prog w) A (pyNext (.ref z)) Q E s := by
  have hT : s.TypeIs (.ref z) "zip" := ⟨_, hz, rfl⟩
  unfold pyNext
  exact wpAny_bind (wpAny_attempt (wpAny_callSpecial?_slot (name := Str.ofString "__next__") hT F.slot_zip_next
    (wpAny_call_entry F.slot_zip_next hT F.entry_zip_next
      (zip_item D (D1 _ hh) (D2 _ hh) hz hTI hTO h1 h2 hx hy fun x y h' tk a1 a2 a3 a4 a5 a6 a7 a8 a9 => wpAny_pure (hQ x y h' tk a1 a2 a3 a4 a5 a6 a7 a8 a9)) (F.args_zip_next_1 _))))
theorem pyNext_zipD_end {z TI TO i1 i2 : Addr} {f1 f2 : List Addr} {n1 n2 k1 k2 : Nat} {P1 P2 : Nat → Value → Prop} {S1 S2 : Nat → Heap → Prop} {a b : Value} {Q : Option Value → Shared → Prop} (hh : A.handled = none) (D : ZAp z TI TO i1 i2 f1 f2)
    (D1 : ∀ A : Around, A.handled = none → Draws prog w A i1 f1 n1 P1 S1) (D2 : ∀ A : Around, A.handled = none → Draws prog w A i2 f2 n2 P2 S2)
    (hz : IsZip s.heap z TI TO .none) (hTI : IsPair s.heap TI (.ref i1) (.ref i2)) (hTO : IsPair s.heap TO a b)
    (h1 : S1 k1 s.heap) (h2 : S2 k2 s.heap) (hend : k1 = n1 ∨ (k1 < n1 ∧ k2 = n2))
    (hQ : ∀ h' tk, (∀ c o, c ≠ z → c ≠ TO → c ≠ i1 → c ≠ i2 → s.heap.get? c = some o → h'.get? c = some o) → Q none { s with heap := h', toks := tk }) : wpAny (model prog w) A (pyNext (.ref z)) Q E s := by
  have hT : s.TypeIs (.ref z) "zip" := ⟨_, hz, rfl⟩
  unfold pyNext
  refine wpAny_bind (wpAny_attempt (wpAny_callSpecial?_slot (name := Str.ofString "__next__") hT F.slot_zip_next
    (wpAny_call_entry F.slot_zip_next hT F.entry_zip_next (zip_end D (D1 _ hh) (D2 _ hh) hz hTI hTO h1 h2 hend fun h' tk e hk he => ?_) (F.args_zip_next_1 _))))
  obtain ⟨o, ho, hc⟩ := he
  refine wpAny_bind (wpAny_isInstance (T := "StopIteration") (b := true) ⟨o, ho, hc⟩ isSubtype_stop ?_)
  exact wpAny_pure (hQ _ _ hk)
end
end L2
namespace L2
open PySem PySem.Spec PyProof.Rows
section
variable {X : Cx} {pins : List (Addr × Obj)} {σ : St} {H : Hp} {s : Shared} {h' : Heap}
theorem FpOk.ch {fp : List Addr} (hf : ∀ b ∈ fp, FpOk X pins H b) : ∀ b ∈ fp, (b ∈ X.ex ∨ X.s₀.heap.objs.size ≤ b) ∧ b ≠ X.env.locals ∧ (∀ x c, X.env.cells.lookup x = some c → c ≠ b) ∧ ∀ p ∈ X.pn ++ pins, p.1 ≠ b := fun b hb =>
  let ⟨_, f1, _, f3, f4, f5⟩ := hf b hb; ⟨f3, f1, f4, f5⟩
theorem inv_turnedL {fp : List Addr} {t' : Nat} (I : Inv X pins σ H s) (hf : ∀ b ∈ fp, FpOk X pins H b) (k : ∀ b o, b ∉ fp → s.heap.get? b = some o → h'.get? b = some o) : Inv X pins σ H { s with heap := h', toks := t' } := by
  have nit : ∀ b u, H b = some u → b ∉ fp := fun b u e z => by rw [(hf b z).1] at e; cases e
  refine I.step (g' := s.gens) (d' := s.drawn) (ch := fp) (FpOk.ch hf) (fun b o _ _ hc e _ => k b o hc e) (fun b o _ _ hc e _ => ⟨o.slots, k b o hc e⟩) (fun _ _ _ _ n => n)
    (fun b o hc e => ⟨o, k b o hc e⟩) (fun _ _ e => e) (fun _ _ _ e => e) (fun b ps e => ⟨#[], by rw [e]; simp⟩) (fun m hm => ?_) (fun b u e => ?_) I.bare
  · obtain ⟨o, es, ep, ho, r⟩ := hm
    exact ⟨o, es, ep, k _ o (fun z => (hf _ z).2.1 rfl) ho, r⟩
  · refine (I.hok b u e).stay (fun c v hc q => k c v ?_ q) (fun _ q => q) fun _ _ q => q
    rcases hc with z | z
    · rw [z]; exact nit b u e
    · exact nit c _ z
theorem inv_turnedN {fp : List Addr} {t' : Nat} {a : Addr} {o : HO} (I : Inv X pins σ H s) (hf : ∀ b ∈ fp, FpOk X pins H b) (k : ∀ b o, b ∉ fp → s.heap.get? b = some o → h'.get? b = some o) (hp : s.heap.objs.size ≤ a)
    (new : ObjOk X.prog X.w (upd H a o) h' a o) : Inv X pins σ (upd H a o) { s with heap := h', toks := t' } := by
  have hn : H a = none := I.hok.fresh hp
  have nit : ∀ b u, H b = some u → b ∉ fp := fun b u e z => by rw [(hf b z).1] at e; cases e
  have old : ∀ {b u}, H b = some u → upd H a o b = some u := fun {b u} q => by rw [upd_ne (ne_of_none q hn)]; exact q
  refine I.step (g' := s.gens) (d' := s.drawn) (ch := fp) (FpOk.ch hf) (fun b o _ _ hc e _ => k b o hc e) (fun b o _ _ hc e _ => ⟨o.slots, k b o hc e⟩)
    (fun b u hc e n => by rw [upd_ne (Nat.ne_of_lt (Nat.lt_of_lt_of_le (Heap.lt_size e) hp))]; exact n)
    (fun b o hc e => ⟨o, k b o hc e⟩) (fun b xs e => old e) (fun b o u e => old e) (fun b ps e => ⟨#[], by rw [old e]; simp⟩) (fun m hm => ?_) (fun b u e => ?_) I.bare
  · obtain ⟨o, es, ep, ho, r⟩ := hm
    exact ⟨o, es, ep, k _ o (fun z => (hf _ z).2.1 rfl) ho, r⟩
  · by_cases hb : b = a
    · subst hb
      rw [upd_same] at e
      cases e
      exact new
    · rw [upd_ne hb] at e
      refine (I.hok b u e).stay (fun c v hc q => k c v ?_ q) (fun c q => old q) fun c xs q => old q
      rcases hc with z | z
      · rw [z]; exact nit b u e
      · exact nit c _ z
end
def Itz (K : PySem.W.Frag) (a b : Addr) : It :=
  ⟨fun i H => ∃ xs ys x y, SqT K H a xs ∧ SqT K H b ys ∧ xs[i]? = some x ∧ ys[i]? = some y,
   fun i H v H' => ∃ p x y, v = .ref p ∧ H p = none ∧ H' = upd H p (.tup [x, y]) ∧ ∀ xs ys, SqT K H a xs → SqT K H b ys → xs[i]? = some x ∧ ys[i]? = some y,
   fun i H => ∃ xs ys, SqT K H a xs ∧ SqT K H b ys ∧ i = min xs.length ys.length⟩
theorem turn_zip {P : Program} {w : World} {K : PySem.W.Frag} {elts : List Expr} {kk} {pos : Pos} (z TI TO i1 i2 a b : Addr) (D : ZAp z TI TO i1 i2 [i1, a] [i2, b]) (ha : a ≠ i1) (hb : b ≠ i2) :
    Turn P w K (.Tuple elts kk pos) (Itz K a b) [z, TI, TO, i1, i2] z
      (fun i h => IsZip h z TI TO .none ∧ IsPair h TI (.ref i1) (.ref i2) ∧ (∃ u v, IsPair h TO u v) ∧ h.IsTupleIter i1 a i ∧ h.IsTupleIter i2 b i) where
  mem := by simp
  obj := fun i h st c hc => by
    obtain ⟨hz, hTI, ⟨u, v, hTO⟩, ⟨o1, e1, _, d1⟩, ⟨o2, e2, _, d2⟩⟩ := st
    simp only [List.mem_cons, List.not_mem_nil, or_false] at hc
    rcases hc with rfl | rfl | rfl | rfl | rfl
    · exact ⟨_, hz, fun _ q => by cases q⟩
    · exact ⟨_, hTI, fun _ q => by cases q⟩
    · exact ⟨_, hTO, fun _ q => by cases q⟩
    · exact ⟨_, e1, fun _ q => by rw [d1] at q; cases q⟩
    · exact ⟨_, e2, fun _ q => by rw [d2] at q; cases q⟩
  keep := fun i h h' st k => by
    obtain ⟨hz, hTI, ⟨u, v, hTO⟩, h1, h2⟩ := st
    exact ⟨k z (by simp) _ hz, k TI (by simp) _ hTI, ⟨u, v, k TO (by simp) _ hTO⟩, h1.at fun o e => k i1 (by simp) o e, h2.at fun o e => k i2 (by simp) o e⟩
  item := by
    intro X hP hw hK hc i pins s σ H E I hf st hg
    subst hP hw hK
    obtain ⟨xs, ys, x, y, hqa, hqb, hx, hy⟩ := hg
    obtain ⟨its, ra, pa, _⟩ := I.tuple hqa
    obtain ⟨jts, rb, pb, _⟩ := I.tuple hqb
    obtain ⟨u, hu, ru⟩ := ra.get hx
    obtain ⟨v, hv, rv⟩ := rb.get hy
    obtain ⟨hz, hTI, ⟨u0, v0, hTO⟩, h1, h2⟩ := st
    have hl1 : i < its.toArray.size := by
      have := (List.getElem?_eq_some_iff.mp hu).1
      simpa using this
    have hl2 : i < jts.toArray.size := by
      have := (List.getElem?_eq_some_iff.mp hv).1
      simpa using this
    refine pyNext_zipD (I.ok.hd hc) D (fun A hA => draws_tuple hA i1 a ha its.toArray) (fun A hA => draws_tuple hA i2 b hb jts.toArray) hz hTI hTO ⟨h1, pa⟩ ⟨h2, pb⟩ hl1 hl2 fun u' v' h' tk e1 e2 hz' hTO' s1' s2' hT hsz hk => ?_
    have e1' : u' = u := by simpa [hu] using e1.symm
    have e2' : v' = v := by simpa [hv] using e2.symm
    subst e1' e2'
    refine ⟨_, rfl, wpAny_letOwnedTupleGo_zip hz' fun h2 hz2 hs2 => ?_⟩
    have zlt : z < s.heap.objs.size := Heap.lt_size hz
    have hT2 : IsPair h2 s.heap.objs.size u' v' := hs2.extBut _ _ (Nat.ne_of_gt zlt) hT
    have I2 : Inv X pins σ (upd H s.heap.objs.size (.tup [x, y])) { s with heap := h2, toks := tk } := by
      refine inv_turnedN (s := s) (fp := [z, TI, TO, i1, i2]) I hf (fun c o hc e => ?_) (Nat.le_refl _) ?_
      · simp only [List.mem_cons, List.not_mem_nil, or_false, not_or] at hc
        exact hs2.extBut _ _ hc.1 (hk c o hc.1 hc.2.2.1 hc.2.2.2.1 hc.2.2.2.2 e)
      · exact ⟨by show 2 ≤ sizeLine; decide, [u', v'], .cons ru (.cons rv .nil), _, hT2, rfl, _, rfl⟩
    refine ⟨.ref s.heap.objs.size, upd H s.heap.objs.size (.tup [x, y]), I2, rfl, ⟨_, x, y, rfl, I.fresh, rfl, fun xs' ys' q1 q2 => ?_⟩, ⟨hz2, ?_, ⟨_, _, hs2.extBut _ _ D.TOz hTO'⟩, s1'.1.extBut hs2.extBut D.i1z, s2'.1.extBut hs2.extBut D.i2z⟩, fun c hc => ?_⟩
    · rw [I.tuple_inj q1 hqa, I.tuple_inj q2 hqb]
      exact ⟨hx, hy⟩
    · exact hs2.extBut _ _ D.TIz (hk _ _ D.TIz D.TITO D.TIi1 D.TIi2 hTI)
    · rw [upd_ne]
      · exact (hf c hc).1
      · simp only [List.mem_cons, List.not_mem_nil, or_false] at hc
        obtain ⟨o1, g1, _⟩ := h1
        obtain ⟨o2, g2, _⟩ := ‹s.heap.IsTupleIter i2 b i›
        rcases hc with rfl | rfl | rfl | rfl | rfl
        · exact Nat.ne_of_lt (Heap.lt_size hz)
        · exact Nat.ne_of_lt (Heap.lt_size hTI)
        · exact Nat.ne_of_lt (Heap.lt_size hTO)
        · exact Nat.ne_of_lt (Heap.lt_size g1)
        · exact Nat.ne_of_lt (Heap.lt_size g2)
  done := by
    intro X hP hw hK hc i pins s σ H E I hf st hg
    subst hP hw hK
    obtain ⟨xs, ys, hqa, hqb, hi⟩ := hg
    obtain ⟨its, ra, pa, _⟩ := I.tuple hqa
    obtain ⟨jts, rb, pb, _⟩ := I.tuple hqb
    obtain ⟨hz, hTI, ⟨u0, v0, hTO⟩, h1, h2⟩ := st
    have l1 : its.toArray.size = xs.length := by rw [List.size_toArray]; exact ra.length.symm
    have l2 : jts.toArray.size = ys.length := by rw [List.size_toArray]; exact rb.length.symm
    refine pyNext_zipD_end (I.ok.hd hc) D (fun A hA => draws_tuple hA i1 a ha its.toArray) (fun A hA => draws_tuple hA i2 b hb jts.toArray) hz hTI hTO ⟨h1, pa⟩ ⟨h2, pb⟩ ?_ fun h' tk hk => ⟨rfl, inv_turnedL I hf fun c o hc e => ?_⟩
    · rw [l1, l2]; lia
    · simp only [List.mem_cons, List.not_mem_nil, or_false, not_or] at hc
      exact hk c o hc.1 hc.2.2.1 hc.2.2.2.1 hc.2.2.2.2 e
  self := fun _ _ _ _ _ st h => wpAny_pyIter_zip st.1 h
abbrev zpH1 (h : Heap) (l1 : Addr) : Heap := h.push { cls := .type "tuple_iterator", data := .fields #[.ref l1, .int 0 0] }
abbrev zpH2 (h : Heap) (l1 l2 : Addr) : Heap := (zpH1 h l1).push { cls := .type "tuple_iterator", data := .fields #[.ref l2, .int 0 0] }
abbrev zpH3 (h : Heap) (l1 l2 : Addr) : Heap := (zpH2 h l1 l2).push { cls := .type "tuple", data := .seq #[.ref h.objs.size, .ref (zpH1 h l1).objs.size] }
abbrev zpH4 (h : Heap) (l1 l2 : Addr) : Heap := (zpH3 h l1 l2).push { cls := .type "tuple", data := .seq #[.none, .none] }
abbrev zpH5 (h : Heap) (l1 l2 : Addr) : Heap := (zpH4 h l1 l2).push { cls := .type "zip", data := .fields #[.none, .bool false, .bool false, .ref (zpH2 h l1 l2).objs.size, .ref (zpH3 h l1 l2).objs.size] }
theorem meets_zipT (l1 l2 : Addr) (xs ys : Array Value) :
    Meets (Builtin.«zip.__new__» ⟨[.type "zip", .ref l1, .ref l2], []⟩) (fun _ R s => s.heap.IsTuple l1 xs ∧ s.heap.IsTuple l2 ys ∧
      R (.ok (.ret (.ref (zpH4 s.heap l1 l2).objs.size))) { s with heap := zpH5 s.heap l1 l2 }) :=
  .of_wp fun prog w A R s h => by
    obtain ⟨hp, g, d, tk, os⟩ := s; obtain ⟨hl1, hl2, h⟩ := h
    have hsub := sub_zip
    have hL1 : Heap.IsTuple (Shared.heap ⟨hp, g, d, tk, os⟩) l1 xs := hl1
    have hL2 : Heap.IsTuple (Shared.heap ⟨hp.push { cls := .type "tuple_iterator", data := .fields #[.ref l1, .int 0 0] }, g, d, tk, os⟩) l2 ys := Heap.IsTuple.push hl2 _
    wp_walk using wpAny_pyIter_tuple hL1, wpAny_pyIter_tuple hL2
    exact ⟨_, rfl, h⟩
section
variable {prog : Program} {w : World} {A : Around} {E : Value → Shared → Prop} {s : Shared}
theorem call_zipT {l1 l2 : Addr} {xs ys : Array Value} {Q : Value → Shared → Prop} (hl1 : s.heap.IsTuple l1 xs) (hl2 : s.heap.IsTuple l2 ys)
    (h : ∀ h', IsZip h' (s.heap.objs.size + 4) (s.heap.objs.size + 2) (s.heap.objs.size + 3) .none → IsPair h' (s.heap.objs.size + 2) (.ref s.heap.objs.size) (.ref (s.heap.objs.size + 1)) →
      IsPair h' (s.heap.objs.size + 3) .none .none → h'.IsTupleIter s.heap.objs.size l1 0 → h'.IsTupleIter (s.heap.objs.size + 1) l2 0 → h'.objs.size = s.heap.objs.size + 5 →
      (∀ c o, s.heap.get? c = some o → h'.get? c = some o) → Q (.ref (s.heap.objs.size + 4)) { s with heap := h' }) :
    wpAny (model prog w) A (call (.type "zip") [.ref l1, .ref l2]) Q E s := by
  refine callType_new F.called_zip (by decide) (F.typeCall_zip_2 _ _) (F.newCall_zip_2 _ _) (fun obj => F.args_object_init_3 obj _ _) F.entry_zip_new
    (meets_zipT l1 l2 xs ys) ⟨hl1, hl2, ?_⟩
  have z1 : (zpH1 s.heap l1).objs.size = s.heap.objs.size + 1 := Heap.size_push ..
  have z2 : (zpH2 s.heap l1 l2).objs.size = s.heap.objs.size + 2 := by rw [Heap.size_push, z1]
  have z3 : (zpH3 s.heap l1 l2).objs.size = s.heap.objs.size + 3 := by rw [Heap.size_push, z2]
  have z4 : (zpH4 s.heap l1 l2).objs.size = s.heap.objs.size + 4 := by rw [Heap.size_push, z3]
  have z5 : (zpH5 s.heap l1 l2).objs.size = s.heap.objs.size + 5 := by rw [Heap.size_push, z4]
  have g5 : (zpH5 s.heap l1 l2).get? (zpH4 s.heap l1 l2).objs.size = some _ := Heap.get?_push_size _ rfl
  have g4 : (zpH5 s.heap l1 l2).get? (zpH3 s.heap l1 l2).objs.size = some _ := Heap.get?_push_of_some _ (Heap.get?_push_size _ rfl)
  have g3 : (zpH5 s.heap l1 l2).get? (zpH2 s.heap l1 l2).objs.size = some _ := Heap.get?_push_of_some _ (Heap.get?_push_of_some _ (Heap.get?_push_size _ rfl))
  have g2 : (zpH5 s.heap l1 l2).get? (zpH1 s.heap l1).objs.size = some _ := Heap.get?_push_of_some _ (Heap.get?_push_of_some _ (Heap.get?_push_of_some _ (Heap.get?_push_size _ rfl)))
  have g1 : (zpH5 s.heap l1 l2).get? s.heap.objs.size = some _ := Heap.get?_push_of_some _ (Heap.get?_push_of_some _ (Heap.get?_push_of_some _ (Heap.get?_push_of_some _ (Heap.get?_push_size _ rfl))))
  show _ ∧ _
  rw [z2, z3, z4] at g5
  rw [z1, z2] at g3
  rw [z3] at g4
  rw [z1] at g2
  rw [z4]
  exact ⟨⟨_, g5, rfl⟩, h _ g5 g3 g4 ⟨_, g1, rfl, rfl⟩ ⟨_, g2, rfl, rfl⟩ z5 fun c o x =>
    Heap.get?_push_of_some _ (Heap.get?_push_of_some _ (Heap.get?_push_of_some _ (Heap.get?_push_of_some _ (Heap.get?_push_of_some _ x))))⟩
end
theorem zAp_new {n a b : Addr} (h1 : a < n) (h2 : b < n) : ZAp (n + 4) (n + 2) (n + 3) n (n + 1) [n, a] [n + 1, b] := by
  have D := PyProof.Rows.zipApart_new (n := n) (l1 := a) (l2 := b) h1 h2
  have no : ∀ {x y z : Addr}, y ≠ x → z ≠ x → x ∉ [y, z] := fun {x y z} p q h => by
    simp only [List.mem_cons, List.not_mem_nil, or_false] at h
    rcases h with h | h
    · exact p h.symm
    · exact q h.symm
  exact ⟨D.TIz, D.TOz, D.i1z, D.i2z, D.TITO, D.TIi1, D.TIi2, D.TOi1, D.TOi2, D.i12, no D.i1z D.l1z, no D.TOi1.symm D.l1TO, no D.i12 D.l1i2, no D.i2z D.l2z, no D.TOi2.symm D.l2TO, no D.i12.symm D.l2i1⟩
section
variable {X : Cx} {elts : List Expr} {pt : Pos}
def iZip (K : PySem.W.Frag) (ta : TA) : TI := fun σ H R => ta σ H fun vs H1 => ∃ a b, vs = [.ref a, .ref b] ∧ (∃ xs, SqT K H1 a xs) ∧ (∃ ys, SqT K H1 b ys) ∧ R (Itz K a b) H1
theorem pi_zip (K : PySem.W.Frag) {kk} {a b : Expr} {ta : TA} {p pos : Pos} (hg : Gl X "zip") (hm : X.mg "zip" = none) (ha : PA X [a, b] ta) (hs : starEach [a, b] X.env = [(false, eval a X.env), (false, eval b X.env)] := by rfl) (hs2 : starEach [b] X.env = [(false, eval b X.env)] := by rfl) (hK : X.K = K := by rfl) :
    PI X (.Tuple elts kk pt) (.Call (.Name "zip" p) [a, b] [] pos) (iZip K ta) := by
  subst hK
  intro pins s σ H R I h
  refine Call_ (ld_blt I hg hm bt_zip (PyProof.Rows.callWith_type1 (thn (ha pos pins s σ H _ I h) fun us s1 ⟨vs, H1, I1, r1, q1⟩ => ?_) (by rw [hs, hs2]) (by rw [hs2]; rfl)))
  obtain ⟨x, y, e, ⟨xs, hx⟩, ⟨ys, hy⟩, q⟩ := q1
  subst e
  cases r1 with
  | cons r rr =>
    cases rr with
    | cons r' rr =>
      cases rr
      cases r
      cases r'
      obtain ⟨its, ra, pa, _⟩ := I1.tuple hx
      obtain ⟨jts, rb, pb, _⟩ := I1.tuple hy
      have la : x < s1.heap.objs.size := by obtain ⟨_, e, _⟩ := id pa; exact Heap.lt_size e
      have lb : y < s1.heap.objs.size := by obtain ⟨_, e, _⟩ := id pb; exact Heap.lt_size e
      refine call_zipT pa pb fun h' hz hTI hTO g1 g2 hsz hk => wpAny_pyIter_zip hz ?_
      refine ⟨_, _, _, _, H1, rfl, I1.kept (t' := s1.toks) hk, turn_zip (s1.heap.objs.size + 4) (s1.heap.objs.size + 2) (s1.heap.objs.size + 3) s1.heap.objs.size (s1.heap.objs.size + 1) x y (zAp_new la lb) (Nat.ne_of_lt la) (Nat.ne_of_lt (Nat.lt_succ_of_lt lb)), ⟨hz, hTI, ⟨_, _, hTO⟩, g1, g2⟩, fun c hc => ?_, q⟩
      have le : s1.heap.objs.size ≤ c := by
        simp only [List.mem_cons, List.not_mem_nil, or_false] at hc
        rcases hc with rfl | rfl | rfl | rfl | rfl
        · exact Nat.le_add_right _ 4
        · exact Nat.le_add_right _ 2
        · exact Nat.le_add_right _ 3
        · exact Nat.le_refl _
        · exact Nat.le_add_right _ 1
      exact I1.fpOk le (I1.hok.fresh le)
end
theorem for_zip {K : PySem.W.Frag} {a b : Addr} {xs ys : List V} {g : TG} {tb : TS} {D : Ends} {σ : St} {H : Hp} (Pv : Nat → St → Hp → Prop) (h0 : Pv 0 σ H) (hl : ∀ i σ H, i ≤ min xs.length ys.length → Pv i σ H → SqT K H a xs ∧ SqT K H b ys)
    (hs : ∀ i x y p σ H, xs[i]? = some x → ys[i]? = some y → H p = none → Pv i σ H → g (.ref p) σ (upd H p (.tup [x, y])) fun σ2 H2 => tb { D with nx := Pv (i + 1), ct := Pv (i + 1), bk := D.nx } σ2 H2) (he : ∀ σ H, Pv (min xs.length ys.length) σ H → D.nx σ H) :
    ∃ W : Nat → Nat → St → Hp → Prop, (∃ m, W 0 m σ H) ∧ ∀ i m σ H, W i m σ H → ((Itz K a b).stop i H ∧ D.nx σ H) ∨ ((Itz K a b).go i H ∧ ∃ N : St → Hp → Prop, (∀ σ' H', N σ' H' → ∃ m', m' < m ∧ W (i + 1) m' σ' H') ∧ ∀ x H', (Itz K a b).yld i H x H' → g x σ H' fun σ2 H2 => tb { D with nx := N, ct := N, bk := D.nx } σ2 H2) := by
  refine for_by (min xs.length ys.length) Pv h0 (fun i σ H hi p => ?_) (fun σ H p => ⟨⟨xs, ys, (hl _ σ H (Nat.le_refl _) p).1, (hl _ σ H (Nat.le_refl _) p).2, rfl⟩, he σ H p⟩) fun i σ H hi p x H' y => ?_
  · obtain ⟨q1, q2⟩ := hl i σ H (Nat.le_of_lt hi) p
    have l1 : i < xs.length := by lia
    have l2 : i < ys.length := by lia
    exact ⟨xs, ys, xs[i], ys[i], q1, q2, List.getElem?_eq_getElem l1, List.getElem?_eq_getElem l2⟩
  · obtain ⟨q1, q2⟩ := hl i σ H (Nat.le_of_lt hi) p
    obtain ⟨c, x', y', rfl, hc, rfl, hq⟩ := y
    obtain ⟨e1, e2⟩ := hq xs ys q1 q2
    exact hs i x' y' c σ H e1 e2 hc p
end L2
namespace L2
open PySem PySem.Spec PyProof.Rows
section
variable {X : Cx}
end
end L2
namespace L2
open PySem PySem.Spec PyProof.Rows
section
variable {X : Cx} {k k' : Nat} {ι : Type} {cls : ι → Addr} {ps : List Str} {sp : ι → Sp} {x m : Str} {p pos apos : Pos} {e o : Expr} {es : List Expr} {ta : TE} {t : TA}
end
end L2
namespace L2
open PySem PySem.Spec PyProof.Rows
section
open PySem.AutoSeq1
end
section
variable {X : Cx}
end
end L2
namespace L2
open PySem PySem.Spec PyProof.Rows
def Asc (z : Str) : Prop := ∀ c ∈ z.cps.toList, c < 128
def Itx (a b : Str) : It :=
  ⟨fun i H => ∃ x y, a.cps[i]? = some x ∧ b.cps[i]? = some y,
   fun i H v H' => ∃ p x y, v = .ref p ∧ H p = none ∧ H' = upd H p (.tup [.str ⟨#[x]⟩, .str ⟨#[y]⟩]) ∧ a.cps[i]? = some x ∧ b.cps[i]? = some y,
   fun i H => i = min a.length b.length⟩
theorem turn_zipS {P : Program} {w : World} {K : PySem.W.Frag} {elts : List Expr} {kk} {pos : Pos} (z TI TO i1 i2 : Addr) (a b : Str) (ta tb : Tok) (D : ZAp z TI TO i1 i2 [i1] [i2]) :
    Turn P w K (.Tuple elts kk pos) (Itx a b) [z, TI, TO, i1, i2] z
      (fun i h => IsZip h z TI TO .none ∧ IsPair h TI (.ref i1) (.ref i2) ∧ (∃ u v, IsPair h TO u v) ∧ h.IsStrIter i1 "str_ascii_iterator" a ta i ∧ h.IsStrIter i2 "str_ascii_iterator" b tb i) where
  mem := by simp
  obj := fun i h st c hc => by
    obtain ⟨hz, hTI, ⟨u, v, hTO⟩, ⟨o1, e1, _, d1⟩, ⟨o2, e2, _, d2⟩⟩ := st
    simp only [List.mem_cons, List.not_mem_nil, or_false] at hc
    rcases hc with rfl | rfl | rfl | rfl | rfl
    · exact ⟨_, hz, fun _ q => by cases q⟩
    · exact ⟨_, hTI, fun _ q => by cases q⟩
    · exact ⟨_, hTO, fun _ q => by cases q⟩
    · exact ⟨_, e1, fun _ q => by rw [d1] at q; cases q⟩
    · exact ⟨_, e2, fun _ q => by rw [d2] at q; cases q⟩
  keep := fun i h h' st k => by
    obtain ⟨hz, hTI, ⟨u, v, hTO⟩, ⟨o1, e1, c1, d1⟩, ⟨o2, e2, c2, d2⟩⟩ := st
    exact ⟨k z (by simp) _ hz, k TI (by simp) _ hTI, ⟨u, v, k TO (by simp) _ hTO⟩, ⟨o1, k i1 (by simp) _ e1, c1, d1⟩, ⟨o2, k i2 (by simp) _ e2, c2, d2⟩⟩
  item := by
    intro X hP hw hK hc i pins s σ H E I hf st hg
    subst hP hw hK
    obtain ⟨x, y, hx, hy⟩ := hg
    obtain ⟨hz, hTI, ⟨u0, v0, hTO⟩, h1, h2⟩ := st
    have hl1 : i < a.cps.size := (Array.getElem?_eq_some_iff.mp hx).1
    have hl2 : i < b.cps.size := (Array.getElem?_eq_some_iff.mp hy).1
    refine pyNext_zipD (I.ok.hd hc) D (fun A hA => Draws.strAscii hA i1 a ta) (fun A hA => Draws.strAscii hA i2 b tb) hz hTI hTO h1 h2 hl1 hl2 fun u' v' h' tk e1 e2 hz' hTO' s1' s2' hT hsz hk => ?_
    obtain ⟨c1, t1, g1, rfl⟩ := e1
    obtain ⟨c2, t2, g2, rfl⟩ := e2
    rw [hx] at g1
    rw [hy] at g2
    cases g1
    cases g2
    refine ⟨_, rfl, wpAny_letOwnedTupleGo_zip hz' fun h2 hz2 hs2 => ?_⟩
    have zlt : z < s.heap.objs.size := Heap.lt_size hz
    have hT2 : IsPair h2 s.heap.objs.size (.str ⟨#[x]⟩ t1) (.str ⟨#[y]⟩ t2) := hs2.extBut _ _ (Nat.ne_of_gt zlt) hT
    have I2 : Inv X pins σ (upd H s.heap.objs.size (.tup [.str ⟨#[x]⟩, .str ⟨#[y]⟩])) { s with heap := h2, toks := tk } := by
      refine inv_turnedN (s := s) (fp := [z, TI, TO, i1, i2]) I hf (fun c o hc e => ?_) (Nat.le_refl _) ?_
      · simp only [List.mem_cons, List.not_mem_nil, or_false, not_or] at hc
        exact hs2.extBut _ _ hc.1 (hk c o hc.1 hc.2.2.1 hc.2.2.2.1 hc.2.2.2.2 e)
      · exact ⟨by show 2 ≤ sizeLine; decide, _, .cons ⟨t1, rfl⟩ (.cons ⟨t2, rfl⟩ .nil), _, hT2, rfl, _, rfl⟩
    refine ⟨.ref s.heap.objs.size, upd H s.heap.objs.size (.tup [.str ⟨#[x]⟩, .str ⟨#[y]⟩]), I2, rfl, ⟨_, x, y, rfl, I.fresh, rfl, hx, hy⟩, ⟨hz2, ?_, ⟨_, _, hs2.extBut _ _ D.TOz hTO'⟩, ?_, ?_⟩, fun c hc => ?_⟩
    · exact hs2.extBut _ _ D.TIz (hk _ _ D.TIz D.TITO D.TIi1 D.TIi2 hTI)
    · obtain ⟨o, q1, q2, q3⟩ := s1'
      exact ⟨o, hs2.extBut _ _ D.i1z q1, q2, q3⟩
    · obtain ⟨o, q1, q2, q3⟩ := s2'
      exact ⟨o, hs2.extBut _ _ D.i2z q1, q2, q3⟩
    · rw [upd_ne]
      · exact (hf c hc).1
      · simp only [List.mem_cons, List.not_mem_nil, or_false] at hc
        obtain ⟨o1, g1, _⟩ := h1
        obtain ⟨o2, g2, _⟩ := ‹s.heap.IsStrIter i2 "str_ascii_iterator" b tb i›
        rcases hc with rfl | rfl | rfl | rfl | rfl
        · exact Nat.ne_of_lt (Heap.lt_size hz)
        · exact Nat.ne_of_lt (Heap.lt_size hTI)
        · exact Nat.ne_of_lt (Heap.lt_size hTO)
        · exact Nat.ne_of_lt (Heap.lt_size g1)
        · exact Nat.ne_of_lt (Heap.lt_size g2)
  done := by
    intro X hP hw hK hc i pins s σ H E I hf st hg
    subst hP hw hK
    obtain ⟨hz, hTI, ⟨u0, v0, hTO⟩, h1, h2⟩ := st
    refine pyNext_zipD_end (I.ok.hd hc) D (fun A hA => Draws.strAscii hA i1 a ta) (fun A hA => Draws.strAscii hA i2 b tb) hz hTI hTO h1 h2 ?_ fun h' tk hk => ⟨rfl, inv_turnedL I hf fun c o hc e => ?_⟩
    · have e1 : a.length = a.cps.size := rfl
      have e2 : b.length = b.cps.size := rfl
      have : i = min a.length b.length := hg
      lia
    · simp only [List.mem_cons, List.not_mem_nil, or_false, not_or] at hc
      exact hk c o hc.1 hc.2.2.1 hc.2.2.2.1 hc.2.2.2.2 e
  self := fun _ _ _ _ _ st h => wpAny_pyIter_zip st.1 h
abbrev zsH1 (h : Heap) (a : Str) (t : Tok) : Heap := h.push { cls := .type "str_ascii_iterator", data := .fields #[.str a t, .int 0 0] }
abbrev zsH2 (h : Heap) (a : Str) (t : Tok) (b : Str) (u : Tok) : Heap := (zsH1 h a t).push { cls := .type "str_ascii_iterator", data := .fields #[.str b u, .int 0 0] }
abbrev zsH3 (h : Heap) (a : Str) (t : Tok) (b : Str) (u : Tok) : Heap := (zsH2 h a t b u).push { cls := .type "tuple", data := .seq #[.ref h.objs.size, .ref (zsH1 h a t).objs.size] }
abbrev zsH4 (h : Heap) (a : Str) (t : Tok) (b : Str) (u : Tok) : Heap := (zsH3 h a t b u).push { cls := .type "tuple", data := .seq #[.none, .none] }
abbrev zsH5 (h : Heap) (a : Str) (t : Tok) (b : Str) (u : Tok) : Heap := (zsH4 h a t b u).push { cls := .type "zip", data := .fields #[.none, .bool false, .bool false, .ref (zsH2 h a t b u).objs.size, .ref (zsH3 h a t b u).objs.size] }
theorem meets_zipS (a : Str) (t : Tok) (b : Str) (u : Tok) (ha : (a.cps.all fun x => decide (x < 128)) = true) (hb : (b.cps.all fun x => decide (x < 128)) = true) :
    Meets (Builtin.«zip.__new__» ⟨[.type "zip", .str a t, .str b u], []⟩) (fun _ R s =>
      R (.ok (.ret (.ref (zsH4 s.heap a t b u).objs.size))) { s with heap := zsH5 s.heap a t b u }) :=
  .of_wp fun prog w A R s h => by
    obtain ⟨hp, g, d, tk, os⟩ := s
    have hsub := sub_zip
    wp_walk using wpAny_pyIter_ascii ha, wpAny_pyIter_ascii hb
    exact ⟨_, rfl, h⟩
section
variable {prog : Program} {w : World} {A : Around} {E : Value → Shared → Prop} {s : Shared}
theorem call_zipS {a b : Str} {t u : Tok} {Q : Value → Shared → Prop} (ha : (a.cps.all fun x => decide (x < 128)) = true) (hb : (b.cps.all fun x => decide (x < 128)) = true)
    (h : ∀ h', IsZip h' (s.heap.objs.size + 4) (s.heap.objs.size + 2) (s.heap.objs.size + 3) .none → IsPair h' (s.heap.objs.size + 2) (.ref s.heap.objs.size) (.ref (s.heap.objs.size + 1)) →
      IsPair h' (s.heap.objs.size + 3) .none .none → h'.IsStrIter s.heap.objs.size "str_ascii_iterator" a t 0 → h'.IsStrIter (s.heap.objs.size + 1) "str_ascii_iterator" b u 0 → h'.objs.size = s.heap.objs.size + 5 →
      (∀ c o, s.heap.get? c = some o → h'.get? c = some o) → Q (.ref (s.heap.objs.size + 4)) { s with heap := h' }) :
    wpAny (model prog w) A (call (.type "zip") [.str a t, .str b u]) Q E s := by
  refine callType_new F.called_zip (by decide) (F.typeCall_zip_2 _ _) (F.newCall_zip_2 _ _) (fun obj => F.args_object_init_3 obj _ _) F.entry_zip_new
    (meets_zipS a t b u ha hb) ?_
  have z1 : (zsH1 s.heap a t).objs.size = s.heap.objs.size + 1 := Heap.size_push ..
  have z2 : (zsH2 s.heap a t b u).objs.size = s.heap.objs.size + 2 := by rw [Heap.size_push, z1]
  have z3 : (zsH3 s.heap a t b u).objs.size = s.heap.objs.size + 3 := by rw [Heap.size_push, z2]
  have z4 : (zsH4 s.heap a t b u).objs.size = s.heap.objs.size + 4 := by rw [Heap.size_push, z3]
  have z5 : (zsH5 s.heap a t b u).objs.size = s.heap.objs.size + 5 := by rw [Heap.size_push, z4]
  have g5 : (zsH5 s.heap a t b u).get? (zsH4 s.heap a t b u).objs.size = some _ := Heap.get?_push_size _ rfl
  have g4 : (zsH5 s.heap a t b u).get? (zsH3 s.heap a t b u).objs.size = some _ := Heap.get?_push_of_some _ (Heap.get?_push_size _ rfl)
  have g3 : (zsH5 s.heap a t b u).get? (zsH2 s.heap a t b u).objs.size = some _ := Heap.get?_push_of_some _ (Heap.get?_push_of_some _ (Heap.get?_push_size _ rfl))
  have g2 : (zsH5 s.heap a t b u).get? (zsH1 s.heap a t).objs.size = some _ := Heap.get?_push_of_some _ (Heap.get?_push_of_some _ (Heap.get?_push_of_some _ (Heap.get?_push_size _ rfl)))
  have g1 : (zsH5 s.heap a t b u).get? s.heap.objs.size = some _ := Heap.get?_push_of_some _ (Heap.get?_push_of_some _ (Heap.get?_push_of_some _ (Heap.get?_push_of_some _ (Heap.get?_push_size _ rfl))))
  show _ ∧ _
  rw [z2, z3, z4] at g5
  rw [z1, z2] at g3
  rw [z3] at g4
  rw [z1] at g2
  rw [z4]
  exact ⟨⟨_, g5, rfl⟩, h _ g5 g3 g4 ⟨_, g1, rfl, rfl⟩ ⟨_, g2, rfl, rfl⟩ z5 fun c o x =>
    Heap.get?_push_of_some _ (Heap.get?_push_of_some _ (Heap.get?_push_of_some _ (Heap.get?_push_of_some _ (Heap.get?_push_of_some _ x))))⟩
end
theorem zAp_newS {n : Addr} : ZAp (n + 4) (n + 2) (n + 3) n (n + 1) [n] [n + 1] := by
  refine ⟨?_, ?_, ?_, ?_, ?_, ?_, ?_, ?_, ?_, ?_, ?_, ?_, ?_, ?_, ?_, ?_⟩ <;> simp <;> lia
theorem Asc.all {z : Str} (h : Asc z) : (z.cps.all fun x => decide (x < 128)) = true := by
  rw [← Array.all_toList, List.all_eq_true]
  exact fun c hc => decide_eq_true (h c hc)
section
variable {X : Cx} {elts : List Expr} {pt : Pos}
def iZipS (ta : TA) : TI := fun σ H R => ta σ H fun vs H1 => ∃ a b : Str, vs = [.str a, .str b] ∧ Asc a ∧ Asc b ∧ R (Itx a b) H1
theorem pi_zipS {kk} {a b : Expr} {ta : TA} {p pos : Pos} (hg : Gl X "zip") (hm : X.mg "zip" = none) (ha : PA X [a, b] ta) (hs : starEach [a, b] X.env = [(false, eval a X.env), (false, eval b X.env)] := by rfl) (hs2 : starEach [b] X.env = [(false, eval b X.env)] := by rfl) :
    PI X (.Tuple elts kk pt) (.Call (.Name "zip" p) [a, b] [] pos) (iZipS ta) := by
  intro pins s σ H R I h
  refine Call_ (ld_blt I hg hm bt_zip (PyProof.Rows.callWith_type1 (thn (ha pos pins s σ H _ I h) fun us s1 ⟨vs, H1, I1, r1, q1⟩ => ?_) (by rw [hs, hs2]) (by rw [hs2]; rfl)))
  obtain ⟨x, y, e, hx, hy, q⟩ := q1
  subst e
  cases r1 with
  | cons r rr =>
    cases rr with
    | cons r' rr =>
      cases rr
      obtain ⟨t, rfl⟩ := r
      obtain ⟨u, rfl⟩ := r'
      refine call_zipS hx.all hy.all fun h' hz hTI hTO g1 g2 hsz hk => wpAny_pyIter_zip hz ?_
      refine ⟨_, _, _, _, H1, rfl, I1.kept (t' := s1.toks) hk, turn_zipS (s1.heap.objs.size + 4) (s1.heap.objs.size + 2) (s1.heap.objs.size + 3) s1.heap.objs.size (s1.heap.objs.size + 1) x y t u zAp_newS, ⟨hz, hTI, ⟨_, _, hTO⟩, g1, g2⟩, fun c hc => ?_, q⟩
      have le : s1.heap.objs.size ≤ c := by
        simp only [List.mem_cons, List.not_mem_nil, or_false] at hc
        rcases hc with rfl | rfl | rfl | rfl | rfl
        · exact Nat.le_add_right _ 4
        · exact Nat.le_add_right _ 2
        · exact Nat.le_add_right _ 3
        · exact Nat.le_refl _
        · exact Nat.le_add_right _ 1
      exact I1.fpOk le (I1.hok.fresh le)
end
theorem for_zipS {a b : Str} {g : TG} {tb : TS} {D : Ends} {σ : St} {H : Hp} (Pv : Nat → St → Hp → Prop) (h0 : Pv 0 σ H)
    (hs : ∀ i x y p σ H, a.cps[i]? = some x → b.cps[i]? = some y → H p = none → Pv i σ H → g (.ref p) σ (upd H p (.tup [.str ⟨#[x]⟩, .str ⟨#[y]⟩])) fun σ2 H2 => tb { D with nx := Pv (i + 1), ct := Pv (i + 1), bk := D.nx } σ2 H2) (he : ∀ σ H, Pv (min a.length b.length) σ H → D.nx σ H) :
    ∃ W : Nat → Nat → St → Hp → Prop, (∃ m, W 0 m σ H) ∧ ∀ i m σ H, W i m σ H → ((Itx a b).stop i H ∧ D.nx σ H) ∨ ((Itx a b).go i H ∧ ∃ N : St → Hp → Prop, (∀ σ' H', N σ' H' → ∃ m', m' < m ∧ W (i + 1) m' σ' H') ∧ ∀ x H', (Itx a b).yld i H x H' → g x σ H' fun σ2 H2 => tb { D with nx := N, ct := N, bk := D.nx } σ2 H2) := by
  refine for_by (min a.length b.length) Pv h0 (fun i σ H hi p => ?_) (fun σ H p => ⟨rfl, he σ H p⟩) fun i σ H hi p x H' y => ?_
  · have l1 : i < a.cps.size := Nat.lt_of_lt_of_le hi (Nat.min_le_left ..)
    have l2 : i < b.cps.size := Nat.lt_of_lt_of_le hi (Nat.min_le_right ..)
    exact ⟨a.cps[i], b.cps[i], Array.getElem?_eq_getElem l1, Array.getElem?_eq_getElem l2⟩
  · obtain ⟨c, x', y', rfl, hc, rfl, e1, e2⟩ := y
    exact hs i x' y' c σ H e1 e2 hc p
end L2
namespace L2
open PySem PySem.Spec PyProof.Rows
theorem Vals.split {xs : List V} {us : List Value} (h : Vals xs us) : ∀ k, Vals (xs.take k) (us.take k) ∧ Vals (xs.drop k) (us.drop k) := by
  induction h with
  | nil => intro k; rw [List.take_nil, List.drop_nil, List.take_nil, List.drop_nil]; exact ⟨.nil, .nil⟩
  | cons a b ih =>
    intro k
    cases k with
    | zero => exact ⟨.nil, .cons a b⟩
    | succ k => exact ⟨.cons a (ih k).1, (ih k).2⟩
section
variable {X : Cx}
def rInsert : V → List V → Hp → VK → Prop := fun x vs H Q => ∃ (l : Addr) (xs : List V) (y : V) (k : Int), x = .ref l ∧ vs = [.int k, y] ∧ H l = some (.lst xs) ∧ xs.length < sizeLine ∧ 0 ≤ k ∧ k ≤ xs.length ∧ Q .non (upd H l (.lst (xs.take k.toNat ++ y :: xs.drop k.toNat)))
theorem mt_insert : MtM X "list.insert" rInsert := by
  intro pins s σ H x vs v us Q I rx rv h
  obtain ⟨l, xs, y, k, rfl, rfl, hH, hz, hk0, hk, q⟩ := h
  cases rx
  obtain ⟨u, w, rfl, ⟨t, rfl⟩, rw'⟩ := vals2 rv
  obtain ⟨z, its, n, r, hl, e⟩ := I.lstM hH
  have hsz : its.toArray.size ≤ sizeLine := by rw [List.size_toArray, ← hl]; exact z
  have fit : Builtin.List.listFitsIndex k = true := by
    have h3 : xs.length < 9223372036854775808 := Nat.lt_of_lt_of_le hz (by decide)
    have h1 : decide (-(2 ^ 63 : Int) ≤ k) = true := decide_eq_true (by lia)
    have h2 : decide (k < (2 ^ 63 : Int)) = true := decide_eq_true (by lia)
    unfold Builtin.List.listFitsIndex
    rw [h1, h2]
    decide
  have sp := r.split k.toNat
  refine call_meets F.slot_list_insert ⟨_, e, rfl⟩ F.entry_list_insert (F.args_list_insert_3 _ _ _) (PySem.AutoSeq1.list_insert_list_int_val_1 l _ n k t w (by simp [fit]) hsz) ⟨e, ?_⟩
  refine ⟨.non, _, I.lset (its' := its.take k.toNat ++ w :: its.drop k.toNat) hH e ?_ (sp.1.append (.cons rw' sp.2)) ?_, rfl, q⟩
  · have h0 : ¬ k < 0 := by lia
    have hm : min k.toNat its.length = k.toNat := by lia
    simp only [if_neg h0, List.size_toArray, hm]
    apply Array.ext'
    simp only [Array.toList_append, Array.toList_push, Array.toList_extract, List.toList_toArray]
    simp [List.extract_eq_drop_take, List.take_of_length_le]
  · rw [List.length_append, List.length_cons, List.length_take, List.length_drop]
    lia
theorem pe_bm0K (K : PySem.W.Frag) {o : Expr} {to : TE} {name : Str} {apos cpos : Pos} {T id : String} {r : V → List V → Hp → VK → Prop} (pa : PlainAttrs T) (slot : Slot T name id) (hty : typeOf (.builtin id) = pure (.type "method_descriptor")) (hm : MtR X id r) (ho : PE X o to)
    (hbase : attributeBase o name X.env (eval o X.env) = eval o X.env := by rfl) (hline : (apos.endLine == cpos.line) = true := by rfl) (hK : X.K = K := by rfl) : PE X (.Call (.Attribute o name apos) [] [] cpos) (tBM0 K T r to) := by
  subst hK
  exact pe_bm0 pa slot hty hm ho hbase hline
end
end L2
namespace L2
open PySem PySem.Spec PyProof.Rows PySem.W
section
variable {prog : Program} {w : World} {A : Around} {E : Value → Shared → Prop} {s : Shared}
theorem katLex_reads {fin : Bool} {r : Bool} {Q : Bool → Shared → Prop} : ∀ (xs ys : List PyData) (vs ws : List Value) (as bs : List Addr) (i : Nat), ReadsAll s.heap vs xs as → ReadsAll s.heap ws ys bs → PyData.canLayAll0 xs = true → PyData.canLayAll0 ys = true →
    A.units + min (PyData.depthAll xs) (PyData.depthAll ys) < cLine → fin = decide (vs.length < ws.length) → lexD? xs ys = some r → Q r s → KatLex prog w A false fin Q (vs.zip ws) i s
  | [], [], _, _, _, _, i, ra, rb, _, _, _, hf, e, q => by
    cases ra
    cases rb
    cases e
    rw [List.zip_nil_left, hf]
    exact q
  | [], _ :: _, _, _, _, _, i, ra, rb, _, _, _, hf, e, q => by
    cases ra
    cases rb
    cases e
    rw [List.zip_nil_left, hf]
    refine kat_nil ?_
    rw [decide_eq_true (by simp)]
    exact q
  | _ :: _, [], _, _, _, _, i, ra, rb, _, _, _, hf, e, q => by
    cases ra
    cases rb
    cases e
    rw [List.zip_nil_right, hf]
    refine kat_nil ?_
    rw [decide_eq_false (by simp)]
    exact q
  | x :: xs, y :: ys, _, _, _, _, i, ra, rb, ha, hb, hu, hf, e, q => by
    have ha' : x.canLay0 = true ∧ PyData.canLayAll0 xs = true := by simpa [PyData.canLayAll0] using ha
    have hb' : y.canLay0 = true ∧ PyData.canLayAll0 ys = true := by simpa [PyData.canLayAll0] using hb
    cases ra with
    | cons r1 rs =>
      cases rb with
      | cons r1' rs' =>
        have eq := SeqAt.eqAt_reads x y A s _ _ _ _ r1 r1' ha'.1 hb'.1 (SeqAt.room_head hu)
        rw [List.zip_cons_cons]
        refine kat_cons (eq prog w _ _ ?_)
        rw [lexD?] at e
        cases z : PyData.eqv x y with
        | true =>
          rw [if_pos z] at e
          exact kat_yes (katLex_reads xs ys _ _ _ _ (i + 1) rs rs' ha'.2 hb'.2 (SeqAt.room_tail hu) (by rw [hf]; simp) e q)
        | false =>
          rw [if_neg (by rw [z]; exact Bool.false_ne_true)] at e
          refine kat_no ?_
          rw [Bool.false_and]
          exact kat_one _ _ (ltAt_reads x y A s _ _ _ _ r r1 r1' ha'.1 hb'.1 (SeqAt.room_head hu) e prog w _ _ q)
theorem klt_keys {x y : Value} {ds es : List PyData} {as bs : List Addr} {r : Bool} {kd : SortKind} (hx : Reads s.heap x (.tuple ds) as) (hy : Reads s.heap y (.tuple es) bs) (lx : (PyData.tuple ds).canLay0 = true) (ly : (PyData.tuple es).canLay0 = true) (hu : A.units + 64 < cLine) (hd : (PyData.tuple ds).depth ≤ 50)
    (e : ltD? (.tuple ds) (.tuple es) = some r) (hk : kd = tuples' false ∨ kd = general' ∨ kd = oneType') : Tim.KLt prog w A s kd x y r := by
  have hd' : PyData.depthAll ds + 1 ≤ 50 := hd
  have hm : min (PyData.depthAll ds) (PyData.depthAll es) ≤ PyData.depthAll ds := Nat.min_le_left _ _
  have e' : lexD? ds es = some r := by rw [ltD?] at e; exact e
  intro E Q k
  rcases hk with rfl | rfl | rfl
  · cases hx with
    | tuple h1 h2 h3 h4 =>
      cases hy with
      | tuple k1 k2 k3 k4 => exact kat_lt h1 h3 k1 k3 (katLex_reads ds es _ _ _ _ 0 h4 k4 lx ly (by lia) (by rw [Array.length_toList, Array.length_toList]) e' k)
  · refine kat_one x y (ltAt_reads (.tuple ds) (.tuple es) A s x y _ _ r hx hy lx ly ?_ e prog w E _ k)
    have : min (PyData.tuple ds).depth (PyData.tuple es).depth ≤ (PyData.tuple ds).depth := Nat.min_le_left _ _
    lia
  · cases hx with
    | @tuple b o its n _ _ h1 h2 h3 h4 =>
      cases hy with
      | @tuple b' o' its' n' _ _ k1 k2 k3 k4 =>
        obtain ⟨cls, dd, data, sl⟩ := o
        obtain ⟨cls', dd', data', sl'⟩ := o'
        simp only at h2 h3 k2 k3
        subst h2 h3 k2 k3
        rw [keyLt'_oneType, oneLt'_eq]
        simp only [if_true]
        refine wpAny_bind (wpAny_cRoomFor (by lia) ?_)
        refine wpAny_bind (wpAny_callSpecialIfBound?_slot ⟨_, h1, rfl⟩ PySem.F.slot_tuple_lt (call_meets PySem.F.slot_tuple_lt ⟨_, h1, rfl⟩ PySem.F.entry_tuple_lt (PySem.F.args_tuple_lt_2 _ _) (tuple_lt_any _ _ its its' n n' dd dd' sl sl' r) ⟨h1, k1, lexAt_reads ds es _ s _ _ _ _ r h4 k4 lx ly (by show A.units + 1 + _ < _; lia) e', ?_⟩))
        exact wpAny_truthy_bool k
def TTAt (h : Heap) (v : Value) : Prop := ∃ ds as, Reads h v (.tuple ds) as ∧ ∀ e ∈ ds, ∃ es, e = PyData.tuple es
theorem TTAt.ty {v : Value} (x : TTAt s.heap v) (M : Model) : Looks M s.heap (typeOf v) (.type "tuple") := by
  obtain ⟨ds, as, hr, _⟩ := x
  cases hr with
  | tuple h1 h2 h3 h4 =>
    rw [← h2]
    exact (Looks.ld h1).andThen .now
theorem firsts_tt : ∀ (vs : List Value), (∀ v ∈ vs, TTAt s.heap v) → ∃ fs : List (Option Value), (∀ (M : Model) (A : Around) (E : Value → Shared → Prop) (Q : List (Option Value) → Shared → Prop), Q fs s → wpAny M A (vs.mapM firstOfTuple') Q E s) ∧ fs.length = vs.length ∧
    ∀ f ∈ fs, ∀ v, f = some v → ∀ M, Looks M s.heap (typeOf v) (.type "tuple")
  | [], _ => ⟨[], fun M A E Q q => by rw [List.mapM_nil]; exact wpAny_pure q, rfl, fun _ z => nomatch z⟩
  | v :: vs, h => by
    obtain ⟨fs, g1, g2, g3⟩ := firsts_tt vs fun u hu => h u (List.mem_cons_of_mem _ hu)
    obtain ⟨ds, as, hr, hd⟩ := h v (List.mem_cons_self ..)
    cases hr with
    | @tuple b o its n _ _ h1 h2 h3 h4 =>
      refine ⟨its[0]? :: fs, fun M A E Q q => ?_, by rw [List.length_cons, g2, List.length_cons], fun f hf v e M => ?_⟩
      · rw [List.mapM_cons]
        refine wpAny_bind ?_
        rw [kas_first_eq]
        refine wpAny_bind (Looks.here (show Looks M s.heap (typeOf (.ref b)) o.cls from (Looks.ld h1).andThen .now) ?_)
        rw [h2, if_neg (by decide)]
        refine wpAny_bind (listItems_at h1 h3 (wpAny_pure ?_))
        exact wpAny_bind (g1 M A E (fun bs s' => wpAny M A (pure (its[0]? :: bs)) Q E s') (wpAny_pure q))
      · rcases List.mem_cons.mp hf with rfl | hf
        · rw [← Array.getElem?_toList] at e
          revert e h4
          generalize its.toList = l
          intro h4 e
          cases h4 with
          | nil => cases e
          | @cons _ d _ _ _ _ r1 rs =>
            have ev := Option.some.inj e
            subst ev
            obtain ⟨es, rfl⟩ := hd _ (List.mem_cons_self ..)
            cases r1 with
            | tuple k1 k2 k3 k4 =>
              rw [← k2]
              exact (Looks.ld k1).andThen .now
        · exact g3 f hf v e M
theorem kind_tt {vs : List Value} (h : ∀ v ∈ vs, TTAt s.heap v) (h2 : 2 ≤ vs.length) : ∃ kd : SortKind, (kd = tuples' false ∨ kd = general' ∨ kd = oneType') ∧ ∀ (M : Model) (A : Around) (E : Value → Shared → Prop) (Q : SortKind → Shared → Prop), Q kd s → wpAny M A (keyKind' vs.toArray) Q E s := by
  obtain ⟨fs, g1, g2, g3⟩ := firsts_tt vs h
  have one : ∀ (M : Model) (A : Around) (E : Value → Shared → Prop) (us : List Value) (Q : Option Value → Shared → Prop), us ≠ [] → (∀ v ∈ us, Looks M s.heap (typeOf v) (.type "tuple")) → Q (some (.type "tuple")) s → wpAny M A (oneTypeOnly' us.toArray) Q E s := fun M A E us Q hn hty q => by
    rw [oneTypeOnly'_eq, List.mapM_toArray, map_eq_pure_bind]
    refine wpAny_bind (wpAny_bind (kas_mapM (r := Value.type "tuple") _ (fun v hv Q' hq => (hty v hv).here hq) (wpAny_pure ?_)))
    obtain ⟨v, vr, ev⟩ : ∃ v vr, us = v :: vr := by
      cases us with
      | nil => exact absurd rfl hn
      | cons v vr => exact ⟨v, vr, rfl⟩
    rw [ev]
    have ha : ((List.map (fun _ => Value.type "tuple") (v :: vr)).toArray.all fun x => x == Value.type "tuple") = true := by
      simp only [List.all_toArray, List.all_map, List.all_eq_true]
      intro _ _
      rfl
    have hz : (List.map (fun _ => Value.type "tuple") (v :: vr)).toArray[0]? = some (Value.type "tuple") := by simp
    rw [hz]
    simp only [ha, if_true]
    exact wpAny_pure q
  by_cases hall : (fs.toArray.all fun x => x.isSome) = true
  · refine ⟨tuples' false, .inl rfl, fun M A E Q q => ?_⟩
    rw [kat_kind_eq, List.mapM_toArray, map_eq_pure_bind]
    refine wpAny_bind (wpAny_bind (g1 M A E _ (wpAny_pure ?_)))
    rw [if_pos hall]
    refine wpAny_bind (wpAny_rule ?_)
    obtain ⟨f1, fr, e⟩ : ∃ f1 fr, fs = f1 :: fr := by
      cases e : fs with
      | nil => rw [e] at g2; simp at g2; lia
      | cons f1 fr => exact ⟨f1, fr, rfl⟩
    have hfm : fs.toArray.filterMap id = (fs.filterMap id).toArray := by simp
    rw [hfm]
    refine wpAny_bind (one M A E _ _ ?_ (fun v hv => ?_) ?_)
    · rw [e] at hall ⊢
      cases f1 with
      | none => simp at hall
      | some v => simp
    · obtain ⟨f, hf, e⟩ := List.mem_filterMap.mp hv
      exact g3 f hf v e M
    · exact wpAny_pure q
  · by_cases hf : (fs.toArray[0]?.bind id).isSome = true
    · refine ⟨general', .inr (.inl rfl), fun M A E Q q => ?_⟩
      rw [kat_kind_eq, List.mapM_toArray, map_eq_pure_bind]
      refine wpAny_bind (wpAny_bind (g1 M A E _ (wpAny_pure ?_)))
      rw [if_neg hall, if_pos hf]
      exact wpAny_pure q
    · refine ⟨oneType', .inr (.inr rfl), fun M A E Q q => ?_⟩
      rw [kat_kind_eq, List.mapM_toArray, map_eq_pure_bind]
      refine wpAny_bind (wpAny_bind (g1 M A E _ (wpAny_pure ?_)))
      rw [if_neg hall, if_neg hf]
      refine wpAny_bind (one M A E vs _ (fun z => by rw [z] at h2; simp at h2) (fun v hv => (h v hv).ty M) ?_)
      exact wpAny_pure q
end
theorem sorted_keyed {rk : Value → Int} {ks vs : List Value} {xs : Array Keyed} (hl : ks.length = vs.length) (hp : xs.Perm (ks.toArray.zip vs.toArray)) (hu : Tim.Up (fun p => rk p.2) xs 0 vs.length) : Tim.Sorted rk vs (xs.map (·.2)).toList := by
  have hl2 : xs.toList.Perm (ks.zip vs) := by
    have := Array.perm_iff_toList_perm.mp hp
    rw [ksk_zip] at this
    simpa using this
  have hsz : xs.size = vs.length := by
    rw [hp.size_eq, Array.size_zip, List.size_toArray, List.size_toArray]
    lia
  refine ⟨?_, ?_⟩
  · rw [Array.toList_map]
    have := hl2.map Prod.snd
    rwa [List.map_snd_zip (by lia)] at this
  · rw [Array.toList_map, List.pairwise_iff_getElem]
    intro i j hi hj hij
    rw [List.getElem_map, List.getElem_map]
    have hi' : i < xs.toList.length := by simpa using hi
    have hj' : j < xs.toList.length := by simpa using hj
    have := hu i j (Nat.zero_le _) (Nat.le_of_lt hij) (by rw [Array.length_toList] at hj'; lia)
    rw [Tim.kx_list xs i (List.getElem?_eq_getElem hi'), Tim.kx_list xs j (List.getElem?_eq_getElem hj')] at this
    exact this
section
variable {X : Cx}
theorem Inv.track {pins : List (Addr × Obj)} {σ : St} {H : Hp} {s : Shared} {a : Addr} {o : HO} (I : Inv X pins σ H s) (fa : FpOk X pins H a) (new : ObjOk X.prog X.w (upd H a o) s.heap a o) : Inv X pins σ (upd H a o) s := by
  have hn : H a = none := fa.1
  have old : ∀ {b u}, H b = some u → upd H a o b = some u := fun {b u} q => by rw [upd_ne (ne_of_none q hn)]; exact q
  have := I.step (h' := s.heap) (H' := upd H a o) (t' := s.toks) (g' := s.gens) (d' := s.drawn) (ch := [a]) (FpOk.ch (fun b hb => by rw [List.mem_singleton.mp hb]; exact fa)) (fun b o _ _ hc e _ => e) (fun b o _ _ hc e _ => ⟨o.slots, e⟩)
    (fun b u hc e n => by rw [upd_ne (fun z => hc (by rw [z]; exact List.mem_singleton.mpr rfl))]; exact n)
    (fun b o hc e => ⟨o, e⟩) (fun b xs e => old e) (fun b o u e => old e) (fun b ps e => ⟨#[], by rw [old e]; simp⟩) (fun m hm => hm) (fun b u e => ?_) I.bare
  · exact this
  · by_cases hb : b = a
    · subst hb
      rw [upd_same] at e
      cases e
      exact new
    · rw [upd_ne hb] at e
      exact (I.hok b u e).stay (fun c v hc q => q) (fun _ q => old q) fun _ _ q => old q
section
variable {pins : List (Addr × Obj)} {σ : St} {H : Hp} {s : Shared} {a kS : Addr} {vs ks : List Value} {rk : Value → Int} {e e1 : Nat} {P : PySem.Fin → Shared → Prop} {E : Value → Shared → Prop} {A : Around}
theorem key_tail {st : SortSt} (I : Inv X (pins ++ [(a, seqObj "list" #[] e1), (kS, seqObj "list" ks.toArray e)]) σ H s) (fa : FpOk X pins H a) (fk : FpOk X pins H kS) (hka : kS ≠ a) (hl : ks.length = vs.length) (hz : vs.length ≤ sizeLine)
    (so : Tim.Sorted rk vs ((arrOf st).map (·.2)).toList) (hfl : failedOf st = none)
    (h : ∀ s' out c, Tim.Sorted rk vs out.toList → Inv X pins σ H s' → s'.heap.get? a = some (seqObj "list" out c) → P (.done (.ret .none)) s') : wpAny (model X.prog X.w) A (ksk_tail a false e1 (.ref kS) st) P E s := by
  have na := (I.pin (a, seqObj "list" #[] e1) (List.mem_append_right _ (List.mem_append_right _ (.head _)))).1
  have nk := (I.pin (kS, seqObj "list" ks.toArray e) (List.mem_append_right _ (List.mem_append_right _ (.tail _ (.head _))))).1
  have hsz : ((arrOf st).map (·.2)).size = vs.length := by rw [← Array.length_toList, so.perm.length_eq]
  have s1 := Heap.SameBut.update s.heap kS (Obj.mapSeq fun _ => (#[] : Array Value))
  have na1 : (s.heap.update kS (Obj.mapSeq fun _ => (#[] : Array Value))).get? a = some (seqObj "list" #[] e1) := (s1.2 a hka.symm).trans na
  have s2 := Heap.SameBut.update (s.heap.update kS (Obj.mapSeq fun _ => (#[] : Array Value))) a (Obj.mapSeq fun _ => (arrOf st).map (·.2))
  obtain ⟨c2, hc2⟩ : ∃ c2, ((s.heap.update kS (Obj.mapSeq fun _ => (#[] : Array Value))).update a (Obj.mapSeq fun _ => (arrOf st).map (·.2))).get? a = some (seqObj "list" ((arrOf st).map (·.2)) c2) := ⟨_, get?_update_seq na1 fun _ => (arrOf st).map (·.2)⟩
  unfold ksk_tail
  try dsimp only
  refine wpAny_bind (listUpdate_at nk rfl ?_ (by rw [List.size_toArray, hl]; exact hz) (Nat.zero_le _))
  refine wpAny_bind (wpAny_letGo ?_)
  refine wpAny_bind (seqEpoch_at na1 rfl ?_)
  refine wpAny_bind (listUpdate_at na1 rfl ?_ (Nat.zero_le _) (by simp only [Bool.false_eq_true, if_false]; rw [hsz]; exact Nat.le_succ_of_le hz))
  rw [hfl]
  simp only [bne_self_eq_false, Bool.false_eq_true, if_false]
  refine wpAny_pure (h _ _ c2 so (inv_turnedL (fp := [a, kS]) I.unpinned (fun b hb => ?_) fun b o hb g => ?_) hc2)
  · simp only [List.mem_cons, List.not_mem_nil, or_false] at hb
    rcases hb with rfl | rfl
    · exact fa
    · exact fk
  · simp only [List.mem_cons, List.not_mem_nil, or_false, not_or] at hb
    exact (s2.2 b hb.1).trans ((s1.2 b hb.2).trans g)
theorem sort_key {f : Addr} {n : Nat} (I : Inv X pins σ H s) (ha : s.heap.get? a = some (seqObj "list" vs.toArray n)) (fa : FpOk X pins H a) (hz : vs.length ≤ sizeLine)
    (J : Nat → List Value → Hp → Prop) (j0 : J 0 [] H)
    (turn : ∀ i v ks pins' H' s', vs[i]? = some v → ks.length = i → J i ks H' → Inv X pins' σ H' s' → wpAny (model X.prog X.w) A (call (.ref f) [v]) (fun u s'' => ∃ H'', Inv X pins' σ H'' s'' ∧ J (i + 1) (ks ++ [u]) H'') (fun _ _ => False) s')
    (keys : ∀ ks pins' H' s', ks.length = vs.length → J vs.length ks H' → Inv X pins' σ H' s' → 2 ≤ vs.length →
      ∃ kd : SortKind, (∀ (E : Value → Shared → Prop) (Q : SortKind → Shared → Prop), Q kd s' → wpAny (model X.prog X.w) A (keyKind' ks.toArray) Q E s') ∧ ∀ x ∈ ks.zip vs, ∀ y ∈ ks.zip vs, Tim.KLt X.prog X.w A s' kd x.1 y.1 (decide (rk x.2 < rk y.2)))
    (h : ∀ ks H' s' out c, J vs.length ks H' → Tim.Sorted rk vs out.toList → Inv X pins σ H' s' → FpOk X pins H' a → s'.heap.get? a = some (seqObj "list" out c) → P (.done (.ret .none)) s') :
    wpAny (model X.prog X.w) A (ksk_tree a (.ref f) false) P E s := by
  have hlt : a < s.heap.objs.size := Heap.lt_size ha
  have s1 := Heap.SameBut.update s.heap a (Obj.mapSeq fun _ => (#[] : Array Value))
  obtain ⟨e1, ho1⟩ : ∃ e1, (s.heap.update a (Obj.mapSeq fun _ => (#[] : Array Value))).get? a = some (seqObj "list" #[] e1) := ⟨_, get?_update_seq ha fun _ => #[]⟩
  have hkS : ((s.heap.update a (Obj.mapSeq fun _ => (#[] : Array Value))).push (seqObj "tuple" vs.toArray 0)).objs.size = s.heap.objs.size + 1 := by rw [size_push', Heap.size_update]
  unfold ksk_tree
  refine wpAny_bind (listItems_at ha rfl ?_)
  refine wpAny_bind (listUpdate_at ha rfl ?_ (by rw [List.size_toArray]; exact hz) (Nat.zero_le _))
  refine wpAny_bind (seqEpoch_at ho1 rfl ?_)
  refine wpAny_bind (wpAny_newTuple ?_ (by rw [List.toList_toArray]; exact hz))
  refine wpAny_bind (wpAny_newList ?_ (Nat.zero_le _))
  refine wpAny_holding ?_
  have keep : ∀ b o, (s.heap.update a (Obj.mapSeq fun _ => (#[] : Array Value))).get? b = some o → (((s.heap.update a (Obj.mapSeq fun _ => (#[] : Array Value))).push (seqObj "tuple" vs.toArray 0)).push (seqObj "list" #[] 0)).get? b = some o := fun b o z => Heap.get?_push_of_some _ (Heap.get?_push_of_some _ z)
  have I6 : Inv X pins σ H { s with heap := ((s.heap.update a (Obj.mapSeq fun _ => (#[] : Array Value))).push (seqObj "tuple" vs.toArray 0)).push (seqObj "list" #[] 0) } :=
    inv_turnedL (t' := s.toks) (fp := [a]) I (fun b hb => by rw [List.mem_singleton.mp hb]; exact fa) fun b o hb z => keep b o ((s1.2 b fun w => hb (by rw [w]; exact List.mem_singleton.mpr rfl)).trans z)
  have nkS : (((s.heap.update a (Obj.mapSeq fun _ => (#[] : Array Value))).push (seqObj "tuple" vs.toArray 0)).push (seqObj "list" #[] 0)).get? ((s.heap.update a (Obj.mapSeq fun _ => (#[] : Array Value))).push (seqObj "tuple" vs.toArray 0)).objs.size = some (seqObj "list" #[] 0) := Heap.get?_push_size _ rfl
  have naS := keep a _ ho1
  generalize hk0 : ((s.heap.update a (Obj.mapSeq fun _ => (#[] : Array Value))).push (seqObj "tuple" vs.toArray 0)).objs.size = kS at nkS hkS
  have fk : FpOk X pins H kS := I.fpOk (by lia) (I.hok.fresh (by lia))
  have hka : kS ≠ a := by rw [hkS]; exact Nat.ne_of_gt (Nat.lt_succ_of_lt hlt)
  have nc : ∀ (xs : Array Value) (m : Nat) (v : Option Value), (seqObj "list" xs m).data ≠ .cell v := fun _ _ _ z => nomatch z
  have I7 : Inv X (pins ++ [(a, seqObj "list" #[] e1), (kS, seqObj "list" ([] : List Value).toArray 0)]) σ H { s with heap := ((s.heap.update a (Obj.mapSeq fun _ => (#[] : Array Value))).push (seqObj "tuple" vs.toArray 0)).push (seqObj "list" #[] 0) } := I6.pins_of fun p hp => by
    rcases List.mem_append.mp hp with hp | hp
    · exact I6.pin p (List.mem_append_right _ hp)
    · simp only [List.mem_cons, List.not_mem_nil, or_false] at hp
      rcases hp with rfl | rfl
      · exact ⟨naS, fa.1, fa.2.1, fa.2.2.1, nc _ _⟩
      · exact ⟨nkS, fk.1, fk.2.1, fk.2.2.1, nc _ _⟩
  unfold ksk_rest
  refine wpAny_bind (wpAny_rule ?_)
  first
    | rw [List.forIn_toArray]
    | (rw [← Array.forIn_toList]; simp only [List.toList_toArray])
    | rw [← Array.forIn_toList]
  refine wpAny_bind (ksk_fold (fun i s' => ∃ H' ks e, Inv X (pins ++ [(a, seqObj "list" #[] e1), (kS, seqObj "list" (ks : List Value).toArray e)]) σ H' s' ∧ J i ks H' ∧ ks.length = i) vs 0 _ ⟨H, [], 0, I7, j0, rfl⟩ ?step ?done)
  case step =>
    rintro j x s' hx ⟨H', ks, e, I', hj, lk⟩
    simp only [Nat.zero_add] at hj lk ⊢
    have hjl : j < vs.length := (List.getElem?_eq_some_iff.mp hx).1
    refine wpAny_bind (wpAny_attempt (wpAny_mono (turn j x ks _ H' s' hx lk hj I') (fun u s'' he => ?_) fun _ _ hF => hF.elim))
    obtain ⟨H2, I2, j2⟩ := he
    try dsimp only
    have pa := I2.pin (a, seqObj "list" #[] e1) (List.mem_append_right _ (List.mem_append_right _ (.head _)))
    have pk := I2.pin (kS, seqObj "list" ks.toArray e) (List.mem_append_right _ (List.mem_append_right _ (.tail _ (.head _))))
    have u1 := Heap.SameBut.update s''.heap kS (Obj.mapSeq (·.push u))
    obtain ⟨c2, hc2⟩ : ∃ c2, (s''.heap.update kS (Obj.mapSeq (·.push u))).get? kS = some (seqObj "list" (ks.toArray.push u) c2) := ⟨_, get?_update_seq pk.1 (·.push u)⟩
    refine wpAny_bind (listUpdate_at pk.1 rfl ?_ (by rw [List.size_toArray]; lia) (by rw [Array.size_push, List.size_toArray]; lia))
    have I4 : Inv X pins σ H2 { s'' with heap := s''.heap.update kS (Obj.mapSeq (·.push u)) } := inv_turnedL (t' := s''.toks) (fp := [kS]) I2.unpinned (fun b hb => by rw [List.mem_singleton.mp hb]; exact ⟨pk.2.1, fk.2⟩) fun b o hb z => (u1.2 b fun w => hb (by rw [w]; exact List.mem_singleton.mpr rfl)).trans z
    refine wpAny_pure ⟨rfl, H2, ks ++ [u], c2, I4.pins_of fun p hp => ?_, j2, by rw [List.length_append, lk]; rfl⟩
    rcases List.mem_append.mp hp with hp | hp
    · exact I4.pin p (List.mem_append_right _ hp)
    · simp only [List.mem_cons, List.not_mem_nil, or_false] at hp
      rcases hp with rfl | rfl
      · exact ⟨(u1.2 a hka.symm).trans pa.1, pa.2⟩
      · exact ⟨by rw [hc2]; simp, pk.2.1, pk.2.2.1, pk.2.2.2.1, nc _ _⟩
  case done =>
    rintro s' ⟨H', ks, e, I', hj, lk⟩
    simp only [Nat.zero_add] at hj lk
    have pa := I'.pin (a, seqObj "list" #[] e1) (List.mem_append_right _ (List.mem_append_right _ (.head _)))
    have pk := I'.pin (kS, seqObj "list" ks.toArray e) (List.mem_append_right _ (List.mem_append_right _ (.tail _ (.head _))))
    have fa' : FpOk X pins H' a := ⟨pa.2.1, fa.2⟩
    have fk' : FpOk X pins H' kS := ⟨pk.2.1, fk.2⟩
    try dsimp only
    refine wpAny_bind (listItems_at pk.1 rfl ?_)
    unfold ksk_end
    try dsimp only
    simp only [Bool.false_eq_true, if_false]
    by_cases h2 : vs.toArray.size < 2
    · rw [if_pos h2, if_pos h2]
      refine wpAny_bind (wpAny_pure ?_)
      rw [StateT.run_pure]
      refine wpAny_bind (wpAny_pure ?_)
      try dsimp only
      refine key_tail (st := SortSt.mk' general' (ks.toArray.zip vs.toArray) #[] 7 none) I' fa' fk' hka lk hz ?_ rfl fun s2 out c so I2 g2 => h ks H' s2 out c hj so I2 fa' g2
      have es : (((ks.toArray.zip vs.toArray)).map (·.2)).toList = vs := by
        rw [Array.toList_map, ksk_zip, List.toList_toArray, List.map_snd_zip (by lia)]
      show Tim.Sorted rk vs ((ks.toArray.zip vs.toArray).map (·.2)).toList
      rw [es]
      refine ⟨List.Perm.refl _, ?_⟩
      rw [List.size_toArray] at h2
      match vs, h2 with
      | [], _ => exact .nil
      | [_], _ => exact List.pairwise_singleton ..
    · rw [if_neg h2, if_neg h2]
      rw [List.size_toArray] at h2
      obtain ⟨kd, kk, kl⟩ := keys ks _ H' s' lk hj I' (by lia)
      refine wpAny_bind (kk _ _ ?_)
      have zsz : (ks.toArray.zip vs.toArray).size = vs.length := by
        rw [Array.size_zip, List.size_toArray, List.size_toArray]
        lia
      have hS : ∀ p ∈ (ks.toArray.zip vs.toArray).toList, p ∈ ks.zip vs := fun p hp => by
        rw [ksk_zip, List.toList_toArray] at hp
        exact hp
      refine wpAny_bind (wpAny_mono (Tim.w_sortRuns (S := fun p => p ∈ ks.zip vs) (rk := fun p => rk p.2) (n := vs.length) (st := SortSt.mk' kd (ks.toArray.zip vs.toArray) #[] 7 none)
        (Q := fun _ st' => (arrOf st').Perm (ks.toArray.zip vs.toArray) ∧ failedOf st' = none ∧ Tim.Up (fun p => rk p.2) (arrOf st') 0 vs.length)
        (Tim.ltOk_of fun x y hx hy => kl x hx y hy) ⟨zsz, hS, rfl, rfl⟩ (by lia) rfl fun st' a1 a2 a3 => ⟨a1, a2, a3⟩) ?_ fun _ _ e => e)
      rintro ⟨⟨⟩, st'⟩ s2 ⟨rfl, hp, hf, hu⟩
      try dsimp only
      exact key_tail I' fa' fk' hka lk hz (sorted_keyed lk hp hu) hf fun s3 out c so I3 g3 => h ks H' s3 out c hj so I3 fa' g3
end
end
theorem paired_zip {α β γ : Type} {F : α → γ → Prop} {G : β → γ → Prop} : ∀ {ks : List α} {vs : List β} {l : List γ}, Paired F ks l → Paired G vs l → ∀ x ∈ ks.zip vs, ∃ a ∈ l, F x.1 a ∧ G x.2 a
  | _, _, _, .nil, .nil, _, h => nomatch h
  | _, _, _, .cons a r, .cons b q, x, h => by
    rw [List.zip_cons_cons] at h
    rcases List.mem_cons.mp h with rfl | h
    · exact ⟨_, List.mem_cons_self .., a, b⟩
    · obtain ⟨z, hz, r1⟩ := paired_zip r q x h
      exact ⟨z, List.mem_cons_of_mem _ hz, r1⟩
theorem paired_app {α β : Type} {F : α → β → Prop} {x : α} {y : β} : ∀ {xs : List α} {ys : List β}, Paired F xs ys → F x y → Paired F (xs ++ [x]) (ys ++ [y])
  | _, _, .nil, h => .cons h .nil
  | _, _, .cons a b, h => .cons a (paired_app b h)
theorem paired_in {α β : Type} {F : α → β → Prop} : ∀ {l : List α} {k : List β} {x : α}, Paired F l k → x ∈ l → ∃ y ∈ k, F x y
  | _, _, x, .cons a b, h => by
    rcases List.mem_cons.mp h with rfl | h
    · exact ⟨_, List.mem_cons_self .., a⟩
    · obtain ⟨y, hy, r⟩ := paired_in b h
      exact ⟨y, List.mem_cons_of_mem _ hy, r⟩
section
variable {X : Cx} {k k' : Nat} {x p1 : Str} {sp : Sp} {e : Expr} {t : TA} {p pos kpos xp : Pos}
end
end L2
namespace L2
open PySem PySem.Spec PyProof.Rows
section
variable {X : Cx}
end
end L2
namespace L2
open PySem PySem.Spec PyProof.Rows
section
variable {prog : Program} {w : World} {A : Around} {E : Value → Shared → Prop} {s : Shared}
end
section
variable {X : Cx} {elts : List Expr} {pt : Pos}
end
section
variable {prog : Program} {w : World} {A : Around} {E : Value → Shared → Prop} {s : Shared}
end
section
variable {X : Cx} {elts : List Expr} {pt : Pos}
end
section
variable {X : Cx} {k k' : Nat} {C : Addr} {ps : List Str} {sp : Sp} {x : Str} {p pos : Pos} {e : Expr} {es : List Expr} {t : TA}
end
end L2
namespace PySem
section
variable {prog : Program} {w : World} {K : Type} [DecidableEq K] {knd : HeapKind prog w K} {A : Around} {E : Value → Shared → Prop} {s : Shared} {d a : Addr} {k : K} {xs : List (K × Addr × Value)}
end
end PySem
namespace L2
open PySem PySem.Spec PyProof.Rows
section
variable {X : Cx} {pins : List (Addr × Obj)} {σ : St} {H : Hp} {s : Shared} {a b : Addr} {kvs : List (List Key × V)} {k : List Key} {z : V} {r : Value} {A : Around} {E : Value → Shared → Prop}
end
section
variable {X : Cx} {o e f : Expr} {apos cpos : Pos} {td ty tx : TE}
end
end L2
namespace L2
open PySem PySem.Spec PyProof.Rows PySem.W
section
variable {X : Cx} {tg : Expr}
end
end L2
open PySem PySem.W PyProof.Rows
namespace L2
theorem us0 {p : List Value → Prop} (h : p []) : ∀ us : List Value, us.length = 0 → p us := fun _ e => (List.length_eq_zero_iff.mp e).symm ▸ h
theorem us1 {p : List Value → Prop} (h : ∀ a : Value, p [a]) : ∀ us : List Value, us.length = 1 → p us
  | [], e => absurd e (by decide)
  | a :: t, e => us0 (p := fun us => p (a :: us)) (h a) t (Nat.succ.inj e)
theorem us2 {p : List Value → Prop} (h : ∀ a b : Value, p [a, b]) : ∀ us : List Value, us.length = 2 → p us
  | [], e => absurd e (by decide)
  | a :: t, e => us1 (p := fun us => p (a :: us)) (h a) t (Nat.succ.inj e)
theorem us3 {p : List Value → Prop} (h : ∀ a b c : Value, p [a, b, c]) : ∀ us : List Value, us.length = 3 → p us
  | [], e => absurd e (by decide)
  | a :: t, e => us2 (p := fun us => p (a :: us)) (h a) t (Nat.succ.inj e)
theorem us4 {p : List Value → Prop} (h : ∀ a b c d : Value, p [a, b, c, d]) : ∀ us : List Value, us.length = 4 → p us
  | [], e => absurd e (by decide)
  | a :: t, e => us3 (p := fun us => p (a :: us)) (h a) t (Nat.succ.inj e)
structure FiK (K : PySem.W.Frag) (x : Str) (st : Stmt) : Prop where
  ex : ∃ (f : Addr) (oc : Value) (od an : Option Addr) (osl : Array (Option Value)) (kV doc pm cdv ct : Value), PySem.W.nsIn K mainGlobals x = some (some (.ref f)) ∧
    K.lookup f = some ⟨oc, od, .func (PySem.W.fnOf x x (defArgs st) (defBody st) (defScope st) .none kV doc pm an cdv ct), osl⟩ ∧ PySem.W.codeIn K cdv x = true ∧ PySem.W.keepIn K (.ref f) = true
theorem fiK {K : PySem.W.Frag} {x : Str} {st : Stmt} {f : Addr} {oc : Value} {od an : Option Addr} {osl : Array (Option Value)} {kV doc pm cdv ct : Value} (a : PySem.W.nsIn K mainGlobals x = some (some (.ref f)))
    (l : K.lookup f = some ⟨oc, od, .func (PySem.W.fnOf x x (defArgs st) (defBody st) (defScope st) .none kV doc pm an cdv ct), osl⟩) (c : PySem.W.codeIn K cdv x = true) (k : PySem.W.keepIn K (.ref f) = true) : FiK K x st :=
  ⟨f, oc, od, an, osl, kV, doc, pm, cdv, ct, a, l, c, k⟩
theorem FiK.top {K : PySem.W.Frag} {h : Heap} {mg : Str → Option Value} {x : Str} {st : Stmt} {ps : List Str} (F : FiK K x st) (X : K.In h) (G : h.Ns mainGlobals mg)
    (b : ∀ (kV doc pm : Value) (an : Option Addr) (cdv ct : Value) (us : List Value), us.length = ps.length → bindArgs (PySem.W.fnOf x x (defArgs st) (defBody st) (defScope st) .none kV doc pm an cdv ct) ⟨us, []⟩ = pure (ps.zip us)) : Top K mg x st ps := by
  obtain ⟨f, oc, od, an, osl, kV, doc, pm, cdv, ct, a, l, c, k⟩ := F.ex
  exact top_mk X G b a l c k
section
variable {K : PySem.W.Frag} {h : Heap} {mg : Str → Option Value} {x a : Str} {v : Option (Option Value)}
end
end L2
namespace L2
open PySem PySem.Spec PyProof.Rows PySem.Builtin.Str
section
variable {X : Cx}
variable {v1 v2 v3 e : Expr} {t1 t2 t3 te : TE} {pos : Pos}
end
end L2
namespace L2
open PySem PySem.Spec PyProof.Rows PySem.Builtin.Str PySem.StrLaws PySem.NumText
end L2
namespace L2
open PySem PySem.Spec PyProof.Rows PySem.W Builtin
section
variable {X : Cx}
end
section
variable {prog : Program} {w : World} {A : Around} {E : Value → Shared → Prop}
end
section
variable {X : Cx}
end
end L2
namespace L2
open PySem PySem.Spec PyProof.Rows
section
variable {prog : Program} {w : World} {A : Around} {R : Result → Shared → Prop} {I : Addr} {fp wr : List Addr} {n : Nat} {P : Nat → Value → Prop} {St : Nat → Heap → Prop}
end
section
variable {X : Cx} {e d : Expr} {t tk : TA} {p pos kpos : Pos}
end
section
variable {X : Cx}
end
end L2
namespace L2
open PySem PySem.Spec PyProof.Rows PySem.W
namespace Tab
end Tab
end L2
namespace L2
open PySem PySem.Spec PyProof.Rows PySem.W
namespace Tab
end Tab
end L2
namespace L2
open PySem PySem.Spec PyProof.Rows PySem.W
section
variable {P : Program} {w : World} {A : Around} {E : Value → Shared → Prop} {s : Shared}
end
end L2
namespace L2
open PySem PySem.Spec PyProof.Rows PySem.W
section
variable {prog : Program} {w : World} {A : Around} {R : Result → Shared → Prop} {I : Addr} {fp wr : List Addr} {G : Array GenState → Array GenState → Prop} {n : Nat} {P : Nat → Value → Prop} {St : Nat → Shared → Prop}
end
section
variable {prog : Program} {w : World} {A : Around} {E : Value → Shared → Prop} {s : Shared}
end
end L2
namespace L2
open PySem PySem.Spec PyProof.Rows PySem.W
section
variable {prog : Program} {w : World} {A : Around} {E : Value → Shared → Prop} {s : Shared} {a : Addr} {xs : List (Addr × List Str)}
end
end L2
namespace L2
open PySem PySem.Spec PyProof.Rows PySem.W
section
variable {X : Cx} {pins : List (Addr × Obj)} {σ : St} {H : Hp} {s : Shared}
end
end L2
namespace L2
open PySem PySem.Spec PyProof.Rows PySem.W
section
variable {X : Cx} {pins : List (Addr × Obj)} {σ : St} {H : Hp} {s : Shared}
end
end L2
namespace L2
open PySem PySem.Spec PyProof.Rows PySem.Builtin.Str PySem.StrLaws PySem.NumText
end L2
namespace Tim
open PySem PyProof.Rows
section
variable {M : Model} {A : Around} {E : Value → Shared → Prop} {s : Shared} {kd : SortKind} {S : Keyed → Prop} {rk : Keyed → Int} {n : Nat}
end
end Tim
namespace Tim
open PySem PyProof.Rows
section
variable {prog : Program} {w : World} {A : Around} {E : Value → Shared → Prop} {s : Shared}
end
end Tim
namespace L2
open PySem PySem.Spec PyProof.Rows PySem.W
section
variable {prog : Program} {w : World} {A : Around} {E : Value → Shared → Prop} {s : Shared} {a : Addr}
end
section
variable {X : Cx} {pins : List (Addr × Obj)} {σ : St} {H : Hp} {s : Shared}
end
end L2
namespace L2
open PySem PySem.Spec PyProof.Rows PySem.W
section
variable {prog : Program} {w : World} {A : Around} {E : Value → Shared → Prop} {s : Shared} {I : Addr} {fp : List Addr} {n : Nat} {P : Nat → Value → Prop} {St : Nat → Heap → Prop} {T : String}
end
section
variable {X : Cx} {e : Expr} {te : TE} {p1 p2 q1 q2 : Pos}
end
end L2
namespace L2
open PySem PySem.Spec PyProof.Rows PySem.W
section
variable {prog : Program} {w : World} {A : Around} {E : Value → Shared → Prop} {s : Shared}
end
section
variable {prog : Program} {w : World} {A : Around} {E : Value → Shared → Prop} {s : Shared} {I : Addr} {fp : List Addr} {n : Nat} {P : Nat → Value → Prop} {St : Nat → Heap → Prop} {T : String}
end
section
variable {X : Cx} {e : Expr} {te : TE} {p1 p2 q1 q2 : Pos}
end
end L2
namespace L2
open PySem PySem.Spec PyProof.Rows
end L2
namespace L2
open PySem PySem.Spec PyProof.Rows
section
variable {X : Cx} {pins : List (Addr × Obj)} {σ : St} {H : Hp} {s : Shared} {a b : Addr} {kvs more : List (Key × V)} {A : Around} {E : Value → Shared → Prop}
end
section
variable {X : Cx} {o e : Expr} {apos cpos : Pos} {td ty : TE}
end
end L2
namespace L2
open PySem PySem.Spec PyProof.Rows
section
variable {X : Cx}
end
end L2
namespace L2
open PySem PySem.Spec PyProof.Rows
section
variable {P : Program} {w : World}
end
end L2
namespace L2
open PySem PySem.Spec PyProof.Rows
section
variable {P : Program} {w : World} {H : Hp} {h : Heap} {a : Addr}
end
section
variable {X : Cx} {pins : List (Addr × Obj)} {σ : St} {H : Hp} {s : Shared} {a b : Addr} {v d : V} {r : Value} {A : Around} {E : Value → Shared → Prop} {kvs : List (NK × V)} {k : NK}
end
end L2
namespace L2
open PySem PySem.Spec PyProof.Rows
section
variable {X : Cx} {P : Program} {w : World} {o i e f value : Expr} {pos pos' tpos apos cpos : Pos} {td ty tv tx : TE}
end
end L2
namespace L2
open PySem PySem.Spec PyProof.Rows PySem.W
section
variable {prog : Program} {w : World} {A : Around} {E : Value → Shared → Prop} {s : Shared}
end
abbrev PR := Str × List Key
section
variable {X : Cx} {P : Program} {w : World} {k k' : Nat} {x p1 : Str} {sp : Sp} {e : Expr} {t : TA} {p pos kpos xp : Pos}
end
end L2
namespace L2
open PySem PySem.Spec PyProof.Rows
section
variable {X : Cx}
end
end L2
namespace L2
open PySem PySem.Spec PyProof.Rows
section
variable {X : Cx}
end
end L2
namespace L2
open PySem PySem.Spec PyProof.Rows
section
variable {X : Cx}
end
end L2
namespace L2
open PySem PySem.Spec PyProof.Rows
section
variable {X : Cx}
end
end L2
namespace L2
open PySem PySem.Spec PyProof.Rows
section
variable {κ : Type} [DecidableEq κ]
end
section
variable {prog : Program} {w : World} {K : Type} [DecidableEq K] {knd : HeapKind prog w K} {A : Around} {E : Value → Shared → Prop} {s : Shared} {d a : Addr} {k : K} {xs : List (K × Addr × Value)} {p : Addr × Value}
end
section
variable {X : Cx} {pins : List (Addr × Obj)} {σ : St} {H : Hp} {s : Shared} {a b : Addr} {v : V} {A : Around} {E : Value → Shared → Prop} {kvs : List (NK × V)} {k : NK}
end
section
variable {X : Cx} {P : Program} {w : World} {o e : Expr} {apos cpos : Pos} {td ty : TE}
end
end L2
namespace L2
open PySem PySem.Spec PyProof.Rows
section
variable {prog : Program} {w : World} {A : Around} {R : Result → Shared → Prop} {I : Addr} {fp wr : List Addr} {n : Nat} {P : Nat → Value → Prop} {St : Nat → Heap → Prop}
end
section
variable {X : Cx}
end
end L2
namespace L2
open PySem PySem.Spec PyProof.Rows
section
variable {X : Cx} {k k' : Nat} {ι : Type} {cls : ι → Addr} {ps : List Str} {sp : ι → Sp} {m : Str} {pos apos : Pos} {e o : Expr} {es : List Expr} {ta : TE} {t : TA} {E : XK}
end
end L2
namespace L2
open PySem PySem.Spec PyProof.Rows PySem.W
def codeφ (c : Addr) (qual : Str) : Heap → Prop := fun h => h.CodeRec (.ref c) qual
def lamφ (f : Addr) (qual : Str) (ps : Arguments) (body : Expr) (sc : Scope) (c : Addr) : Heap → Prop := fun h => ∃ pm ctv, h.get? f = some (kla_obj "<lambda>" qual ps body sc [] pm c ctv)
section
variable {P : Program} {w : World} {K : PySem.W.Frag} {mg : Str → Option Value} {base : Heap}
theorem code_ok {H : Hp} {h : Heap} {c : Addr} {qual : Str} (x : h.CodeRec (.ref c) qual) : ObjOk P w H h c (.ext (codeφ c qual)) := by
  refine ⟨x, ?_, fun h1 h2 y k => Heap.CodeRec.at y k⟩
  obtain ⟨c', o, vs, t, e, g, _⟩ := x
  cases e
  exact ⟨o, g⟩
theorem lam_ok {H : Hp} {h : Heap} {f c : Addr} {qual : Str} {ps : Arguments} {body : Expr} {sc : Scope} (x : lamφ f qual ps body sc c h) : ObjOk P w H h f (.ext (lamφ f qual ps body sc c)) :=
  ⟨x, let ⟨_, _, e⟩ := x; ⟨_, e⟩, fun h1 h2 y k => let ⟨pm, ct, e⟩ := y; ⟨pm, ct, k _ e⟩⟩
theorem lam_run {k : Nat} {f c : Addr} {qual : Str} {params : Arguments} {body : Expr} {scope : Scope} {N ps : List Str} {sp : Sp} (S : FnScope N ps scope) (len : ∀ vs H Q E, sp vs H Q E → vs.length = ps.length)
    (hb : ∀ (pm cdv ct : Value) (us : List Value), us.length = ps.length → bindArgs (kla_fn "<lambda>" qual params body scope [] pm cdv ct) ⟨us, []⟩ = pure (ps.zip us))
    (hbody : ∀ (A : Around) (outer : List Env) (s : Shared) (H : Hp) (vs : List V) (Q : VK), Room k (A.deeper (envOfC qual scope s.heap.objs.size f (.ref c))) → sp vs H Q E0 → ∃ t, PE (cxOf CX0 P w K mg base N qual scope f (.ref c) A outer s H E0).nox body t ∧ t (start N vs) H Q)
    {A : Around} {outer : List Env} {s : Shared} {H : Hp} {us : List Value} {vs : List V} {Q : VK} (hr : Room (k + 1) A) (e0 : Env0 P w K mg base A outer s H) (r : Vals vs us) (hf : H f = some (.ext (lamφ f qual params body scope c))) (hc : H c = some (.ext (codeφ c qual))) (hsp : sp vs H Q E0) :
    codeAny (model P w) A (.call (.ref f) ⟨us, []⟩) (CR CX0 outer P w H s Q E0) s := by
  have hl := len _ _ _ _ hsp
  obtain ⟨⟨pm, ctv, lk⟩, _⟩ := (show ObjOk P w H s.heap f (.ext _) from e0.hok f _ hf)
  obtain ⟨hcd, _⟩ := (show ObjOk P w H s.heap c (.ext _) from e0.hok c _ hc)
  have lim : s.heap.NoLimit := e0.mod.nolimit.keeps fun b o e => (e0.bs b o e).1
  have hkind : ∀ y ∈ ps.zip us, scope.names.lookup y.1 = some .local ∨ (scope.names.lookup y.1 = some .cell ∧ ((cellsFrom (s.heap.objs.size + 1) scope.names []).lookup y.1).isSome = true) := fun ⟨n, v⟩ hy => by
    rcases S.par n (List.of_mem_zip hy).1 with q | q
    · exact .inl q
    · exact .inr ⟨q, PySem.W.cellsFrom_some _ _ _ (.inl q)⟩
  refine kla_callFunE hr.depth lk rfl S.co S.gen rfl hcd ?_
  rw [hb pm (.ref c) ctv us (by rw [← r.length]; exact hl)]
  refine wpAny_pure ?_
  refine wpAny_newFunctionEnv_cells S.kind hkind fun env he s1 x => ?_
  subst he
  refine ⟨lim.keeps x.toInCall.keep, kla_codeExpr ?_⟩
  obtain ⟨t, ht, hq⟩ := hbody A outer s H vs Q (hr.deeper _) hsp
  have I : Inv (cxOf CX0 P w K mg base N qual scope f (.ref c) A outer s H E0) [] (start N vs) H s1 := inv_start S hr.hd e0 hl r x
  refine wpAny_mono (ht [] s1 (start N vs) H Q (I.wish _) hq) (fun u s' hs => ?_) fun e s' hs => hs.elim
  obtain ⟨v, H', J, rv, q⟩ := hs
  have J := J.unwish
  exact ⟨v, H', J.os, J.bare, J.base, J.hok, rv, q⟩
end
section
variable {X : Cx}
theorem lam_in2 {k : Nat} {f c : Addr} {qual : Str} {params : Arguments} {body : Expr} {scope : Scope} {N ps : List Str} {sp : Sp} (S : FnScope N ps scope) (len : ∀ vs H Q E, sp vs H Q E → vs.length = ps.length)
    (hb : ∀ (pm cdv ct : Value) (us : List Value), us.length = ps.length → bindArgs (kla_fn "<lambda>" qual params body scope [] pm cdv ct) ⟨us, []⟩ = pure (ps.zip us))
    (hbody : ∀ (A : Around) (outer : List Env) (s : Shared) (H : Hp) (vs : List V) (Q : VK), Room k (A.deeper (envOfC qual scope s.heap.objs.size f (.ref c))) → sp vs H Q E0 → ∃ t, PE (cxOf CX0 X.prog X.w X.K X.mg X.base N qual scope f (.ref c) A outer s H E0).nox body t ∧ t (start N vs) H Q)
    {pins : List (Addr × Obj)} {σ : St} {s : Shared} {H : Hp} {us : List Value} {vs : List V} {Q : VK} (hr : Room (k + 3) X.A) (I : Inv X pins σ H s) (r : Vals vs us) (hf : H f = some (.ext (lamφ f qual params body scope c))) (hc : H c = some (.ext (codeφ c qual))) (hsp : sp vs H Q E0) :
    wpAny (model X.prog X.w) X.A.in1.in1 (call (.ref f) us) (EP X pins σ Q) (fun _ _ => False) s := by
  refine wpAny_call (codeAny_mono (lam_run (A := X.A.in1.in1) S len hb hbody hr.in1.in1 I.env0.in1.in1 r hf hc hsp) fun r s' hq => ?_)
  cases r with
  | error e => exact hq.elim
  | ok fl =>
    cases fl with
    | ret u => exact I.after hq
    | next => exact False.elim hq
    | brk => exact False.elim hq
    | cont => exact False.elim hq
def tabE (pos : Pos) (c : Addr) : Array Value := #[rawInt pos.line, rawInt pos.col, .ref c]
def TabA (tP : Addr) (pos : Pos) (qual : Str) (H : Hp) : Prop := H tP = some (.tbl #[]) ∨ ∃ c, H tP = some (.tbl (tabE pos c)) ∧ H c = some (.ext (codeφ c qual))
def tLam (tP : Addr) (pos : Pos) (qual : Str) (ps : Arguments) (body : Expr) (sc : Scope) : TE := fun σ H Q =>
  TabA tP pos qual H ∧ ∀ f c H', (∀ a o, a ≠ tP → H a = some o → H' a = some o) → H f = none → H' tP = some (.tbl (tabE pos c)) → H' c = some (.ext (codeφ c qual)) → H' f = some (.ext (lamφ f qual ps body sc c)) → Q (.ref f) H'
theorem pe_lam {tP c0 : Addr} {ps : Arguments} {body : Expr} {sc : Scope} {pos : Pos} (hcode : X.env.code = .ref c0) (C : CodeHd X.base c0 tP) (hb : X.base.BuiltinsAt X.mg tP) (hdef : defaultsOf ps X.env = ([], []) := by rfl) (hcl : closureFor sc X.env = pure [] := by rfl) :
    PE X (.Lambda ps body sc pos) (tLam tP pos (X.env.qual ++ "<lambda>") ps body sc) := by
  intro pins s σ H Q I h
  obtain ⟨ht, q⟩ := h
  have kp : ∀ b o, X.base.get? b = some o → s.heap.get? b = some o := fun b o e => (I.bs b o e).1
  have gl := I.ok.mod.glob.keeps kp
  have hgn : H mainGlobals = none := by
    obtain ⟨o, es, ep, e, _⟩ := I.ok.mod.glob
    exact (I.bs _ _ e).2
  have hb' : s.heap.BuiltinsAt X.mg tP := let ⟨bm, o, b1, b2, b3, b4, b5, b6⟩ := hb; ⟨bm, o, b1, b2, b3, b4, kp _ _ b5, b6⟩
  refine kla_eval hdef ?_
  rcases ht with e | ⟨c, e, ec⟩
  · have hP : s.heap.get? tP = some (tabObj #[]) := I.hok tP _ e
    have hgP : mainGlobals ≠ tP := fun z => by rw [← z, hgn] at e; cases e
    refine kla_makeFunction (mg := X.mg) hcl I.ok.glob gl hcode (C.keeps kp) hP trivial rfl hgP hb' fun c' ctv h' tk hx hge hlt hrec htb => ?_
    have htb : h'.get? tP = some (tabObj (tabE pos c')) := by
      rw [htb]
      rfl
    have fc : H c' = none := I.hok.fresh hge
    have cP : c' ≠ tP := fun z => by rw [z, e] at fc; cases fc
    have hH : ∀ {b : Addr} {u : HO}, H b = some u → b ≠ tP → upd (upd H tP (.tbl (tabE pos c'))) c' (.ext (codeφ c' (X.env.qual ++ "<lambda>"))) b = some u := fun {b u} z n => by
      rw [upd_ne (fun w => by rw [w, fc] at z; cases z), upd_ne n]
      exact z
    have I2 : Inv X pins σ (upd (upd H tP (.tbl (tabE pos c'))) c' (.ext (codeφ c' (X.env.qual ++ "<lambda>")))) { s with heap := h', toks := tk } := by
      refine I.step (h' := h') (t' := tk) (g' := s.gens) (d' := s.drawn) (ch := []) (fun _ z => nomatch z) (fun b o _ _ _ z n => hx b o (fun y => by rw [y, e] at n; cases n) z) (fun b o _ _ _ z n => ⟨o.slots, hx b o (fun y => by rw [y, e] at n; cases n) z⟩) (fun b o _ z n => ?_) (fun b o _ z => ?_) (fun b xs z => hH z fun y => by rw [y, e] at z; cases z) (fun b o u z => hH z fun y => by rw [y, e] at z; cases z) (fun b ps z => ?_) (fun m hm => hm.extBut hx ?_) ?_ I.bare
      · have lt := Heap.lt_size z
        rw [upd_ne (fun y => by rw [y] at lt; exact absurd lt (Nat.not_lt_of_le hge)), upd_ne (fun y => by rw [y, e] at n; cases n)]
        exact n
      · by_cases y : b = tP
        · rw [y]
          exact ⟨_, htb⟩
        · exact ⟨o, hx b o y z⟩
      · by_cases y : b = tP
        · rw [y, e] at z
          cases z
          refine ⟨tabE pos c', ?_⟩
          rw [y, upd_ne (Ne.symm cP), upd_same, Array.empty_append]
        · exact ⟨#[], by rw [hH z y, Array.append_empty]⟩
      · exact fun y => by
          have := I.free
          rw [y, e] at this
          cases this
      · intro b u z
        by_cases y : b = c'
        · subst y
          rw [upd_same] at z
          cases z
          exact code_ok hrec
        · rw [upd_ne y] at z
          by_cases y2 : b = tP
          · subst y2
            rw [upd_same] at z
            cases z
            exact htb
          · rw [upd_ne y2] at z
            refine (I.hok b u z).stay (fun v o hv g => hx v o ?_ g) (fun v g => hH g fun w => by rw [w, e] at g; cases g) fun v xs g => hH g fun w => by rw [w, e] at g; cases g
            intro w
            subst w
            rcases hv with hv | hv
            · exact y2 hv.symm
            · first
                | (rw [e] at hv; cases hv)
                | skip
    have fr : upd (upd H tP (.tbl (tabE pos c'))) c' (.ext (codeφ c' (X.env.qual ++ "<lambda>"))) h'.objs.size = none := I2.hok.fresh (Nat.le_refl _)
    have hf0 : H h'.objs.size = none := by
      have n1 : h'.objs.size ≠ c' := fun z => by rw [z, upd_same] at fr; cases fr
      have n2 : h'.objs.size ≠ tP := fun z => by rw [z, upd_ne (Ne.symm cP), upd_same] at fr; cases fr
      rw [upd_ne n1, upd_ne n2] at fr
      exact fr
    have s2 := same_upd (o := HO.ext (lamφ h'.objs.size (X.env.qual ++ "<lambda>") ps body sc c')) fr
    refine ⟨.ref h'.objs.size, _, I2.laid (a := h'.objs.size) (o := .ext (lamφ h'.objs.size (X.env.qual ++ "<lambda>") ps body sc c')) (t' := tk) (fun b o z => Heap.get?_push_of_some _ z) (Nat.le_refl _) (lam_ok ⟨_, _, Heap.get?_push_size _ rfl⟩), rfl, q _ c' _ (fun a o n z => s2 _ _ (hH z n)) hf0 (s2 _ _ (by rw [upd_ne (Ne.symm cP)]; exact upd_same)) (s2 _ _ upd_same) upd_same⟩
  · have hP : s.heap.get? tP = some (tabObj (tabE pos c)) := I.hok tP _ e
    have hf : codeAmong pos (tabE pos c).toList = some (.ref c) := codeAmong_snoc [] trivial rfl
    refine kla_makeFunctionHit (mg := X.mg) hcl I.ok.glob gl hcode (C.keeps kp) hP trivial hf hb' fun ctv h' tk hk hsz => ?_
    have fr : H h'.objs.size = none := I.hok.fresh hsz
    have s2 := same_upd (o := HO.ext (lamφ h'.objs.size (X.env.qual ++ "<lambda>") ps body sc c)) fr
    refine ⟨.ref h'.objs.size, _, I.laid (a := h'.objs.size) (o := .ext (lamφ h'.objs.size (X.env.qual ++ "<lambda>") ps body sc c)) (t' := tk) (fun b o z => Heap.get?_push_of_some _ (hk b o z)) hsz (lam_ok ⟨_, _, Heap.get?_push_size _ rfl⟩), rfl, q _ c _ (fun a o n z => s2 _ _ z) fr (s2 _ _ e) (s2 _ _ ec) upd_same⟩
end
def SmT (tP : Addr) (H H' : Hp) : Prop := ∀ a o, a ≠ tP → H a = some o → H' a = some o
theorem SmT.same {tP : Addr} {H H1 H2 : Hp} (a : SmT tP H H1) (b : Same H1 H2) : SmT tP H H2 := fun x o n h => b _ _ (a x o n h)
theorem TabA.is {tP : Addr} {pos : Pos} {qual : Str} {H : Hp} (h : TabA tP pos qual H) : ∃ ps, H tP = some (.tbl ps) := h.elim (fun e => ⟨_, e⟩) fun ⟨_, e, _⟩ => ⟨_, e⟩
theorem TabA.same {tP : Addr} {pos : Pos} {qual : Str} {H H' : Hp} (h : TabA tP pos qual H) (s : Same H H') : TabA tP pos qual H' := h.elim (fun e => .inl (s _ _ e)) fun ⟨c, e, z⟩ => .inr ⟨c, s _ _ e, s _ _ z⟩
theorem SmT.seq {tP : Addr} {ps : Array Value} {K : PySem.W.Frag} {H H' : Hp} {a : Addr} {xs : List V} (s : SmT tP H H') (t : H tP = some (.tbl ps)) (h : SqL K H a xs) : SqL K H' a xs := by
  rcases h with (h | ⟨o, h⟩) | h
  · exact .inl (.inl (s _ _ (fun z => by rw [z, t] at h; cases h) h))
  · exact .inl (.inr ⟨o, s _ _ (fun z => by rw [z, t] at h; cases h) h⟩)
  · exact .inr h
theorem SmT.seqT {tP : Addr} {ps : Array Value} {K : PySem.W.Frag} {H H' : Hp} {a : Addr} {xs : List V} (s : SmT tP H H') (t : H tP = some (.tbl ps)) (h : SqT K H a xs) : SqT K H' a xs := by
  rcases h with (h | ⟨o, h⟩) | h
  · exact .inl (.inl (s _ _ (fun z => by rw [z, t] at h; cases h) h))
  · exact .inl (.inr ⟨o, s _ _ (fun z => by rw [z, t] at h; cases h) h⟩)
  · exact .inr h
structure LamD (P : Program) (w : World) (K : PySem.W.Frag) (mg : Str → Option Value) (base : Heap) (k : Nat) (qual : Str) (ps : Arguments) (body : Expr) (sc : Scope) (sp : Sp) : Prop where
  ex : ∃ (N : List Str) (p1 : Str), FnScope N [p1] sc ∧ (∀ vs H Q E, sp vs H Q E → vs.length = 1) ∧ (∀ (pm cdv ct : Value) (us : List Value), us.length = 1 → bindArgs (kla_fn "<lambda>" qual ps body sc [] pm cdv ct) ⟨us, []⟩ = pure ([p1].zip us)) ∧
    ∀ (f c : Addr) (A : Around) (outer : List Env) (s : Shared) (H : Hp) (vs : List V) (Q : VK), Room k (A.deeper (envOfC qual sc s.heap.objs.size f (.ref c))) → sp vs H Q E0 → ∃ t, PE (cxOf CX0 P w K mg base N qual sc f (.ref c) A outer s H E0).nox body t ∧ t (start N vs) H Q
theorem LamD.in2 {X : Cx} {k : Nat} {f c : Addr} {qual : Str} {ps : Arguments} {body : Expr} {sc : Scope} {sp : Sp} (D : LamD X.prog X.w X.K X.mg X.base k qual ps body sc sp)
    {pins : List (Addr × Obj)} {σ : St} {s : Shared} {H : Hp} {us : List Value} {vs : List V} {Q : VK} (hr : Room (k + 3) X.A) (I : Inv X pins σ H s) (r : Vals vs us) (hf : H f = some (.ext (lamφ f qual ps body sc c))) (hc : H c = some (.ext (codeφ c qual))) (hsp : sp vs H Q E0) :
    wpAny (model X.prog X.w) X.A.in1.in1 (call (.ref f) us) (EP X pins σ Q) (fun _ _ => False) s := by
  obtain ⟨N, p1, S, len, hb, hbody⟩ := D.ex
  exact lam_in2 S len hb (hbody f c) hr I r hf hc hsp
theorem sto_nat : Tim.STO fun i j : Nat => decide (i < j) := ⟨fun a => by simp, fun a b c h1 h2 => by simp only [decide_eq_true_eq] at *; lia, fun a b h1 h2 => by simp only [decide_eq_false_iff_not] at *; lia⟩
def ixA (as : List Addr) : Value → Nat
  | .ref a => as.idxOf a
  | _ => 0
theorem ixA_at {as : List Addr} (nd : as.Nodup) {i : Nat} {a : Addr} (h : as[i]? = some a) : ixA as (.ref a) = i := by
  obtain ⟨hi, rfl⟩ := List.getElem?_eq_some_iff.mp h
  exact nd.idxOf_getElem i hi
theorem ixA_map {as : List Addr} (nd : as.Nodup) : (as.map Value.ref).map (ixA as) = List.range as.length := by
  apply List.ext_getElem?
  intro i
  rw [List.getElem?_map, List.getElem?_map]
  cases h : as[i]? with
  | none =>
    have := List.getElem?_eq_none_iff.mp h
    rw [List.getElem?_eq_none (by rw [List.length_range]; exact this)]
    rfl
  | some a =>
    have hi := (List.getElem?_eq_some_iff.mp h).1
    show some (ixA as (.ref a)) = _
    rw [ixA_at nd h, List.getElem?_range hi]
theorem range_srt (n : Nat) : Tim.srt (fun i j : Nat => decide (i < j)) (List.range n) = List.range n :=
  (Tim.srt_eq sto_nat (List.Perm.refl _) (List.pairwise_lt_range.imp fun {a b} h => decide_eq_false (Nat.not_lt_of_lt h))).symm
theorem refs_same {as : List Addr} (nd : as.Nodup) {out : List Value} (hm : ∀ v ∈ out, v ∈ as.map Value.ref) (h : out.map (ixA as) = List.range as.length) : out = as.map Value.ref := by
  apply List.ext_getElem?
  intro i
  have hi := congrArg (·[i]?) h
  simp only [List.getElem?_map] at hi
  cases e : out[i]? with
  | none =>
    rw [e] at hi
    have hl : as.length ≤ i := by
      have := hi.symm
      simpa using this
    rw [List.getElem?_eq_none (by rw [List.length_map]; exact hl)]
  | some v =>
    rw [e] at hi
    obtain ⟨a, ha, rfl⟩ := List.mem_map.mp (hm v (List.mem_of_getElem? e))
    obtain ⟨j, hj⟩ := List.getElem?_of_mem ha
    have h1 : ixA as (.ref a) = j := ixA_at nd hj
    have hjl := (List.getElem?_eq_some_iff.mp hj).1
    have h2 : (List.range as.length)[i]? = some j := by
      rw [← hi]
      show some (ixA as (.ref a)) = _
      rw [h1]
    have h3 : i = j := by
      by_cases hil : i < as.length
      · rw [List.getElem?_range hil] at h2
        exact Option.some.inj h2
      · rw [List.getElem?_eq_none (by rw [List.length_range]; lia)] at h2
        cases h2
    rw [List.getElem?_map, h3, hj]
    rfl
theorem vals_rf : ∀ {as : List Addr} {its : List Value}, Vals (as.map V.ref) its → its = as.map Value.ref
  | [], _, .nil => rfl
  | a :: as, _, .cons r rr => by
    rw [vals_rf rr]
    obtain rfl := (show _ = Value.ref a from r)
    rfl
theorem rfs_vals : ∀ as : List Addr, Vals (as.map V.ref) (as.map Value.ref)
  | [] => .nil
  | _ :: as => .cons rfl (rfs_vals as)
def tSortLam (K : PySem.W.Frag) (tP : Addr) (lp : Pos) (qual : Str) (sp : Sp) (t : TA) : TE := fun σ H Q => t σ H fun vs H1 => ∃ (L : Addr) (as : List Addr) (kd : Nat → PyData), vs = [.ref L] ∧ SqL K H1 L (as.map V.ref) ∧ as.Nodup ∧ TabA tP lp qual H1 ∧
  (∀ i j, i < as.length → j < as.length → ltD? (kd i) (kd j) = some (decide (i < j))) ∧
  (∀ i, i < as.length → (∃ ds, kd i = .tuple ds ∧ ∀ e ∈ ds, ∃ es, e = PyData.tuple es) ∧ (kd i).depth ≤ 50) ∧
  (∀ i a H2 (R : VK), as[i]? = some a → SmT tP H1 H2 → (∀ v H3, Same H2 H3 → Dat K H3 (kd i) v → R v H3) → sp [.ref a] H2 R E0) ∧
  (∀ l H2, SmT tP H1 H2 → H1 l = none → H2 l = none → TabA tP lp qual H2 → Q (.ref l) (upd H2 l (.lst (as.map V.ref))))
section
variable {X : Cx} {k k' : Nat} {sp : Sp} {e : Expr} {t : TA} {p pos kpos lp : Pos} {ps : Arguments} {body : Expr} {sc : Scope} {tP : Addr}
theorem pe_sortedLam (K : PySem.W.Frag) (D : LamD X.prog X.w X.K X.mg X.base k (X.env.qual ++ "<lambda>") ps body sc sp) (hl : PE X (.Lambda ps body sc lp) (tLam tP lp (X.env.qual ++ "<lambda>") ps body sc)) (hr : Room k' X.A) (hc : X.calm = true) (hg : Gl X "sorted") (hm0 : X.mg "sorted" = none) (hv : bootBuiltins "sorted" = some (.builtin "sorted")) (ha : PA X [e] t)
    (hkk : k + 3 ≤ k' := by decide) (hK : X.K = K := by rfl) (hpl : (backTo pos (starEach [e] X.env)).any (·.1) = false := by rfl) (he : backTo pos (starEach [e] X.env) = (false, eval e X.env) :: backTo pos (starEach [] X.env) := by rfl) :
    PE X (.Call (.Name "sorted" p) [e] [⟨some "key", .Lambda ps body sc lp, kpos⟩] pos) (tSortLam K tP lp (X.env.qual ++ "<lambda>") sp t) := by
  subst hK
  intro pins s σ H Q I h
  have hr2 := hr.mono hkk
  have hkw := pk_cons (X := X) (nm := "key") (kpos := kpos) hl pk_nil
  refine wpAny_Call_Name_kw (ld_blt I hg hm0 hv ?_)
  refine callWith_kw (thn (ha pos pins s σ H _ I h) fun us s1 ⟨vs, H1, I1, r1, q1⟩ => ?_) he hpl
  obtain ⟨L, as, kd, rfl, hL, nd, tab, hlt, hdat0, hsp, q⟩ := q1
  obtain ⟨tps, htp⟩ := tab.is
  refine thn (hkw pos pins s1 σ H1 (fun ws H2 => ∃ f c, ws = [.ref f] ∧ SmT tP H1 H2 ∧ H1 f = none ∧ H2 tP = some (.tbl (tabE lp c)) ∧ H2 c = some (.ext (codeφ c (X.env.qual ++ "<lambda>"))) ∧ H2 f = some (.ext (lamφ f (X.env.qual ++ "<lambda>") ps body sc c))) I1 ⟨tab, fun f c H2 sm f0 e1 e2 e3 => ⟨f, c, rfl, sm, f0, e1, e2, e3⟩⟩) fun ws s2 ⟨zs, H2, I2, rz, f, c, ez, sm, f0, e1, e2, e3⟩ => ?_
  subst ez
  obtain ⟨u, rfl, ru⟩ := vals1 r1
  cases ru
  obtain ⟨u, rfl, ru⟩ := vals1 rz
  cases ru
  have hL2 := sm.seq htp hL
  obtain ⟨its, rv0, ⟨o, n, eo, co, _, dd⟩, z⟩ := I2.list hL2
  have ei := vals_rf rv0
  subst ei
  have hl : (as.map Value.ref).length ≤ sizeLine := by
    rw [← rv0.length]
    exact z
  show wpAny _ _ (call (.builtin "sorted") [.ref L] [(Str.ofString "key", .ref f)]) _ _ s2
  refine call_function_entry_kw kind_sorted plain_sorted entry_sorted (ksk_s1 _ _) ?_
  unfold Builtin.«sorted»
  refine wpAny_bind (m := checkCount "sorted" 1 1 _) (wpAny_pure ?_)
  refine wpAny_bind (collect_sq (.inl rfl) eo co dd (by rw [List.size_toArray]; exact hl) fun h1 tk keep hsz => ?_)
  rw [List.toList_toArray]
  refine wpAny_bind (wpAny_newList ?_ hl)
  have hoL : (h1.push (seqObj "list" (as.map Value.ref).toArray 0)).get? h1.objs.size = some (seqObj "list" (as.map Value.ref).toArray 0) := Heap.get?_push_size _ rfl
  have keep2 : ∀ b o, s2.heap.get? b = some o → (h1.push (seqObj "list" (as.map Value.ref).toArray 0)).get? b = some o := fun b o e => Heap.get?_push_of_some _ (keep b o e)
  show wpAny _ _ _ _ _ { s2 with heap := h1.push (seqObj "list" (as.map Value.ref).toArray 0), toks := tk }
  have I3 : Inv X pins σ H2 { s2 with heap := h1.push (seqObj "list" (as.map Value.ref).toArray 0), toks := tk } := I2.kept keep2
  have hfr : H2 h1.objs.size = none := I2.hok.fresh hsz
  have fa : FpOk X pins H2 h1.objs.size := I2.fpOk hsz hfr
  have hfr1 : H1 h1.objs.size = none := by
    cases e : H1 h1.objs.size with
    | none => rfl
    | some o =>
      by_cases y : h1.objs.size = tP
      · rw [y, e1] at hfr
        cases hfr
      · rw [sm _ _ y e] at hfr
        cases hfr
  refine wpAny_bind (wpAny_holding (wpAny_call_entry_kw slot_list_sort ⟨_, hoL, rfl⟩ entry_list_sort ?body (ksk_l1 _ _)))
  case body =>
    show wpAny (model X.prog X.w) X.A.in1.in1 (Builtin.«list.sort» ⟨[.ref h1.objs.size], [(Str.ofString "key", .ref f)]⟩) _ _ _
    rw [ksk_t1]
    refine sort_key (rk := fun v => Tim.rank (fun i j : Nat => decide (i < j)) ((as.map Value.ref).map (ixA as)) (ixA as v)) I3 hoL fa hl (fun i ks H' => Same H2 H' ∧ Paired (fun k j => ∃ x, RelV x k ∧ Dat X.K H' (kd j) x) ks ((List.range as.length).take i)) ⟨Same.refl _, .nil⟩ (fun i v ks pins' H' s' hv lk hj I' => ?_) (fun ks pins' H' s' lk hj I' h2 => ?_) fun ks H' s' out c' hj so I' fa' g => ⟨_, rfl, ?_⟩
    · obtain ⟨sm2, hp⟩ := hj
      rw [List.getElem?_map] at hv
      obtain ⟨a, ha, rfl⟩ := Option.map_eq_some_iff.mp hv
      have hi := (List.getElem?_eq_some_iff.mp ha).1
      refine wpAny_mono (D.in2 (Q := fun v H3 => Same H' H3 ∧ Dat X.K H3 (kd i) v) (vs := [V.ref a]) hr2 I' (.cons (show RelV (V.ref a) (Value.ref a) from rfl) .nil) (sm2 _ _ e3) (sm2 _ _ e2) (hsp i a H' _ ha (sm.same sm2) fun v H3 s3 d3 => ⟨s3, d3⟩)) (fun u s'' z => ?_) fun _ _ z => z
      obtain ⟨y, H3, I3', ry, s3, d3⟩ := z
      refine ⟨H3, I3', sm2.trans s3, ?_⟩
      rw [List.take_succ, List.getElem?_range hi]
      exact paired_app (Paired.mapP hp fun k a ⟨x, rx, dx⟩ => ⟨x, rx, Dat.same s3 _ _ dx⟩) ⟨y, ry, d3⟩
    · obtain ⟨sm2, hp⟩ := hj
      have ll : (as.map Value.ref).length = as.length := List.length_map ..
      rw [ll, List.take_of_length_le (by rw [List.length_range]; exact Nat.le_refl _)] at hp
      have rd : ∀ k j, (∃ x, RelV x k ∧ Dat X.K H' (kd j) x) → ∃ as, Reads s'.heap k (kd j) as ∧ (kd j).canLay0 = true := fun k j ⟨x, rx, dx⟩ => by
        obtain ⟨as, hr⟩ := Dat.reads I' _ _ _ dx rx
        exact ⟨as, hr, Dat.lay _ _ dx⟩
      have tt : ∀ k ∈ ks, TTAt s'.heap k := fun k hk => by
        obtain ⟨j, hj, hx⟩ := paired_in hp hk
        obtain ⟨as', hr, _⟩ := rd k j hx
        obtain ⟨⟨ds, ed, hds⟩, _⟩ := hdat0 j (List.mem_range.mp hj)
        rw [ed] at hr
        exact ⟨ds, as', hr, hds⟩
      obtain ⟨kind, hkind, kk⟩ := kind_tt (s := s') tt (by lia)
      have hkeys : Paired (fun v j => ∃ a, v = Value.ref a ∧ as[j]? = some a) (as.map Value.ref) (List.range as.length) := by
        have : ∀ (m : Nat), m ≤ as.length → Paired (fun v j => ∃ a, v = Value.ref a ∧ as[j]? = some a) ((as.take m).map Value.ref) (List.range m) := by
          intro m
          induction m with
          | zero => exact fun _ => .nil
          | succ m ih =>
            intro hm
            have hh : as[m]? = some as[m] := List.getElem?_eq_getElem (by lia)
            rw [List.take_succ, hh, List.map_append, List.range_succ]
            exact paired_app (ih (by lia)) ⟨as[m], rfl, hh⟩
        have t := this as.length (Nat.le_refl _)
        rw [List.take_length] at t
        exact t
      refine ⟨kind, fun E Q z => kk _ _ E Q z, fun x hx y hy => ?_⟩
      obtain ⟨i, hi, fx, gx⟩ := paired_zip hp hkeys x hx
      obtain ⟨j, hj, fy, gy⟩ := paired_zip hp hkeys y hy
      obtain ⟨as1, rx, lx⟩ := rd _ i fx
      obtain ⟨bs1, ry, ly⟩ := rd _ j fy
      obtain ⟨ax, ex, hax⟩ := gx
      obtain ⟨ay, ey, hay⟩ := gy
      have hi := List.mem_range.mp hi
      have hj := List.mem_range.mp hj
      have e0 := hlt i j hi hj
      have e4 := Tim.rank_dec sto_nat (ixA as) (List.of_mem_zip hx).2 (List.of_mem_zip hy).2
      rw [← e4, ex, ey, ixA_at nd hax, ixA_at nd hay]
      obtain ⟨⟨ds, ed, _⟩, dep⟩ := hdat0 i hi
      obtain ⟨⟨ds', ed', _⟩, _⟩ := hdat0 j hj
      rw [ed] at rx lx e0 dep
      rw [ed'] at ry ly e0
      exact klt_keys rx ry lx ly hr2.in1.in1.units dep e0 hkind
    · have ed := Tim.sorted_data sto_nat (ixA as) so
      rw [ixA_map nd, range_srt] at ed
      have eo2 := refs_same nd (fun v hv => so.perm.mem_iff.mp hv) ed
      refine wpAny_pure ⟨_, rfl, .ref h1.objs.size, upd H' h1.objs.size (.lst (as.map V.ref)), I'.track fa' ⟨?_, out.toList, c', ?_, by rw [Array.toArray_toList]; exact g⟩, rfl, q _ H' (sm.same hj.1) hfr1 fa'.1 (.inr ⟨c, hj.1 _ _ e1, hj.1 _ _ e2⟩)⟩
      · rw [List.length_map]
        rw [List.length_map] at hl
        exact hl
      · rw [eo2]
        exact rfs_vals as
end
theorem law_callT {P : Program} {w : World} {K : PySem.W.Frag} {mg mb : Str → Option Value} {k : Nat} {fa a tP : Addr} {fd : FuncData} {x : Str} {sp : Sp} {s₁ : Shared} {vs : List Value} {ns : List Int}
    (KX : K.In s₁.heap) (hns : s₁.heap.Ns mainGlobals mg) (hb : s₁.heap.Ns builtinsNs mb) (hbb : ∀ x : Str, x ≠ "__name__" → mb x = bootBuiltins x) (hlim : s₁.heap.NoLimit) (hg : s₁.gens = #[])
    (ha : s₁.heap.get? a = some { cls := .type "list", data := .seq vs.toArray }) (hi : IntsAre vs ns) (hl : ns.length ≤ sizeLine) (hr : Room k callerA)
    (hP : s₁.heap.get? tP = some (tabObj #[])) (hct : isCodeTable s₁.heap tP) (hKt : K.lookup tP = none) (hbm : s₁.heap.BuiltinsAt mg tP)
    (F : ∀ base : Heap, K.In base → base.Ns mainGlobals mg → base.BuiltinsAt mg tP → FnOk P w K mg base CX0 k fa fd [x] sp) (hbind : ∀ (s : Shared) (u : Value), BindsTo s fd ⟨[u], []⟩ [(x, u)])
    (hsp : ∀ H : Hp, H tP = some (.tbl #[]) → SqL K H a (ns.map V.int) → sp [.ref a] H (fun v _ => v = .bl true) fun _ _ _ => False) :
    codeAny (model P w) callerA (.call (.ref fa) ⟨[.ref a], []⟩) (fun r s' => r = .ok (.ret (.bool true)) ∧ OldK s₁.heap s'.heap ∧ s'.os = s₁.os ∧ AllBare s'.gens) s₁ := by
  have rv := vals_ints hi
  have lenV := hi.length
  have aP : a ≠ tP := fun z => by
    rw [z, hP] at ha
    cases ha
  have core : ∀ H : Hp, H tP = some (.tbl #[]) → (∀ b, H b = none ∨ (∃ o xs, H b = some (.frz o (.lst xs))) ∨ b = tP) → SqL K H a (ns.map V.int) → HOk P w H s₁.heap → (∀ b, H b ≠ none → b = a ∨ b = tP) → (H a ≠ none → K.lookup a = none) →
      codeAny (model P w) callerA (.call (.ref fa) ⟨[.ref a], []⟩) (fun r s' => r = .ok (.ret (.bool true)) ∧ OldK s₁.heap s'.heap ∧ s'.os = s₁.os ∧ AllBare s'.gens) s₁ := by
    intro H hT hO hS hok hA hK
    have base_of : ∀ {b : Addr} {o : Obj}, s₁.heap.get? b = some o → H b = none → (hidT s₁.heap H).get? b = some o := fun e n => hidT_get e n
    have noA : ∀ {b : Addr} {o : Obj}, s₁.heap.get? b = some o → (∀ z n, o.data ≠ .seq z n) → (∀ z, o.data ≠ .fields z) → H b = none := fun {b o} e d1 d2 => by
      cases q : H b with
      | none => rfl
      | some u =>
        rcases hA b (by rw [q]; simp) with e' | e'
        · subst e'
          rw [ha] at e
          cases e
          exact absurd rfl (d1 _ _)
        · subst e'
          rw [hP] at e
          cases e
          exact absurd rfl (d2 _)
    have nsK : ∀ {b : Addr} {m : Str → Option Value}, s₁.heap.Ns b m → (hidT s₁.heap H).Ns b m := fun {b m} ⟨o, es, ep, e, d, r⟩ => ⟨o, es, ep, base_of e (noA e (fun _ _ z => by rw [d] at z; cases z) fun _ z => by rw [d] at z; cases z), d, r⟩
    have hKb : K.In (hidT s₁.heap H) := fun b o e => base_of (KX b o e) (by
      cases q : H b with
      | none => rfl
      | some u =>
        rcases hA b (by rw [q]; simp) with e' | e'
        · subst e'
          rw [hK (by rw [q]; simp)] at e
          cases e
        · subst e'
          rw [hKt] at e
          cases e)
    have hbb2 : (hidT s₁.heap H).BuiltinsAt mg tP := by
      obtain ⟨bm, o, b1, b2, b3, b4, b5, b6, b7, b8⟩ := hbm
      exact ⟨bm, o, b1, b2, b3, b4, base_of b5 (noA b5 (fun _ _ z => by rw [b8] at z; cases z) fun _ z => by rw [b8] at z; cases z), b6, b7, b8⟩
    have hM : Mod K mg (hidT s₁.heap H) := ⟨hKb, nsK hns, ⟨mb, nsK hb, hbb⟩, let ⟨mc, h1, h2⟩ := hlim; ⟨mc, nsK h1, h2⟩⟩
    have e0 : Env0 P w K mg (hidT s₁.heap H) callerA [] s₁ H := ⟨rfl, hM, fun b o e => of_hidT e, Nat.le_of_eq (hidT_size _ _), trivial, fun b hb => absurd (show b ∈ ([] : List Addr) from hb) (by simp), hok, .of_eq hg⟩
    refine codeAny_mono ((F _ hKb (nsK hns) hbb2).run callerA [] s₁ H ⟨[.ref a], []⟩ [.ref a] [.ref a] _ _ hr e0 (hbind s₁ (.ref a)) (.cons rfl .nil) (hsp H hT hS)) fun r s' h => ?_
    cases r with
    | error e => exact h.elim
    | ok fl =>
      cases fl with
      | next => exact False.elim h
      | brk => exact False.elim h
      | cont => exact False.elim h
      | ret u =>
        obtain ⟨v, H', os, bare, un, hok', r', q⟩ := h
        have q' : v = .bl true := q
        subst q'
        obtain rfl : u = Value.bool true := r'
        refine ⟨rfl, ⟨fun b o e => ?_, fun b o e => un.there b o e (by simp)⟩, os, bare⟩
        by_cases y : b = tP
        · subst y
          obtain ⟨more, e1⟩ := un.tbls b _ hT
          have e2 : s'.heap.get? b = some { cls := .none, data := .fields (#[] ++ more) } := hok' b _ e1
          rw [hP] at e
          cases e
          exact .inr (.inl ⟨hct, rfl, #[], more, rfl, e2⟩)
        · refine .inl ?_
          cases q : H b with
          | none => exact un.keep b o e q (by intro z; exact absurd (show b ∈ ([] : List Addr) from z) (by simp)) (by simp)
          | some u =>
            rcases hO b with z | ⟨ob, xs, z⟩ | z
            · rw [q] at z; cases z
            · have z2 := un.frzs b ob _ z
              obtain ⟨e1, _⟩ := hok b _ z
              obtain ⟨e2, _⟩ := hok' b _ z2
              rw [e] at e1; cases e1
              exact e2
            · exact absurd z y
  cases hk : K.lookup a with
  | some o =>
    have e := KX a o hk
    rw [ha] at e
    cases e
    refine core (fun b => if b = tP then some (.tbl #[]) else none) (if_pos rfl) (fun b => ?_) (.inr ⟨_, vs.toArray, _, hk, rfl, rfl, rfl, by rw [List.size_toArray, lenV]; exact hl, by simpa using rv⟩) (fun b u z => ?_) (fun b z => ?_) fun z => absurd (if_neg aP) z
    · by_cases y : b = tP
      · exact .inr (.inr y)
      · exact .inl (if_neg y)
    · by_cases y : b = tP
      · have z' := (if_pos y).symm.trans z
        cases z'
        rw [y]
        exact hP
      · have z' := (if_neg y).symm.trans z
        cases z'
    · by_cases y : b = tP
      · exact .inr y
      · exact absurd (if_neg y) z
  | none =>
    refine core (fun b => if b = tP then some (.tbl #[]) else if b = a then some (.frz { cls := .type "list", data := .seq vs.toArray } (.lst (ns.map V.int))) else none) (if_pos rfl) (fun b => ?_) (.inl (.inr ⟨{ cls := .type "list", data := .seq vs.toArray }, (if_neg aP).trans (if_pos rfl)⟩)) (fun b u z => ?_) (fun b z => ?_) fun _ => hk
    · by_cases y : b = tP
      · exact .inr (.inr y)
      · by_cases hb : b = a
        · exact .inr (.inl ⟨_, _, (if_neg y).trans (if_pos hb)⟩)
        · exact .inl ((if_neg y).trans (if_neg hb))
    · by_cases y : b = tP
      · have z' := (if_pos y).symm.trans z
        cases z'
        rw [y]
        exact hP
      · by_cases hb : b = a
        · have z' := ((if_neg y).trans (if_pos hb)).symm.trans z
          cases z'
          subst hb
          exact ⟨ha, by rw [List.length_map]; exact hl, vs, _, rv, ha⟩
        · have z' := ((if_neg y).trans (if_neg hb)).symm.trans z
          cases z'
    · by_cases y : b = tP
      · exact .inr y
      · by_cases hb : b = a
        · exact .inl hb
        · exact absurd ((if_neg y).trans (if_neg hb)) z
theorem walk_ofT {l : PySem.W.OpenLaw} {n k : Nat} {q : Program} {loose : List Str} {XP : (Str → Option Value) → Heap → Prop} {YP : World → Heap → Prop} {d : DefRec} {K : Params → PySem.W.Frag} {sp : PySem.W.Frag → Addr → Sp} {x : Str} (c0 tP : Addr)
    (hn : l.most = some n) (hn2 : n ≤ sizeLine) (hdf : d.params.defaults = []) (hr : Room k callerA)
    (hY : ∀ (w : World) (h : Heap), YP w h → (K w.params).In h ∧ h.get? tP = some (tabObj #[])) (hC : ∀ p : Params, codeHdIn (K p) c0 tP = true) (hKt : ∀ p : Params, (K p).lookup tP = none)
    (F : ∀ (w : World) (mg : Str → Option Value) (fa : Addr) (h : Heap), (K w.params).In h → h.Ns mainGlobals mg → mg d.name = some (.ref fa) →
      ∃ fd : FuncData, (∀ (s : Shared) (u : Value), BindsTo s fd ⟨[u], []⟩ [(x, u)]) ∧
        ∀ base : Heap, (K w.params).In base → base.Ns mainGlobals mg → base.BuiltinsAt mg tP → FnOk l.prog w (K w.params) mg base CX0 k fa fd [x] (sp (K w.params) tP))
    (hsp : ∀ (K : PySem.W.Frag) (H : Hp) (a : Addr) (ns : List Int), ns.length ≤ n → H tP = some (.tbl #[]) → SqL K H a (ns.map V.int) → sp K tP [.ref a] H (fun v _ => v = .bl true) fun _ _ _ => False) :
    PySem.W.WalkO q loose XP YP l.row.toRowW d [] (fun f vs => PySem.call f vs) := by
  refine Att.attach_call hn hdf fun w s₀ s₁ mg mb fa o pm cd doc a vs ns G Y ho hd hcd hmg hobj hints hlen hg => ?_
  obtain ⟨KX, hP⟩ := hY w _ Y
  obtain ⟨fd, hb, hF⟩ := F w mg fa _ KX G.T.g hmg
  have C : CodeHd s₁.heap c0 tP := codeHd_of_K KX (hC _)
  obtain ⟨bm, ob, b1, b2, b3, b4, b5, b6⟩ := G.T.bmain
  have hbP : bm ≠ tP := fun q => by rw [q, hP] at b3; cases b3; cases b4
  have hbG : bm ≠ mainGlobals := fun q => by
    obtain ⟨o, es, ep, e, hd, _⟩ := G.T.g
    rw [q, e] at b3; cases b3; rw [hd] at b6; cases b6
  exact law_callT KX G.T.g G.T.b G.T.builtins G.T.nolimit hg hobj hints (Nat.le_trans hlen hn2) hr hP (C.tab hP).isCodeTable (hKt _) ⟨bm, ob, b1, b2, hbG, hbP, b3, b4, b5, b6⟩ hF hb fun H hT hS => hsp (K w.params) H a ns hlen hT hS
theorem Top.okC {P : Program} {w : World} {K : PySem.W.Frag} {mg : Str → Option Value} {base : Heap} {x : Str} {st : Stmt} {N ps : List Str} {k : Nat} {sp : Sp} {c0 : Addr} (T : Top K mg x st ps) (ht : ∀ f, mg x = some (.ref f) → ∀ oc od fd osl, K.lookup f = some ⟨oc, od, .func fd, osl⟩ → fd.code = .ref c0) (S : FnScope N ps (defScope st)) (len : ∀ vs H Q E, sp vs H Q E → vs.length = ps.length)
    (hbody : ∀ (f : Addr) (A : Around) (outer : List Env) (s : Shared) (H : Hp) (vs : List V) (Q : VK) (E : XK), Room k (A.deeper (envOfC x (defScope st) s.heap.objs.size f (.ref c0))) → sp vs H Q E →
      ∃ t, PSs (cxOf CX0 P w K mg base N x (defScope st) f (.ref c0) A outer s H E).nox (defBody st) t ∧ t { nx := fun _ H' => Q .non H', rt := Q } (start N vs) H) : Def P w K mg base (k + 1) x ps sp := by
  obtain ⟨f, fd, F, hm, hb⟩ := T.ex
  refine ⟨f, fd, ?_, hm, F.kp, Binds.all hb⟩
  obtain ⟨oc, od, kV, doc, pm, an, cdv, ct, osl, rfl, lk, hcd⟩ := F.ex
  obtain rfl := (show cdv = .ref c0 from ht f hm _ _ _ _ lk)
  refine fn_of lk hcd S len fun A outer s H vs Q E hr hsp => ?_
  obtain ⟨t, h, q⟩ := hbody f A outer s H vs Q E hr hsp
  exact ⟨t, h.nox, q⟩
theorem Top.finT {l : PySem.W.OpenLaw} {w : World} {K : PySem.W.Frag} {mg : Str → Option Value} {fa tP : Addr} {x : Str} {st : Stmt} {N : List Str} {k : Nat} {sp : Sp} (T : Top K mg "law" st [x]) (hfa : mg "law" = some (.ref fa)) (S : FnScope N [x] (defScope st))
    (len : ∀ vs H Q E, sp vs H Q E → vs.length = [x].length)
    (hbody : ∀ (base : Heap), K.In base → base.BuiltinsAt mg tP → ∀ (f : Addr) (cdv : Value) (A : Around) (outer : List Env) (s : Shared) (H : Hp) (vs : List V) (Q : VK) (E : XK), Room k (A.deeper (envOfC "law" (defScope st) s.heap.objs.size f cdv)) → sp vs H Q E →
      ∃ t, PSs (cxOf CX0 l.prog w K mg base N "law" (defScope st) f cdv A outer s H E).nox (defBody st) t ∧ t { nx := fun _ H' => Q .non H', rt := Q } (start N vs) H) :
    ∃ fd : FuncData, (∀ (s : Shared) (v : Value), BindsTo s fd ⟨[v], []⟩ [(x, v)]) ∧ ∀ base : Heap, K.In base → base.Ns mainGlobals mg → base.BuiltinsAt mg tP → FnOk l.prog w K mg base CX0 (k + 1) fa fd [x] sp := by
  obtain ⟨f, fd, F, hm, hb⟩ := T.ex
  have e := hfa.symm.trans hm
  injection e with e
  injection e with e
  subst e
  exact ⟨fd, fun s v => .of_eq (hb [v] rfl), fun base h1 _ h3 => F.ok S len (hbody base h1 h3 fa)⟩
end L2
set_option maxHeartbeats 4000000
namespace Wy
open PySem L2
def top (i : Nat) : Stmt := PySem.Challenge.pw_whyrows_k55_asked.main.body.getD i (.Pass ⟨0, 0, 0, 0⟩)
abbrev s_is_whole : Stmt := top 4
abbrev s_is_text_begun_by : Stmt := top 5
abbrev s_is_var : Stmt := top 6
abbrev s_value_key : Stmt := top 8
abbrev s_row_key : Stmt := top 9
abbrev s_matched : Stmt := top 11
abbrev s_own : Stmt := top 13
abbrev s_is_asked : Stmt := top 14
abbrev s_asked : Stmt := top 15
abbrev s__law_cell_at : Stmt := top 17
abbrev s__law_name : Stmt := top 18
abbrev s__law_thing : Stmt := top 19
abbrev s__law_value_ahead : Stmt := top 20
abbrev s__law_ahead : Stmt := top 21
abbrev s__law_told : Stmt := top 22
abbrev s__law_matches : Stmt := top 23
abbrev s__law_terms : Stmt := top 24
abbrev s__law_same : Stmt := top 25
abbrev s__law_copies : Stmt := top 26
abbrev s_law : Stmt := top 27
theorem sc_is_whole : FnScope ["thing"] ["thing"] (defScope s_is_whole) := ⟨rfl, rfl, rfl, by decide +kernel, rfl, by decide +kernel, by decide +kernel⟩
theorem sc_is_text_begun_by : FnScope ["thing", "first_signs"] ["thing", "first_signs"] (defScope s_is_text_begun_by) := ⟨rfl, rfl, rfl, by decide +kernel, rfl, by decide +kernel, by decide +kernel⟩
theorem sc_is_var : FnScope ["thing"] ["thing"] (defScope s_is_var) := ⟨rfl, rfl, rfl, by decide +kernel, rfl, by decide +kernel, by decide +kernel⟩
theorem sc_value_key : FnScope ["value"] ["value"] (defScope s_value_key) := ⟨rfl, rfl, rfl, by decide +kernel, rfl, by decide +kernel, by decide +kernel⟩
theorem sc_row_key : FnScope ["row"] ["row"] (defScope s_row_key) := ⟨rfl, rfl, rfl, by decide +kernel, rfl, by decide +kernel, by decide +kernel⟩
theorem sc_matched : FnScope ["terms", "row", "binding", "bound", "term", "value"] ["terms", "row", "binding"] (defScope s_matched) := ⟨rfl, rfl, rfl, by decide +kernel, rfl, by decide +kernel, by decide +kernel⟩
theorem sc_own : FnScope ["worth"] ["worth"] (defScope s_own) := ⟨rfl, rfl, rfl, by decide +kernel, rfl, by decide +kernel, by decide +kernel⟩
theorem sc_is_asked : FnScope ["atom", "table", "row"] ["atom", "table", "row"] (defScope s_is_asked) := ⟨rfl, rfl, rfl, by decide +kernel, rfl, by decide +kernel, by decide +kernel⟩
theorem sc_asked : FnScope ["told", "atom", "found"] ["told", "atom"] (defScope s_asked) := ⟨rfl, rfl, rfl, by decide +kernel, rfl, by decide +kernel, by decide +kernel⟩
theorem sc__law_cell_at : FnScope ["_law_script", "_law_k"] ["_law_script", "_law_k"] (defScope s__law_cell_at) := ⟨rfl, rfl, rfl, by decide +kernel, rfl, by decide +kernel, by decide +kernel⟩
theorem sc__law_name : FnScope ["_law_cell", "_law_place", "_law_k", "_law_first", "_law_later", "_law_size", "_law_at", "_law_name_here", "_law_j", "_law_x"] ["_law_cell", "_law_place", "_law_k", "_law_first"] (defScope s__law_name) := ⟨rfl, rfl, rfl, by decide +kernel, rfl, by decide +kernel, by decide +kernel⟩
theorem sc__law_thing : FnScope ["_law_way", "_law_x", "_law_cell", "_law_name_here", "_law_number"] ["_law_way", "_law_x", "_law_cell", "_law_name_here"] (defScope s__law_thing) := ⟨rfl, rfl, rfl, by decide +kernel, rfl, by decide +kernel, by decide +kernel⟩
theorem sc__law_value_ahead : FnScope ["_law_one", "_law_other", "_law_later", "_law_mine", "_law_yours"] ["_law_one", "_law_other"] (defScope s__law_value_ahead) := ⟨rfl, rfl, rfl, by decide +kernel, rfl, by decide +kernel, by decide +kernel⟩
theorem sc__law_ahead : FnScope ["_law_one", "_law_other", "_law_mine", "_law_yours"] ["_law_one", "_law_other"] (defScope s__law_ahead) := ⟨rfl, rfl, rfl, by decide +kernel, rfl, by decide +kernel, by decide +kernel⟩
theorem sc__law_told : FnScope ["_law_script", "_law_tables", "_law_values", "_law_name_here", "_law_told_here", "_law_x", "_law_cells", "_law_k", "_law_size", "_law_row", "_law_one", "_law_at"] ["_law_script", "_law_tables", "_law_values", "_law_name_here"] (defScope s__law_told) := ⟨rfl, rfl, rfl, by decide +kernel, rfl, by decide +kernel, by decide +kernel⟩
theorem sc__law_matches : FnScope ["_law_terms_here", "_law_row", "_law_bound", "_law_k", "_law_wanted"] ["_law_terms_here", "_law_row"] (defScope s__law_matches) := ⟨rfl, rfl, rfl, by decide +kernel, rfl, by decide +kernel, by decide +kernel⟩
theorem sc__law_terms : FnScope ["_law_script", "_law_marks", "_law_values", "_law_terms_here", "_law_k", "_law_cell"] ["_law_script", "_law_marks", "_law_values"] (defScope s__law_terms) := ⟨rfl, rfl, rfl, by decide +kernel, rfl, by decide +kernel, by decide +kernel⟩
theorem sc__law_same : FnScope ["_law_found", "_law_due", "_law_k"] ["_law_found", "_law_due"] (defScope s__law_same) := ⟨rfl, rfl, rfl, by decide +kernel, rfl, by decide +kernel, by decide +kernel⟩
theorem sc__law_copies : FnScope ["_law_rows"] ["_law_rows"] (defScope s__law_copies) := ⟨rfl, rfl, rfl, by decide +kernel, rfl, by decide +kernel, by decide +kernel⟩
theorem sc_law : FnScope ["_law_script", "_law_letters", "_law_tables", "_law_marks", "_law_number", "_law_values", "_law_told_here", "_law_atom", "_law_due", "_law_handed", "_law_found", "_law_one"] ["_law_script"] (defScope s_law) := ⟨rfl, rfl, rfl, by decide +kernel, rfl, by decide +kernel, by decide +kernel⟩
structure Txt (K : PySem.W.Frag) (mg : Str → Option Value) : Prop where
  b_all : mg "all" = none
  b_any : mg "any" = none
  b_bool : mg "bool" = none
  b_dict : mg "dict" = none
  b_int : mg "int" = none
  b_isinstance : mg "isinstance" = none
  b_len : mg "len" = none
  b_list : mg "list" = none
  b_range : mg "range" = none
  b_sorted : mg "sorted" = none
  b_str : mg "str" = none
  b_tuple : mg "tuple" = none
  b_zip : mg "zip" = none
  c_CAPITAL_LETTERS : ∃ t, mg "CAPITAL_LETTERS" = some (.str "ABCDEFGHIJKLMNOPQRSTUVWXYZ" t)
  c_FURTHER_SIGNS : ∃ t, mg "FURTHER_SIGNS" = some (.str "abcdefghijklmnopqrstuvwxyz0123456789" t)
  c_MOST_SIGNS : ∃ t, mg "MOST_SIGNS" = some (.int 12 t)
  t_is_whole : Top K mg "is_whole" s_is_whole ["thing"]
  t_is_text_begun_by : Top K mg "is_text_begun_by" s_is_text_begun_by ["thing", "first_signs"]
  t_is_var : Top K mg "is_var" s_is_var ["thing"]
  t_value_key : Top K mg "value_key" s_value_key ["value"]
  t_row_key : Top K mg "row_key" s_row_key ["row"]
  t_matched : Top K mg "matched" s_matched ["terms", "row", "binding"]
  t_own : Top K mg "own" s_own ["worth"]
  t_is_asked : Top K mg "is_asked" s_is_asked ["atom", "table", "row"]
  t_asked : Top K mg "asked" s_asked ["told", "atom"]
  t__law_cell_at : Top K mg "_law_cell_at" s__law_cell_at ["_law_script", "_law_k"]
  t__law_name : Top K mg "_law_name" s__law_name ["_law_cell", "_law_place", "_law_k", "_law_first"]
  t__law_thing : Top K mg "_law_thing" s__law_thing ["_law_way", "_law_x", "_law_cell", "_law_name_here"]
  t__law_value_ahead : Top K mg "_law_value_ahead" s__law_value_ahead ["_law_one", "_law_other"]
  t__law_ahead : Top K mg "_law_ahead" s__law_ahead ["_law_one", "_law_other"]
  t__law_told : Top K mg "_law_told" s__law_told ["_law_script", "_law_tables", "_law_values", "_law_name_here"]
  t__law_matches : Top K mg "_law_matches" s__law_matches ["_law_terms_here", "_law_row"]
  t__law_terms : Top K mg "_law_terms" s__law_terms ["_law_script", "_law_marks", "_law_values"]
  t__law_same : Top K mg "_law_same" s__law_same ["_law_found", "_law_due"]
  t__law_copies : Top K mg "_law_copies" s__law_copies ["_law_rows"]
  t_law : Top K mg "law" s_law ["_law_script"]
theorem iteFb {b : Bool} {A B : Prop} (e : b = false) (h : B) : if b = true then A else B := by
  subst e
  exact iteF h
theorem iteTb {b : Bool} {A B : Prop} (e : b = true) (h : A) : if b = true then A else B := by
  subst e
  exact iteT h
def fur : Str := "abcdefghijklmnopqrstuvwxyz0123456789"
def capS : Str := "ABCDEFGHIJKLMNOPQRSTUVWXYZ"
def signsOk (fs : Str) : List Nat → Bool
  | [] => false
  | c :: r => decide (c ∈ fs.cps.toList) && r.all fun d => decide (d ∈ fur.cps.toList)
def txtB (fs z : Str) : Bool := decide (1 ≤ z.length) && decide (z.length ≤ 12) && signsOk fs z.cps.toList
def txtK (fs : Str) : Key → Bool
  | .inr z => txtB fs z
  | .inl _ => false
def TxOk : Key → Prop
  | .inr z => z.length ≤ 200 ∧ PyData.strOk z = true
  | .inl _ => True
def keyD : Key → PyData
  | .inr z => .str z
  | .inl i => .int i
theorem dat_tx {K : PySem.W.Frag} {H : Hp} : ∀ {t : Key}, TxOk t → Dat K H (keyD t) (kV t)
  | .inr z, h => .str z h.2
  | .inl i, _ => .int i
theorem txtB_len {fs z : Str} (h : ¬ (1 ≤ z.length ∧ z.length ≤ 12)) : txtB fs z = false := by
  unfold txtB
  by_cases h1 : 1 ≤ z.length
  · have h2 : ¬ z.length ≤ 12 := fun q => h ⟨h1, q⟩
    simp [h2]
  · simp [h1]
theorem txtB_ok {fs z : Str} (h1 : 1 ≤ z.length) (h2 : z.length ≤ 12) : txtB fs z = signsOk fs z.cps.toList := by
  unfold txtB
  simp [h1, h2]
theorem len_list (z : Str) : z.cps.toList.length = z.length := by simp [Str.length]
theorem split_list {z : Str} (h : 1 ≤ z.length) : ∃ c r, z.cps.toList = c :: r := by
  have := len_list z
  cases e : z.cps.toList with
  | nil => rw [e] at this; simp at this; lia
  | cons c r => exact ⟨c, r, rfl⟩
theorem cut_tail {z : Str} (h : 1 ≤ z.length) : (cutS z (some 1) none).cps.toList = z.cps.toList.tail := by
  have e1 : HT.sIx z.length 0 (some 1) = 1 := by
    have := HT.sIx_nat z.length 0 1
    rw [show ((1 : Nat) : Int) = 1 from rfl] at this
    rw [this]
    lia
  have hl := len_list z
  unfold cutS
  rw [e1, HT.sIx_none]
  show ((z.cps.toList.drop 1).take (z.length - 1)).toArray.toList = _
  rw [List.toList_toArray, List.take_of_length_le (by rw [List.length_drop]; lia), List.drop_one]
end Wy
namespace Wy
open PySem L2
section
variable {P : Program} {w : World} {K : PySem.W.Frag} {mg : Str → Option Value} {base : Heap}
def sp_cell (K : PySem.W.Frag) : Sp := fun vs H Q _ => ∃ (a : Addr) (ns : List Int) (k : Int), vs = [.ref a, .int k] ∧ SqL K H a (ns.map V.int) ∧ 0 ≤ k ∧ Q (.int (ns.getD k.toNat 0)) H
theorem ok__law_cell_at (T : Txt K mg) : Def P w K mg base 1 "_law_cell_at" ["_law_script", "_law_k"] (sp_cell K) := by
  refine T.t__law_cell_at.ok sc__law_cell_at (fun vs H Q E h => ?_) fun f cdv A outer s H vs Q E hr h => ?_
  · obtain ⟨a, ns, k, rfl, _⟩ := h
    rfl
  · obtain ⟨a, ns, k, rfl, hS, h0, q⟩ := h
    refine ⟨_, (pss_2
      (ps_if (pt_cmpR op_lt (pv 1) (pe_callB (call_lenK K) rfl T.b_len bt_len (pa_1 (pv 0))) (nomark _)) (pss_one (ps_ret (pe_ix (ix_listK K) (pv 0) (pv 1) (fun _ _ => rfl)))) pss_nil)
      (ps_ret pe_int)), ?_⟩
    refine ⟨_, rfl, _, rfl, _, _, rfl, .inl ⟨_, hS, rfl⟩, _, _, rfl, rfl, _, rfl, ?_⟩
    rw [List.length_map]
    refine ite2 (fun h1 => ?_) (fun h1 => ?_)
    · have h1' : k < ns.length := by simpa using h1
      have hk : k.toNat < ns.length := by lia
      refine ⟨_, rfl, _, rfl, _, _, _, V.int (ns.getD k.toNat 0), rfl, rfl, hS, ?_, q⟩
      rw [atI_lt h0 (by rw [List.length_map]; exact h1'), List.getElem?_map, List.getElem?_eq_getElem hk, getD_lt hk]
      rfl
    · have h1' : ¬ k < ns.length := by simpa using h1
      have e : ns.getD k.toNat 0 = 0 := by
        exact getD_ge (by lia)
      rw [e] at q
      exact q
end
end Wy
namespace Wy
open PySem L2
section
variable {P : Program} {w : World} {K : PySem.W.Frag} {mg : Str → Option Value} {base : Heap}
def sp_begun (K : PySem.W.Frag) : Sp := fun vs H Q _ => ∃ (t : Key) (fs : Str), vs = [kV t, .str fs] ∧ TxOk t ∧ ∀ H', Same H H' → Q (.bl (txtK fs t)) H'
theorem ok_is_text_begun_by (T : Txt K mg) : Def P w K mg base 1 "is_text_begun_by" ["thing", "first_signs"] (sp_begun K) := by
  refine T.t_is_text_begun_by.ok sc_is_text_begun_by (fun vs H Q E h => ?_) fun f cdv A outer s H vs Q E hr h => ?_
  · obtain ⟨t, fs, rfl, _⟩ := h
    rfl
  · obtain ⟨t, fs, rfl, hz, k⟩ := h
    have hd := dat_tx (K := K) (H := H) hz
    refine ⟨_, (pss_2
      (ps_if (PW.pt (pw_or (pt_not (pt_val (pe_callB (call_isiD K) rfl T.b_isinstance bt_isinstance (pa_2 (pv 0) (pe_ty rfl T.b_str bt_str))))) (pw_or1 (pt_not (pt_chain op_le op_le pe_int (pe_callB (call_lenK K) rfl T.b_len bt_len (pa_1 (pv 0))) (pe_gI rfl T.c_MOST_SIGNS)))))) (pss_one (ps_ret pe_bl)) pss_nil)
      (ps_ret (pe_and (pe_cmpR op_in_str (pe_ix ix_str (pv 0) pe_int (fun _ _ => rfl)) (pv 1) (by with_unfolding_all rfl)) (pe_one (pe_callB (call_allL rfl K) rfl T.b_all bt_all (pa_1 (pe_comp (N := ["sign"]) (caps := [none]) rfl (by with_unfolding_all rfl) (pi_str (pe_slice sl_str (pv 0) (po_some pe_int) po_none)) (fun _ _ _ _ _ => (pg_name (i := 0) (show (["sign"] : List Str).Nodup by decide +kernel) rfl (Or.inl rfl))) (fun _ _ _ _ _ => pf_nil) (fun _ _ _ _ _ => (pe_cmpR op_in_str (pv 0) (pe_gS rfl T.c_FURTHER_SIGNS) (by with_unfolding_all rfl)))))))))), ?_⟩
    cases t with
    | inr z =>
      have hz := hz.1
      have hsl : z.length ≤ sizeLine := Nat.le_trans hz (by decide)
      have no : ¬ (1 ≤ z.length ∧ z.length ≤ 12) → Q (.bl false) H := fun q => by
        have := k H (Same.refl H)
        rw [show txtK fs (.inr z) = false from txtB_len q] at this
        exact this
      refine ⟨_, rfl, _, _, _, rfl, hd, by decide, _, rfl, ?_⟩
      refine iteFb (show (!tyIs "str" "str") = false by decide) ?_
      refine ⟨_, rfl, _, _, rfl, ⟨hsl, rfl⟩, _, _, rfl, rfl, _, rfl, ?_⟩
      refine ite2 (fun h1 => ?_) (fun h1 => ?_)
      · refine ⟨_, _, rfl, rfl, _, rfl, ?_⟩
        refine ite2 (fun h2 => ?_) (fun h2 => ?_)
        · exact no fun q => by simp at h2; lia
        · have l1 : 1 ≤ z.length := by simp at h1; lia
          have l2 : z.length ≤ 12 := by simp at h2; lia
          obtain ⟨c, r, ecr⟩ := split_list l1
          have et : txtK fs (.inr z) = signsOk fs z.cps.toList := txtB_ok (fs := fs) l1 l2
          rw [ecr] at et
          refine ⟨_, rfl, _, _, c, rfl, rfl, hsl, (by rw [ecr]; exact atI_nat (j := 0) rfl), _, rfl, _, _, rfl, rfl, _, rfl, ?_⟩
          rw [StrLaws.found_one]
          refine ite2 (fun h3 => ?_) (fun h3 => ?_)
          · refine ⟨_, rfl, _, rfl, _, rfl, hsl, _, rfl, fun D hD => ?_⟩
            have ect : (cutS z (some 1) none).cps.toList = r := by rw [cut_tail l1, ecr]; rfl
            have hrl : r.length ≤ 12 := by
              have := len_list z
              rw [ecr, List.length_cons] at this
              lia
            have esz : (cutS z (some 1) none).cps.size = r.length := by rw [← ect, Array.length_toList]
            refine comp_by r.length (fun i σ' H' => (∃ v, σ' = [v]) ∧ H' = upd H D (.lst ((r.take i).map fun c => V.bl (decide (c ∈ fur.cps.toList))))) ⟨⟨_, rfl⟩, rfl⟩ (fun i σ' H' hi _ => by show i < _; rw [esz]; exact hi) (fun σ' H' p => ⟨esz.symm, ?_⟩) (fun i σ' H' hi p x H2 y => ?_)
            · obtain ⟨_, rfl⟩ := p
              refine ⟨D, r.map fun c => decide (c ∈ fur.cps.toList), rfl, SqL.of (by rw [upd_same, List.take_length, List.map_map]; rfl), ?_⟩
              have := k (upd H D (.lst ((r.take r.length).map fun c => V.bl (decide (c ∈ fur.cps.toList))))) (same_upd hD)
              rw [et] at this
              have e2 : signsOk fs (c :: r) = (r.map fun c => decide (c ∈ fur.cps.toList)).all id := by
                show (decide (c ∈ fs.cps.toList) && _) = _
                rw [h3, Bool.true_and, List.all_map]
                rfl
              rw [e2] at this
              exact this
            · obtain ⟨⟨v, rfl⟩, rfl⟩ := p
              obtain ⟨rfl, c', hc, rfl⟩ := y
              have hc' : r[i]? = some c' := by rw [← ect, Array.getElem?_toList]; exact hc
              refine ⟨_, rfl, _, _, rfl, rfl, _, upd_same, ?_, ⟨_, rfl⟩, ?_⟩
              · rw [List.length_map, List.length_take]
                exact small1000 (by lia)
              · rw [upd_upd, StrLaws.found_one, List.take_succ, hc', List.map_append]
                rfl
          · have := k H (Same.refl H)
            rw [et] at this
            have e2 : signsOk fs (c :: r) = false := by
              show (decide (c ∈ fs.cps.toList) && _) = _
              rw [Bool.eq_false_iff.mpr h3, Bool.false_and]
            rw [e2] at this
            exact this
      · refine ⟨_, rfl, iteT ?_⟩
        exact no fun q => by simp at h1; lia
    | inl i =>
      refine ⟨_, rfl, _, _, _, rfl, hd, by decide, _, rfl, ?_⟩
      refine iteTb (show (!tyIs "int" "str") = true by decide) (iteT ?_)
      exact k H (Same.refl H)
theorem ok_is_var (T : Txt K mg) : Def P w K mg base 2 "is_var" ["thing"] (fun vs H Q _ => ∃ t : Key, vs = [kV t] ∧ TxOk t ∧ ∀ H', Same H H' → Q (.bl (txtK capS t)) H') := by
  refine T.t_is_var.ok sc_is_var (fun vs H Q E h => ?_) fun f cdv A outer s H vs Q E hr h => ?_
  · obtain ⟨t, rfl, _⟩ := h
    rfl
  · obtain ⟨t, rfl, hz, k⟩ := h
    refine ⟨_, (pss_one (ps_ret (pe_def (ok_is_text_begun_by T) hr rfl (pa_2 (pv 0) (pe_gS rfl T.c_CAPITAL_LETTERS))))), ?_⟩
    exact ⟨_, rfl, t, _, rfl, hz, k⟩
end
end Wy
namespace Wy
open PySem L2
def mPut (kvs : List (Key × V)) (t v : Key) : List (Key × V) := if txtK capS t = true ∧ valV kvs t = none then putK kvs t (kV v) else kvs
def mStep (kvs : List (Key × V)) (t v : Key) : Option (List (Key × V)) := if (valV (mPut kvs t v) t).getD (kV t) = kV v then some (mPut kvs t v) else none
def mAll (kvs : List (Key × V)) : List (Key × Key) → Option (List (Key × V))
  | [] => some kvs
  | p :: r => (mStep kvs p.1 p.2).bind fun k => mAll k r
theorem mAll_app (l r : List (Key × Key)) : ∀ kvs, mAll kvs (l ++ r) = (mAll kvs l).bind fun k => mAll k r := by
  induction l with
  | nil => exact fun kvs => rfl
  | cons p l ih =>
    intro kvs
    show (mStep kvs p.1 p.2).bind (fun k => mAll k (l ++ r)) = ((mStep kvs p.1 p.2).bind fun k => mAll k l).bind _
    cases mStep kvs p.1 p.2 with
    | none => rfl
    | some k => exact ih k
theorem mAll_next {kvs k : List (Key × V)} {l : List (Key × Key)} {i : Nat} {t v : Key} (h : mAll kvs (l.take i) = some k) (e : l[i]? = some (t, v)) : mAll kvs (l.take (i + 1)) = mStep k t v := by
  rw [List.take_succ, e, mAll_app, h]
  show (mStep k t v).bind (fun k => some k) = _
  cases mStep k t v <;> rfl
theorem mAll_stop {kvs : List (Key × V)} {l : List (Key × Key)} {i : Nat} (h : mAll kvs (l.take i) = none) : mAll kvs l = none := by
  rw [← List.take_append_drop i l, mAll_app, h]
  rfl
def AllK (kvs : List (Key × V)) : Prop := ∀ kv ∈ kvs, ∃ j : Key, kv.2 = kV j
theorem put_mem {kvs : List (Key × V)} {k : Key} {v : V} {kv : Key × V} (h : kv ∈ putK kvs k v) : kv ∈ kvs ∨ kv = (k, v) := by
  unfold putK at h
  split at h
  · obtain ⟨p, hp, e⟩ := List.mem_map.mp h
    split at e
    · rename_i z
      exact .inr (by rw [← e, ← z])
    · exact .inl (by rw [← e]; exact hp)
  · rcases List.mem_append.mp h with h | h
    · exact .inl h
    · exact .inr (List.mem_singleton.mp h)
theorem val_in {kvs : List (Key × V)} {k : Key} {v : V} (h : valV kvs k = some v) : (k, v) ∈ kvs := by
  unfold valV at h
  obtain ⟨kv, hf, rfl⟩ := Option.map_eq_some_iff.mp h
  have h1 := List.find?_some hf
  have h2 := List.mem_of_find?_eq_some hf
  have : kv.1 = k := by simpa using h1
  rw [← this]
  exact h2
theorem AllK.put {kvs : List (Key × V)} (h : AllK kvs) (t v : Key) : AllK (mPut kvs t v) := by
  unfold mPut
  split
  · intro kv hk
    rcases put_mem hk with hk | rfl
    · exact h kv hk
    · exact ⟨v, rfl⟩
  · exact h
theorem AllK.get {kvs : List (Key × V)} (h : AllK kvs) (t : Key) : ∃ j : Key, (valV kvs t).getD (kV t) = kV j := by
  cases e : valV kvs t with
  | none => exact ⟨t, rfl⟩
  | some v => exact h _ (val_in e)
theorem length_mPut (kvs : List (Key × V)) (t v : Key) : (mPut kvs t v).length ≤ kvs.length + 1 := by
  unfold mPut
  split
  · exact length_putK ..
  · exact Nat.le_succ _
theorem scal_keys : ∀ u v : Key, scal (kV u) (kV v) = true
  | .inl _, .inl _ => rfl
  | .inl _, .inr _ => rfl
  | .inr _, .inl _ => rfl
  | .inr _, .inr _ => rfl
section
variable {P : Program} {w : World} {K : PySem.W.Frag} {mg : Str → Option Value} {base : Heap}
def sp_matched (K : PySem.W.Frag) : Sp := fun vs H Q _ => ∃ (a b d : Addr) (ts us : List Key) (kvs : List (Key × V)), vs = [.ref a, .ref b, .ref d] ∧ SqT K H a (ts.map kV) ∧ SqT K H b (us.map kV) ∧ H d = some (.dK kvs) ∧
  (∀ t ∈ ts, TxOk t) ∧ AllK kvs ∧ ts.length ≤ 100 ∧ kvs.length ≤ 100 ∧
  ((ts.length ≠ us.length ∨ mAll kvs (ts.zip us) = none) → ∀ H', Same H H' → Q .non H') ∧
  (∀ k2 p H', ts.length = us.length → mAll kvs (ts.zip us) = some k2 → Same H H' → H p = none → H' p = some (.dK k2) → Q (.ref p) H')
theorem ok_matched (T : Txt K mg) : Def P w K mg base 3 "matched" ["terms", "row", "binding"] (sp_matched K) := by
  refine T.t_matched.ok sc_matched (fun vs H Q E h => ?_) fun f cdv A outer s H vs Q E hr h => ?_
  · obtain ⟨a, b, d, ts, us, kvs, rfl, _⟩ := h
    rfl
  · obtain ⟨a, b, d, ts, us, kvs, rfl, ha, hb, hd, hts, hall, lt, lk, kn, ks⟩ := h
    have la : LenV K (.ref a) H ts.length := .inr ⟨_, ha, by rw [List.length_map]⟩
    have lb : LenV K (.ref b) H us.length := .inr ⟨_, hb, by rw [List.length_map]⟩
    refine ⟨_, (pss_4
      (ps_if (pt_cmpR op_ne (pe_callB (call_lenK K) rfl T.b_len bt_len (pa_1 (pv 0))) (pe_callB (call_lenK K) rfl T.b_len bt_len (pa_1 (pv 1))) (nomark _)) (pss_one (ps_ret pe_non)) pss_nil)
      (ps_set (i := 3) sc_matched.nd rfl (Or.inl rfl) (pe_callTy call_dictC rfl T.b_dict bt_dict (pa_1 (pv 2))))
      (ps_for PassesOwn.never rfl (pi_zip K rfl T.b_zip (pa_2 (pv 0) (pv 1))) (pg_tup rfl (pgs_cons (pg_name (i := 4) sc_matched.nd rfl (Or.inl rfl)) (pgs_cons (pg_name (i := 5) sc_matched.nd rfl (Or.inl rfl)) pgs_nil))) (pss_2
      (ps_if (pt_val (pe_def (ok_is_var T) hr rfl (pa_1 (pv 4)))) (pss_one (ps_expr (pe_dsetd (pv 3) (pv 4) (pv 5) ⟨rfl, rfl, rfl, rfl⟩))) pss_nil)
      (ps_if (pt_cmpR op_ne (pe_dget2 (hu_of hr) (pv 3) (pv 4) (pv 4) ⟨rfl, rfl, rfl, rfl⟩) (pv 5) (nomark _)) (pss_one (ps_ret pe_non)) pss_nil)))
      (ps_ret (pv 3))), ?_⟩
    refine ⟨_, rfl, _, _, rfl, la, _, rfl, _, _, rfl, lb, rfl, _, rfl, ite2 (fun h1 => ?_) (fun h1 => ?_)⟩
    · refine kn (.inl fun e => ?_) H (Same.refl H)
      rw [e] at h1
      simp at h1
    · have el : ts.length = us.length := by
        have : decide (V.int ts.length = V.int us.length) = true := by
          cases q : decide (V.int ts.length = V.int us.length) with
          | true => rfl
          | false => exact absurd (by show (!decide (V.int ts.length = V.int us.length)) = true; rw [q]; rfl) h1
        have := of_decide_eq_true this
        injection this with e
        lia
      refine ⟨_, rfl, d, kvs, rfl, .inl hd, fun q hq => ?_⟩
      have s1 := same_upd (o := HO.dK kvs) hq
      refine ⟨_, rfl, _, rfl, a, b, rfl, ⟨_, s1.seqT ha⟩, ⟨_, s1.seqT hb⟩, ?_⟩
      refine for_zip (xs := ts.map kV) (ys := us.map kV) (fun i σ H' => ∃ (v1 v2 : Option V) (ki : List (Key × V)), σ = [some (.ref a), some (.ref b), some (.ref d), some (.ref q), v1, v2] ∧ Same H H' ∧ H' q = some (.dK ki) ∧ mAll kvs ((ts.zip us).take i) = some ki ∧ AllK ki ∧ ki.length ≤ 100 + i)
        ⟨none, none, kvs, rfl, s1, upd_same, rfl, hall, lk⟩ (fun i σ H' _ p => ?_) ?_ ?_
      · obtain ⟨v1, v2, ki, _, s2, _⟩ := p
        exact ⟨s2.seqT ha, s2.seqT hb⟩
      · rintro i x y p σ H' hx hy hp ⟨v1, v2, ki, rfl, s2, hk, hm, hal, hl⟩
        rw [List.getElem?_map] at hx hy
        obtain ⟨t, ht, rfl⟩ := Option.map_eq_some_iff.mp hx
        obtain ⟨v, hv, rfl⟩ := Option.map_eq_some_iff.mp hy
        have hil : i < 100 := Nat.lt_of_lt_of_le (List.getElem?_eq_some_iff.mp ht).1 lt
        have hzip : (ts.zip us)[i]? = some (t, v) := by
          rw [List.getElem?_zip_eq_some]
          exact ⟨ht, hv⟩
        have nx := mAll_next hm hzip
        have s3 := same_upd (o := HO.tup [kV t, kV v]) hp
        have qp : q ≠ p := fun e => by rw [e, hp] at hk; cases hk
        refine ⟨p, _, rfl, SqT.of upd_same, rfl, _, _, rfl, _, _, rfl, rfl, ?_⟩
        have fin : ∀ H4 : Hp, Same H H4 → H4 q = some (.dK (mPut ki t v)) → (tIfS (tTest (tOp rNe (tDGet2 (tVar 3) (tVar 4) (tVar 4)) (tVar 5))) (tRet (tC V.non)) tNext)
            { nx := (fun σ H' => ∃ (v1 v2 : Option V) (kj : List (Key × V)), σ = [some (.ref a), some (.ref b), some (.ref d), some (.ref q), v1, v2] ∧ Same H H' ∧ H' q = some (.dK kj) ∧ mAll kvs ((ts.zip us).take (i + 1)) = some kj ∧ AllK kj ∧ kj.length ≤ 100 + (i + 1)), rt := Q }
            [some (.ref a), some (.ref b), some (.ref d), some (.ref q), some (kV t), some (kV v)] H4 := fun H4 s4 h4 => by
          obtain ⟨j, ej⟩ := (hal.put t v).get t
          have sc : scal ((valV (mPut ki t v) t).getD (kV t)) (kV v) = true := by rw [ej]; exact scal_keys j v
          refine ⟨_, rfl, q, rfl, .inl ⟨_, .inl h4⟩, _, rfl, _, rfl, _, DGet.k h4, _, rfl, sc, _, rfl, ite2 (fun h2 => ?_) (fun h2 => ?_)⟩
          · refine kn (.inr (mAll_stop (i := i + 1) ?_)) _ s4
            rw [nx]
            unfold mStep
            rw [if_neg]
            intro e
            rw [decide_eq_true e] at h2
            cases h2
          · refine ⟨_, _, mPut ki t v, rfl, s4, h4, ?_, hal.put t v, ?_⟩
            · rw [nx]
              unfold mStep
              rw [if_pos]
              by_cases e : (valV (mPut ki t v) t).getD (kV t) = kV v
              · exact e
              · exact absurd (by rw [decide_eq_false e]; rfl) h2
            · have := length_mPut ki t v
              lia
        refine ⟨_, rfl, t, rfl, hts t (List.mem_of_getElem? ht), fun H3 s5 => ⟨_, rfl, ite2 (fun h2 => ?_) (fun h2 => ?_)⟩⟩
        · have h3 := s5 _ _ (s3 _ _ hk)
          refine ⟨_, rfl, q, rfl, .inl ⟨_, .inl h3⟩, _, rfl, _, rfl, ki, t, h3, rfl, small1000 (by lia), fun u e => ?_, fun e => ?_⟩
          · refine fin _ (s2.trans (s3.trans s5)) ?_
            unfold mPut
            rw [if_neg (fun z => by rw [e] at z; exact nomatch z.2)]
            exact h3
          · refine fin _ ((s2.trans (s3.trans s5)).set hq) ?_
            unfold mPut
            rw [if_pos ⟨h2, e⟩]
            exact upd_same
        · refine fin _ (s2.trans (s3.trans s5)) ?_
          unfold mPut
          rw [if_neg (fun z => h2 z.1)]
          exact s5 _ _ (s3 _ _ hk)
      · rintro σ H' ⟨v1, v2, ki, rfl, s2, hk, hm, hal, hl⟩
        rw [List.length_map, List.length_map, List.take_of_length_le (by rw [List.length_zip]; exact Nat.le_refl _)] at hm
        exact ⟨_, rfl, ks ki q H' el hm s2 hq hk⟩
end
end Wy
namespace Wy
open PySem L2
def later : Str := "0123456789abcdefghijklmnopqrstuvwxyz"
theorem len_later : later.length = 36 := by decide +kernel
theorem later_fur : ∀ c ∈ later.cps.toList, c ∈ fur.cps.toList := by decide +kernel
theorem app_list (a b : Str) : (a ++ b).cps.toList = a.cps.toList ++ b.cps.toList := by
  show (a.cps ++ b.cps).toList = _
  rw [Array.toList_append]
theorem strOk_of {z : Str} (h : ∀ c ∈ z.cps.toList, c < 0x110000) : PyData.strOk z = true := by
  unfold PyData.strOk
  rw [← Array.all_toList, List.all_eq_true]
  exact fun c hc => decide_eq_true (h c hc)
theorem fur_lt : ∀ c ∈ fur.cps.toList, c < 0x110000 := by decide +kernel
def Wz (n : Nat) (z : Str) : Prop := z.length ≤ n ∧ ∀ c ∈ z.cps.toList, c ∈ fur.cps.toList
theorem Wz.ok {n : Nat} {z : Str} (h : Wz n z) : PyData.strOk z = true := strOk_of fun c hc => fur_lt c (h.2 c hc)
def strLt (x y : Str) : Bool := decide (x.cps.toList < y.cps.toList)
def befK : Key → Key → Bool
  | .inl i, .inl j => decide (i < j)
  | .inl _, .inr _ => true
  | .inr _, .inl _ => false
  | .inr x, .inr y => strLt x y
def keyV : Key → List V
  | .inl i => [.int 0, .int i, .str ""]
  | .inr z => [.int 1, .int 0, .str z]
def keyDs : Key → List PyData
  | .inl i => [.int 0, .int i, .str ""]
  | .inr z => [.int 1, .int 0, .str z]
def ordD (k : Key) : PyData := .tuple (keyDs k)
def valD : Key → PyData
  | .inl i => .int i
  | .inr z => .str z
def OkK : Key → Prop
  | .inl _ => True
  | .inr z => Wz 40 z
theorem dat_val {K : PySem.W.Frag} {H : Hp} : ∀ {k : Key}, OkK k → Dat K H (valD k) (kV k)
  | .inl i, _ => .int i
  | .inr z, h => .str z (Wz.ok (n := 40) h)
theorem dat_keys {K : PySem.W.Frag} {H : Hp} : ∀ {k : Key}, OkK k → Dats K H (keyDs k) (keyV k)
  | .inl i, _ => .cons (.int 0) (.cons (.int i) (.cons (.str "" (by decide +kernel)) .nil))
  | .inr z, h => .cons (.int 1) (.cons (.int 0) (.cons (.str z (Wz.ok (n := 40) h)) .nil))
theorem depth_key (k : Key) : (ordD k).depth = 1 := by cases k <;> rfl
theorem eqv_int (a b : Int) : PyData.eqv (.int a) (.int b) = decide (a = b) := by
  show (a == b) = _
  by_cases h : a = b <;> simp [h]
theorem eqv_str (a b : Str) : PyData.eqv (.str a) (.str b) = decide (a = b) := by
  show (a == b) = _
  by_cases h : a = b <;> simp [h]
theorem lt_keys : ∀ a b : Key, ltD? (ordD a) (ordD b) = some (befK a b)
  | .inl i, .inl j => by
    show lexD? [.int 0, .int i, .str ""] [.int 0, .int j, .str ""] = _
    rw [lexD?, if_pos (by decide), lexD?, eqv_int]
    by_cases h : i = j
    · subst h
      rw [if_pos (by simp), lexD?, if_pos (by decide), lexD?]
      simp [befK]
    · rw [if_neg (by simpa using h), ltD?]
      rfl
  | .inl i, .inr y => by
    show lexD? [.int 0, .int i, .str ""] [.int 1, .int 0, .str y] = _
    rw [lexD?, if_neg (by decide), ltD?]
    rfl
  | .inr x, .inl j => by
    show lexD? [.int 1, .int 0, .str x] [.int 0, .int j, .str ""] = _
    rw [lexD?, if_neg (by decide), ltD?]
    rfl
  | .inr x, .inr y => by
    show lexD? [.int 1, .int 0, .str x] [.int 1, .int 0, .str y] = _
    rw [lexD?, if_pos (by decide), lexD?, if_pos (by decide), lexD?, eqv_str]
    by_cases h : x = y
    · subst h
      rw [if_pos (by simp), lexD?]
      simp [befK, strLt, List.lt_irrefl]
    · rw [if_neg (by simpa using h), ltD?]
      rfl
end Wy
namespace Wy
open PySem L2
section
variable {P : Program} {w : World} {K : PySem.W.Frag} {mg : Str → Option Value} {base : Heap}
def wholeD : PyData → Bool
  | .int _ => true
  | _ => false
def sp_whole (K : PySem.W.Frag) : Sp := fun vs H Q _ => ∃ x d, vs = [x] ∧ Dat K H d x ∧ Q (.bl (wholeD d)) H
theorem ok_is_whole (T : Txt K mg) : Def P w K mg base 1 "is_whole" ["thing"] (sp_whole K) := by
  refine T.t_is_whole.ok sc_is_whole (fun vs H Q E h => ?_) fun f cdv A outer s H vs Q E hr h => ?_
  · obtain ⟨x, d, rfl, _⟩ := h
    rfl
  · obtain ⟨x, d, rfl, hd, k⟩ := h
    refine ⟨_, (pss_one (ps_ret (pe_and (pe_callB (call_isiD K) rfl T.b_isinstance bt_isinstance (pa_2 (pv 0) (pe_ty rfl T.b_int bt_int))) (pe_one (pe_not (pe_callB (call_isiD K) rfl T.b_isinstance bt_isinstance (pa_2 (pv 0) (pe_ty rfl T.b_bool bt_bool)))))))), ?_⟩
    refine ⟨_, rfl, _, _, _, rfl, hd, by decide, _, rfl, ite2 (fun h1 => ?_) (fun h1 => ?_)⟩
    · refine ⟨_, rfl, _, _, _, rfl, hd, by decide, _, rfl, ?_⟩
      cases hd <;> first | exact k | (exact absurd h1 Bool.false_ne_true)
    · cases hd <;> first | exact k | (exact absurd rfl h1)
def sp_vkey : Sp := fun vs H Q _ => ∃ k : Key, vs = [kV k] ∧ OkK k ∧ ∀ p, H p = none → Q (.ref p) (upd H p (.tup (keyV k)))
theorem ok_value_key (T : Txt K mg) : Def P w K mg base 2 "value_key" ["value"] sp_vkey := by
  refine T.t_value_key.ok sc_value_key (fun vs H Q E h => ?_) fun f cdv A outer s H vs Q E hr h => ?_
  · obtain ⟨k, rfl, _⟩ := h
    rfl
  · obtain ⟨k, rfl, hk, q⟩ := h
    refine ⟨_, (pss_2
      (ps_if (pt_val (pe_def (ok_is_whole T) hr rfl (pa_1 (pv 0)))) (pss_one (ps_ret (pe_tup (pa_3 pe_int (pv 0) pe_str)))) pss_nil)
      (ps_ret (pe_tup (pa_3 pe_int pe_int (pv 0))))), ?_⟩
    refine ⟨_, rfl, _, valD k, rfl, dat_val hk, _, rfl, ?_⟩
    cases k with
    | inl i =>
      refine iteT ?_
      exact ⟨_, rfl, by show 3 ≤ sizeLine; decide, fun p hp => q p hp⟩
    | inr z =>
      refine iteF ?_
      exact ⟨_, rfl, by show 3 ≤ sizeLine; decide, fun p hp => q p hp⟩
end
end Wy
namespace Wy
open PySem L2
def smaS : Str := "abcdefghijklmnopqrstuvwxyz"
theorem len_cap : capS.length = 26 := by decide +kernel
theorem len_sma : smaS.length = 26 := by decide +kernel
def sgn (F : Str) (n x : Int) : Nat := (atI F.cps.toList (x % n)).getD 0
theorem sgn_in {F : Str} {n : Int} (h : (F.length : Int) = n) (h0 : 0 < n) (x : Int) : atI F.cps.toList (x % n) = some (sgn F n x) ∧ sgn F n x ∈ F.cps.toList := by
  obtain ⟨d, hd, hm⟩ := atI_in (xs := F.cps.toList) (i := x % n) (Int.emod_nonneg _ (by lia)) (by rw [len_list, h]; exact Int.emod_lt_of_pos _ h0)
  have : sgn F n x = d := by
    unfold sgn
    rw [hd]
    rfl
  rw [this]
  exact ⟨hd, hm⟩
theorem txtB_of {F z : Str} {c : Nat} {r : List Nat} (e : z.cps.toList = c :: r) (hl : r.length ≤ 11) (hc : c ∈ F.cps.toList) (hr : ∀ d ∈ r, d ∈ fur.cps.toList) : txtB F z = true := by
  have hz := len_list z
  rw [e, List.length_cons] at hz
  rw [txtB_ok (by lia) (by lia), e]
  show (decide (c ∈ F.cps.toList) && r.all fun d => decide (d ∈ fur.cps.toList)) = true
  rw [decide_eq_true hc, Bool.true_and, List.all_eq_true]
  exact fun d hd => decide_eq_true (hr d hd)
theorem cap_lt : ∀ c ∈ capS.cps.toList, c < 0x110000 := by decide +kernel
theorem sma_lt : ∀ c ∈ smaS.cps.toList, c < 0x110000 := by decide +kernel
theorem sma_cap : ∀ c ∈ smaS.cps.toList, c ∉ capS.cps.toList := by decide +kernel
theorem txtB_parts {F z : Str} (h : txtB F z = true) : 1 ≤ z.length ∧ z.length ≤ 12 ∧ ∃ c r, z.cps.toList = c :: r ∧ c ∈ F.cps.toList ∧ ∀ d ∈ r, d ∈ fur.cps.toList := by
  by_cases hl : 1 ≤ z.length ∧ z.length ≤ 12
  · obtain ⟨c, r, e⟩ := split_list hl.1
    rw [txtB_ok hl.1 hl.2, e] at h
    have h' : (decide (c ∈ F.cps.toList) && r.all fun d => decide (d ∈ fur.cps.toList)) = true := h
    rw [Bool.and_eq_true, List.all_eq_true] at h'
    exact ⟨hl.1, hl.2, c, r, e, of_decide_eq_true h'.1, fun d hd => of_decide_eq_true (h'.2 d hd)⟩
  · rw [txtB_len hl] at h
    cases h
theorem txtB_str {F z : Str} (hF : ∀ c ∈ F.cps.toList, c < 0x110000) (h : txtB F z = true) : PyData.strOk z = true := by
  obtain ⟨_, _, c, r, e, hc, hr⟩ := txtB_parts h
  refine strOk_of fun d hd => ?_
  rw [e] at hd
  rcases List.mem_cons.mp hd with rfl | hd
  · exact hF _ hc
  · exact fur_lt d (hr d hd)
def GoodK : Key → Prop
  | .inl _ => True
  | .inr z => txtB smaS z = true
theorem GoodK.tx : ∀ {k : Key}, GoodK k → TxOk k
  | .inl _, _ => True.intro
  | .inr z, h => ⟨Nat.le_trans (txtB_parts h).2.1 (by decide), txtB_str sma_lt h⟩
def TmK (t : Key) : Prop := (∃ z, t = .inr z ∧ txtB capS z = true) ∨ (GoodK t ∧ txtK capS t = false)
theorem GoodK.tm : ∀ {k : Key}, GoodK k → TmK k
  | .inl _, _ => .inr ⟨True.intro, rfl⟩
  | .inr z, h => .inr ⟨h, by
      obtain ⟨h1, h2, c, r, e, hc, _⟩ := txtB_parts h
      show txtB capS z = false
      rw [txtB_ok h1 h2, e]
      show (decide (c ∈ capS.cps.toList) && _) = false
      rw [decide_eq_false (sma_cap c hc), Bool.false_and]⟩
theorem TmK.tx {t : Key} (h : TmK t) : TxOk t := by
  rcases h with ⟨z, rfl, h⟩ | ⟨h, _⟩
  · exact ⟨Nat.le_trans (txtB_parts h).2.1 (by decide), txtB_str cap_lt h⟩
  · exact h.tx
theorem TmK.fst {z : Str} (h : TmK (.inr z)) : ∃ c, z.cps.toList[0]? = some c ∧ z.length ≤ sizeLine ∧ decide (c ∈ capS.cps.toList) = txtK capS (.inr z) := by
  rcases h with ⟨y, e, h⟩ | ⟨h, hn⟩
  · cases e
    obtain ⟨h1, h2, c, r, e, hc, _⟩ := txtB_parts h
    exact ⟨c, by rw [e]; rfl, Nat.le_trans h2 (by decide), by rw [decide_eq_true hc]; exact h.symm⟩
  · obtain ⟨h1, h2, c, r, e, hc, _⟩ := txtB_parts h
    exact ⟨c, by rw [e]; rfl, Nat.le_trans h2 (by decide), by rw [decide_eq_false (sma_cap c hc), hn]⟩
def NmI (F z : Str) (i : Nat) : Prop := (i = 0 ∧ z = "") ∨ ∃ c r, z.cps.toList = c :: r ∧ r.length + 1 = i ∧ c ∈ F.cps.toList ∧ ∀ d ∈ r, d ∈ fur.cps.toList
theorem NmI.one {F : Str} {c : Nat} (h : c ∈ F.cps.toList) : NmI F ⟨#[c]⟩ 1 := .inr ⟨c, [], rfl, rfl, h, fun _ z => nomatch z⟩
theorem NmI.more {F z : Str} {i d : Nat} (h : NmI F z i) (hi : i ≠ 0) (hd : d ∈ fur.cps.toList) : NmI F (z ++ ⟨#[d]⟩) (i + 1) := by
  rcases h with ⟨e, _⟩ | ⟨c, r, e, hl, hc, hr⟩
  · exact absurd e hi
  · refine .inr ⟨c, r ++ [d], by rw [app_list, e]; rfl, by rw [List.length_append]; show r.length + 1 + 1 = _; lia, hc, fun x hx => ?_⟩
    rcases List.mem_append.mp hx with hx | hx
    · exact hr x hx
    · rw [List.mem_singleton.mp hx]
      exact hd
theorem NmI.len {F z : Str} {i : Nat} (h : NmI F z i) : z.length = i := by
  rcases h with ⟨rfl, rfl⟩ | ⟨c, r, e, hl, _⟩
  · rfl
  · rw [← len_list, e, List.length_cons, hl]
theorem NmI.txt {F z : Str} {i : Nat} (h : NmI F z i) (h0 : i ≠ 0) (h12 : i ≤ 12) : txtB F z = true := by
  rcases h with ⟨e, _⟩ | ⟨c, r, e, hl, hc, hr⟩
  · exact absurd e h0
  · exact txtB_of e (by lia) hc hr
theorem sma_fur : ∀ c ∈ smaS.cps.toList, c ∈ fur.cps.toList := by decide +kernel
theorem GoodK.ok : ∀ {k : Key}, GoodK k → OkK k
  | .inl _, _ => True.intro
  | .inr z, h => by
    obtain ⟨h1, h2, c, r, e, hc, hr⟩ := txtB_parts h
    refine ⟨Nat.le_trans h2 (by decide), fun d hd => ?_⟩
    rw [e] at hd
    rcases List.mem_cons.mp hd with rfl | hd
    · exact sma_fur _ hc
    · exact hr d hd
end Wy
namespace Wy
open PySem L2
theorem eqv_key : ∀ a b : Key, PyData.eqv (ordD a) (ordD b) = decide (a = b)
  | .inl i, .inl j => by
    show (PyData.eqv (.int 0) (.int 0) && (PyData.eqv (.int i) (.int j) && (PyData.eqv (.str "") (.str "") && true))) = _
    rw [eqv_int, eqv_int, eqv_str]
    by_cases h : i = j <;> simp [h]
  | .inl i, .inr y => by
    show (PyData.eqv (.int 0) (.int 1) && (PyData.eqv (.int i) (.int 0) && (PyData.eqv (.str "") (.str y) && true))) = _
    rw [eqv_int]
    simp
  | .inr x, .inl j => by
    show (PyData.eqv (.int 1) (.int 0) && (PyData.eqv (.int 0) (.int j) && (PyData.eqv (.str x) (.str "") && true))) = _
    rw [eqv_int]
    simp
  | .inr x, .inr y => by
    show (PyData.eqv (.int 1) (.int 1) && (PyData.eqv (.int 0) (.int 0) && (PyData.eqv (.str x) (.str y) && true))) = _
    rw [eqv_int, eqv_int, eqv_str]
    by_cases h : x = y <;> simp [h]
def rowLt (a b : List Key) : Bool := Tim.lexB befK a b
theorem lt_rows : ∀ a b : List Key, lexD? (a.map ordD) (b.map ordD) = some (rowLt a b)
  | [], [] => by rw [List.map_nil, lexD?]; rfl
  | [], _ :: _ => by rw [List.map_nil, List.map_cons, lexD?]; rfl
  | _ :: _, [] => by rw [List.map_nil, List.map_cons, lexD?]; rfl
  | x :: a, y :: b => by
    rw [List.map_cons, List.map_cons, lexD?, eqv_key, rowLt, Tim.lexB]
    by_cases h : x = y
    · subst h
      rw [if_pos (by simp), if_pos rfl]
      exact lt_rows a b
    · rw [if_neg (by simpa using h), if_neg h]
      exact lt_keys x y
theorem depth_rows (ks : List Key) : PyData.depthAll (ks.map ordD) ≤ 1 := by
  induction ks with
  | nil => exact Nat.zero_le _
  | cons k ks ih => exact Nat.max_le.mpr ⟨Nat.le_of_eq (depth_key k), ih⟩
theorem dats_snoc {K : PySem.W.Frag} {H : Hp} {d : PyData} {x : V} : ∀ {ds : List PyData} {xs : List V}, Dats K H ds xs → Dat K H d x → Dats K H (ds ++ [d]) (xs ++ [x])
  | _, _, .nil, h => .cons h .nil
  | _, _, .cons a b, h => .cons a (dats_snoc b h)
theorem dats_len {K : PySem.W.Frag} {H : Hp} : ∀ {ds : List PyData} {xs : List V}, Dats K H ds xs → ds.length = xs.length
  | _, _, .nil => rfl
  | _, _, .cons a b => by rw [List.length_cons, List.length_cons, dats_len b]
section
variable {P : Program} {w : World} {K : PySem.W.Frag} {mg : Str → Option Value} {base : Heap}
def sp_rkey (K : PySem.W.Frag) : Sp := fun vs H Q _ => ∃ (a : Addr) (ks : List Key), vs = [.ref a] ∧ SqT K H a (ks.map kV) ∧ (∀ k ∈ ks, OkK k) ∧ ks.length ≤ 100 ∧
  ∀ p rs H', Same H H' → H' p = some (.tup rs) → Dats K H' (ks.map ordD) rs → Q (.ref p) H'
theorem ok_row_key (T : Txt K mg) : Def P w K mg base 3 "row_key" ["row"] (sp_rkey K) := by
  refine T.t_row_key.ok sc_row_key (fun vs H Q E h => ?_) fun f cdv A outer s H vs Q E hr h => ?_
  · obtain ⟨a, ks, rfl, _⟩ := h
    rfl
  · obtain ⟨a, ks, rfl, ht, hok, hl, k⟩ := h
    refine ⟨_, (pss_one (ps_ret (pe_callTy (call_tupleK K) rfl T.b_tuple bt_tuple (pa_1 (pe_comp (N := ["value"]) (caps := [none]) rfl (by with_unfolding_all rfl) (pi_tupK K (pv 0)) (fun _ _ _ _ _ => (pg_name (i := 0) (show (["value"] : List Str).Nodup by decide +kernel) rfl (Or.inl rfl))) (fun _ _ _ _ _ => pf_nil) (fun _ _ _ _ _ => (pe_def (ok_value_key T) hr rfl (pa_1 (pv 0))))))))), ?_⟩
    refine ⟨_, rfl, a, rfl, ⟨_, ht⟩, fun D hD => ?_⟩
    refine comp_by (ks.map kV).length (fun i σ' H' => (∃ v, σ' = [v]) ∧ Same H H' ∧ ∃ rs, H' D = some (.lst rs) ∧ ∀ H2, (∀ b o, b ≠ D → H' b = some o → H2 b = some o) → Dats K H2 ((ks.take i).map ordD) rs) ⟨⟨_, rfl⟩, same_upd hD, [], upd_same, fun _ _ => .nil⟩ (fun i σ' H' hi p => ?_) (fun σ' H' p => ⟨?_, ?_⟩) (fun i σ' H' hi p x H2 y => ?_)
    · obtain ⟨_, sm, _⟩ := p
      exact ⟨_, (ks.map kV)[i], sm.seqT ht, List.getElem?_eq_getElem hi⟩
    · obtain ⟨_, sm, _⟩ := p
      exact ⟨_, sm.seqT ht, Nat.le_refl _⟩
    · obtain ⟨_, sm, rs, e, hd⟩ := p
      rw [List.length_map, List.take_length] at hd
      refine ⟨_, _, rfl, .inl ⟨SqL.of e, fun q hq => ?_⟩⟩
      have s2 := same_upd (o := HO.tup rs) hq
      exact k q rs _ (sm.trans s2) upd_same (hd _ fun b o _ hb => s2 b o hb)
    · obtain ⟨⟨v, rfl⟩, sm, rs, e, hd⟩ := p
      obtain ⟨rfl, hx⟩ := y
      have hx' := hx _ (sm.seqT ht)
      rw [List.getElem?_map] at hx'
      obtain ⟨kk, hk, rfl⟩ := Option.map_eq_some_iff.mp hx'
      have hrl : rs.length = min i ks.length := by
        rw [← dats_len (hd _ fun b o _ h => h), List.length_map, List.length_take]
      refine ⟨_, rfl, kk, rfl, hok kk (List.mem_of_getElem? hk), fun q hq => ?_⟩
      have s2 := same_upd (o := HO.tup (keyV kk)) hq
      have hqD : q ≠ D := fun z => by
        rw [z, e] at hq
        cases hq
      refine ⟨_, s2 _ _ e, by rw [hrl]; exact small1000 (by lia), ⟨_, rfl⟩, (sm.trans s2).set hD, rs ++ [.ref q], upd_same, fun H3 h3 => ?_⟩
      rw [List.take_succ, hk, List.map_append]
      refine dats_snoc (hd H3 fun b o hb ho => h3 b o hb ?_) (.tup (SqT.of (h3 q _ hqD (by rw [upd_ne hqD, upd_same]))) (dat_keys (hok kk (List.mem_of_getElem? hk))))
      rw [upd_ne hb]
      exact s2 b o ho
end
end Wy
namespace Wy
open PySem L2
theorem sto_bef : Tim.STO befK := by
  have hs : Tim.STO strLt := sto_str
  refine ⟨fun a => ?_, fun a b c h1 h2 => ?_, fun a b h1 h2 => ?_⟩
  · cases a with
    | inl i => exact decide_eq_false (Int.lt_irrefl i)
    | inr z => exact hs.irr z
  · cases a with
    | inl i =>
      cases c with
      | inr z => rfl
      | inl k =>
        cases b with
        | inr y => cases h2
        | inl j => exact Tim.sto_int.tr i j k h1 h2
    | inr x =>
      cases b with
      | inl j => cases h1
      | inr y =>
        cases c with
        | inl k => cases h2
        | inr z => exact hs.tr x y z h1 h2
  · cases a with
    | inl i =>
      cases b with
      | inl j => exact congrArg Sum.inl (Tim.sto_int.tri i j h1 h2)
      | inr y => cases h1
    | inr x =>
      cases b with
      | inl j => cases h2
      | inr y => exact congrArg Sum.inr (hs.tri x y h1 h2)
theorem sto_row : Tim.STO rowLt := sto_bef.lex
def prLt (a b : PR) : Bool := if a.1 = b.1 then rowLt a.2 b.2 else strLt a.1 b.1
theorem sto_pr : Tim.STO prLt := by
  have hs : Tim.STO strLt := sto_str
  refine ⟨fun a => ?_, fun a b c h1 h2 => ?_, fun a b h1 h2 => ?_⟩
  · unfold prLt
    rw [if_pos rfl]
    exact sto_row.irr _
  · unfold prLt at h1 h2 ⊢
    by_cases e1 : a.1 = b.1
    · rw [if_pos e1] at h1
      by_cases e2 : b.1 = c.1
      · rw [if_pos e2] at h2
        rw [if_pos (e1.trans e2)]
        exact sto_row.tr _ _ _ h1 h2
      · rw [if_neg e2] at h2
        rw [if_neg (fun z => e2 (e1.symm.trans z)), e1]
        exact h2
    · rw [if_neg e1] at h1
      by_cases e2 : b.1 = c.1
      · rw [if_pos e2] at h2
        rw [if_neg (fun z => e1 (z.trans e2.symm)), ← e2]
        exact h1
      · rw [if_neg e2] at h2
        have h3 := hs.tr _ _ _ h1 h2
        rw [if_neg (fun z => by rw [z, hs.irr] at h3; cases h3)]
        exact h3
  · unfold prLt at h1 h2
    by_cases e1 : a.1 = b.1
    · rw [if_pos e1] at h1
      rw [if_pos e1.symm] at h2
      exact Prod.ext e1 (sto_row.tri _ _ h1 h2)
    · rw [if_neg e1] at h1
      rw [if_neg (fun z => e1 z.symm)] at h2
      exact absurd (hs.tri _ _ h1 h2) e1
section
variable {P : Program} {w : World} {K : PySem.W.Frag} {mg : Str → Option Value} {base : Heap}
end
end Wy
namespace Wy
open PySem L2
theorem pos_fur : ∀ c ∈ fur.cps.toList, firstAt later ⟨#[c]⟩ = if c < 58 then (c : Int) - 48 else (c : Int) - 87 := by decide +kernel
theorem rng_fur : ∀ c ∈ fur.cps.toList, (48 ≤ c ∧ c ≤ 57) ∨ (97 ≤ c ∧ c ≤ 122) := by decide +kernel
theorem find_ord {c d : Nat} (hc : c ∈ fur.cps.toList) (hd : d ∈ fur.cps.toList) : decide (firstAt later ⟨#[c]⟩ < firstAt later ⟨#[d]⟩) = decide (c < d) := by
  rw [pos_fur c hc, pos_fur d hd]
  have h1 := rng_fur c hc
  have h2 := rng_fur d hd
  apply decide_eq_decide.mpr
  split <;> split <;> lia
theorem fur128 : ∀ c ∈ fur.cps.toList, c < 128 := by decide +kernel
theorem Wz.asc {n : Nat} {z : Str} (h : Wz n z) : Asc z := fun c hc => fur128 c (h.2 c hc)
theorem sign_eq {c d : Nat} (h : V.str ⟨#[c]⟩ = V.str ⟨#[d]⟩) : c = d := by
  injection h with e
  injection e with e
  simpa using e
theorem str_lt (x y : Str) : strLt x y = Tim.lexB (fun a b : Nat => decide (a < b)) x.cps.toList y.cps.toList := Tim.lex_nat _ _
section
variable {P : Program} {w : World} {K : PySem.W.Frag} {mg : Str → Option Value} {base : Heap}
def sp_vahead : Sp := fun vs H Q _ => ∃ a b : Key, vs = [kV a, kV b] ∧ OkK a ∧ OkK b ∧ ∀ H', Same H H' → Q (.bl (befK a b)) H'
theorem ok__law_value_ahead (T : Txt K mg) : Def P w K mg base 1 "_law_value_ahead" ["_law_one", "_law_other"] sp_vahead := by
  refine T.t__law_value_ahead.ok sc__law_value_ahead (fun vs H Q E h => ?_) fun f cdv A outer s H vs Q E hr h => ?_
  · obtain ⟨a, b, rfl, _⟩ := h
    rfl
  · obtain ⟨a, b, rfl, ha, hb, k⟩ := h
    refine ⟨_, (pss_5
      (ps_if (pt_cmpR op_ne (pe_callB (call_isi K) rfl T.b_isinstance bt_isinstance (pa_2 (pv 0) (pe_ty rfl T.b_str bt_str))) (pe_callB (call_isi K) rfl T.b_isinstance bt_isinstance (pa_2 (pv 1) (pe_ty rfl T.b_str bt_str))) (nomark _)) (pss_one (ps_ret (pe_callB (call_isi K) rfl T.b_isinstance bt_isinstance (pa_2 (pv 1) (pe_ty rfl T.b_str bt_str))))) pss_nil)
      (ps_if (pt_val (pe_callB (call_isi K) rfl T.b_isinstance bt_isinstance (pa_2 (pv 0) (pe_ty rfl T.b_int bt_int)))) (pss_one (ps_ret (pe_cmpR op_lt (pv 0) (pv 1) (nomark _)))) pss_nil)
      (ps_set (i := 2) sc__law_value_ahead.nd rfl (Or.inl rfl) pe_str)
      (ps_for PassesOwn.never rfl (pi_zipS rfl T.b_zip (pa_2 (pv 0) (pv 1))) (pg_tup rfl (pgs_cons (pg_name (i := 3) sc__law_value_ahead.nd rfl (Or.inl rfl)) (pgs_cons (pg_name (i := 4) sc__law_value_ahead.nd rfl (Or.inl rfl)) pgs_nil))) (pss_one (ps_if (pt_cmpR op_ne (pv 3) (pv 4) (nomark _)) (pss_one (ps_ret (pe_cmpR op_lt (pe_bm PySem.F.plainAttrs_str PySem.F.slot_str_find PySem.F.type_str_find mt_find (pv 2) (pa_1 (pv 3))) (pe_bm PySem.F.plainAttrs_str PySem.F.slot_str_find PySem.F.type_str_find mt_find (pv 2) (pa_1 (pv 4))) (nomark _)))) pss_nil)))
      (ps_ret (pe_cmpR op_lt (pe_callB (call_lenK K) rfl T.b_len bt_len (pa_1 (pv 0))) (pe_callB (call_lenK K) rfl T.b_len bt_len (pa_1 (pv 1))) (nomark _)))), ?_⟩
    have k0 := k H (Same.refl H)
    cases a with
    | inl i =>
      cases b with
      | inl j =>
        refine ⟨_, rfl, _, _, _, rfl, .int i, by decide, by decide, _, rfl, _, _, _, rfl, .int j, by decide, by decide, rfl, _, rfl, iteFb rfl ?_⟩
        exact ⟨_, rfl, _, _, _, rfl, .int i, by decide, by decide, _, rfl, iteTb rfl ⟨_, rfl, _, rfl, _, _, rfl, rfl, k0⟩⟩
      | inr y =>
        refine ⟨_, rfl, _, _, _, rfl, .int i, by decide, by decide, _, rfl, _, _, _, rfl, .str y, by decide, by decide, rfl, _, rfl, iteTb rfl ?_⟩
        exact ⟨_, rfl, _, _, _, rfl, .str y, by decide, by decide, k0⟩
    | inr x =>
      cases b with
      | inl j =>
        refine ⟨_, rfl, _, _, _, rfl, .str x, by decide, by decide, _, rfl, _, _, _, rfl, .int j, by decide, by decide, rfl, _, rfl, iteTb rfl ?_⟩
        exact ⟨_, rfl, _, _, _, rfl, .int j, by decide, by decide, k0⟩
      | inr y =>
        have hx : Wz 40 x := ha
        have hy : Wz 40 y := hb
        have xs : x.length ≤ sizeLine := Nat.le_trans hx.1 (by decide)
        have ys : y.length ≤ sizeLine := Nat.le_trans hy.1 (by decide)
        have k : ∀ H', Same H H' → Q (.bl (strLt x y)) H' := k
        refine ⟨_, rfl, _, _, _, rfl, .str x, by decide, by decide, _, rfl, _, _, _, rfl, .str y, by decide, by decide, rfl, _, rfl, iteFb rfl ?_⟩
        refine ⟨_, rfl, _, _, _, rfl, .str x, by decide, by decide, _, rfl, iteFb rfl ?_⟩
        refine ⟨_, rfl, _, rfl, x, y, rfl, hx.asc, hy.asc, for_zipS (fun i σ H' => ∃ (v1 v2 : Option V), σ = [some (.str x), some (.str y), some (.str later), v1, v2] ∧ Same H H' ∧ x.cps.toList.take i = y.cps.toList.take i) ⟨none, none, rfl, Same.refl _, rfl⟩ ?_ ?_⟩
        · rintro i c d p σ H1 hc hd hp ⟨v1, v2, rfl, sm, et⟩
          have gx : x.cps.toList[i]? = some c := by rw [Array.getElem?_toList]; exact hc
          have gy : y.cps.toList[i]? = some d := by rw [Array.getElem?_toList]; exact hd
          have s3 := same_upd (o := HO.tup [.str ⟨#[c]⟩, .str ⟨#[d]⟩]) hp
          refine ⟨p, _, rfl, SqT.of upd_same, rfl, _, _, rfl, _, _, rfl, rfl, ?_⟩
          refine ⟨_, rfl, _, rfl, rfl, _, rfl, ite2 (fun h => ?_) (fun h => ?_)⟩
          · have hn : c ≠ d := fun e => by
              subst e
              rw [decide_eq_true rfl] at h
              cases h
            have k1 := k _ (sm.trans s3)
            rw [str_lt, Tim.lexB_at i _ _ _ _ et gx gy hn, ← find_ord (hx.2 _ (List.mem_of_getElem? gx)) (hy.2 _ (List.mem_of_getElem? gy))] at k1
            exact ⟨_, rfl, rfl, _, rfl, later, _, rfl, rfl, _, rfl, rfl, _, rfl, later, _, rfl, rfl, _, _, rfl, rfl, k1⟩
          · have he : c = d := by
              by_cases e : c = d
              · exact e
              · exact absurd (by rw [decide_eq_false fun z => e (sign_eq z)]; rfl) h
            refine ⟨_, _, rfl, sm.trans s3, ?_⟩
            rw [List.take_succ, List.take_succ, et, gx, gy, he]
        · rintro σ H1 ⟨v1, v2, rfl, sm, et⟩
          have k1 := k _ sm
          rw [str_lt, Tim.lexB_end _ _ (by rw [len_list, len_list]; exact et), len_list, len_list] at k1
          have e2 : decide ((x.length : Int) < (y.length : Int)) = decide (x.length < y.length) := decide_eq_decide.mpr (by lia)
          rw [← e2] at k1
          exact ⟨_, rfl, _, _, rfl, ⟨xs, rfl⟩, _, rfl, _, _, rfl, ⟨ys, rfl⟩, _, _, rfl, rfl, k1⟩
theorem kV_scal (a b : Key) : scal (kV a) (kV b) = true := by cases a <;> cases b <;> rfl
end
end Wy
namespace Wy
open PySem L2
section
variable {P : Program} {w : World} {K : PySem.W.Frag} {mg : Str → Option Value} {base : Heap}
def sp_name : Sp := fun vs H Q _ => ∃ (c p k : Int) (F : Str), vs = [.int c, .int p, .int k, .str F] ∧ F.length = 26 ∧ ∀ z H', Same H H' → txtB F z = true → Q (.str z) H'
theorem ok__law_name (T : Txt K mg) : Def P w K mg base 1 "_law_name" ["_law_cell", "_law_place", "_law_k", "_law_first"] sp_name := by
  refine T.t__law_name.ok sc__law_name (fun vs H Q E h => ?_) fun f cdv A outer s H vs Q E hr h => ?_
  · obtain ⟨c, p, k, F, rfl, _⟩ := h
    rfl
  · obtain ⟨c, p, k, F, rfl, hF, q⟩ := h
    have lla : later.length ≤ sizeLine := by rw [len_later]; decide
    have lF : F.length ≤ sizeLine := by rw [hF]; decide
    have pl := sgn_in (F := later) (n := 36) (by rw [len_later]; rfl) (by decide)
    have pF := sgn_in (F := F) (n := 26) (by rw [hF]; rfl) (by decide)
    have m0 := Int.emod_nonneg c (show (12 : Int) ≠ 0 by decide)
    have m1 := Int.emod_lt_of_pos c (show (0 : Int) < 12 by decide)
    refine ⟨_, (pss_6
      (ps_set (i := 4) sc__law_name.nd rfl (Or.inl rfl) pe_str)
      (ps_set (i := 5) sc__law_name.nd rfl (Or.inl rfl) (pe_op op_add pe_int (pe_op op_mod (pv 0) pe_int)))
      (ps_set (i := 6) sc__law_name.nd rfl (Or.inl rfl) (pe_op op_mod (pv 1) (pv 5)))
      (ps_set (i := 7) sc__law_name.nd rfl (Or.inl rfl) pe_str)
      (ps_for PassesOwn.never rfl (pi_range1 rfl T.b_range (pa_1 (pv 5))) (pg_name (i := 8) sc__law_name.nd rfl (Or.inl rfl)) (pss_2
      (ps_set (i := 9) sc__law_name.nd rfl (Or.inl rfl) (pe_op op_add (pe_op op_add (pe_op op_fdiv (pv 0) (pe_op op_add (pv 8) pe_int)) (pe_op op_mul pe_int (pv 8))) (pe_op op_mul (pe_op op_mul (pe_callTy call_int1 rfl T.b_int bt_int (pa_1 (pe_cmpR op_eq (pv 8) (pv 6) (nomark _)))) (pv 2)) (pe_ix (ix_listK K) (pe_lst (pa_4 pe_int pe_int pe_int pe_int)) (pe_op op_mod (pe_op op_fdiv (pv 1) pe_int) pe_int) (fun _ _ => rfl)))))
      (ps_if (pt_cmpR op_eq (pv 8) pe_int (nomark _)) (pss_one (ps_set (i := 7) sc__law_name.nd rfl (Or.inl rfl) (pe_ix ix_str (pv 3) (pe_op op_mod (pv 9) pe_int) (fun _ _ => rfl)))) (pss_one (ps_set (i := 7) sc__law_name.nd rfl (Or.inl rfl) (pe_op op_add_str (pv 7) (pe_ix ix_str (pv 4) (pe_op op_mod (pv 9) pe_int) (fun _ _ => rfl))))))))
      (ps_ret (pv 7))), ?_⟩
    refine ⟨_, rfl, _, _, rfl, rfl, (by show (0 : Int) < 12; decide), _, _, rfl, rfl, ?_⟩
    refine ⟨_, rfl, _, rfl, _, _, rfl, rfl, (by show 0 < 1 + c % 12; lia), ?_⟩
    refine ⟨_, rfl, _, rfl, by lia, by lia, for_range (lo := 0) (n := (1 + c % 12).toNat) (fun i σ H' => ∃ (v1 v2 : Option V) (z : Str), σ = [some (.int c), some (.int p), some (.int k), some (.str F), some (.str later), some (.int (1 + c % 12)), some (.int (p % (1 + c % 12))), some (.str z), v1, v2] ∧ Same H H' ∧ NmI F z i) ⟨none, none, "", rfl, Same.refl _, .inl ⟨rfl, rfl⟩⟩ ?_ ?_⟩
    · rintro i σ H1 hi ⟨v1, v2, z, rfl, sm, nz⟩
      have zl := nz.len
      refine ⟨_, rfl, _, rfl, _, _, rfl, rfl, _, _, rfl, rfl, ⟨by show (0 : Int) < 0 + (i : Int) + 2; lia, by show 0 + (i : Int) + 2 < 1073741824; lia⟩, _, rfl, _, _, rfl, rfl, .inl ⟨by decide, by decide⟩, _, _, rfl, rfl, _, rfl, _, rfl, rfl, .inr ⟨_, rfl, _, rfl, _, _, rfl, rfl, .inl ⟨by split <;> decide, by split <;> decide⟩, by show 4 ≤ sizeLine; decide, fun L hL => ?_⟩⟩
      have u1 := same_upd (o := HO.lst [V.int 1, V.int 5, V.int 7, V.int 11]) hL
      obtain ⟨v, hat, hv⟩ := atI_in (xs := [V.int 1, V.int 5, V.int 7, V.int 11]) (i := p / 12 % 4) (Int.emod_nonneg _ (by decide)) (Int.emod_lt_of_pos _ (by decide))
      obtain ⟨n, rfl, n0, n1⟩ : ∃ n : Int, v = .int n ∧ 0 ≤ n ∧ n ≤ 11 := by
        simp only [List.mem_cons, List.not_mem_nil, or_false] at hv
        rcases hv with rfl | rfl | rfl | rfl
        · exact ⟨1, rfl, by decide, by decide⟩
        · exact ⟨5, rfl, by decide, by decide⟩
        · exact ⟨7, rfl, by decide, by decide⟩
        · exact ⟨11, rfl, by decide, by decide⟩
      refine ⟨_, rfl, _, _, rfl, rfl, ⟨by decide, by decide⟩, _, _, rfl, rfl, (by show (0 : Int) < 4; decide), _, _, _, _, rfl, rfl, SqL.of upd_same, hat, _, _, rfl, rfl, .inr ⟨by lia, by lia⟩, _, _, rfl, rfl, ?_⟩
      refine ⟨_, rfl, rfl, _, rfl, ite2 (fun h => ?_) (fun h => ?_)⟩
      · have i0 : i = 0 := by
          have := of_decide_eq_true h
          injection this with e
          lia
        subst i0
        exact ⟨_, rfl, _, rfl, _, _, rfl, rfl, (by show (0 : Int) < 26; decide), _, _, _, rfl, rfl, lF, (pF _).1, _, _, _, rfl, sm.trans u1, NmI.one (pF _).2⟩
      · have i0 : i ≠ 0 := fun e => by
          subst e
          exact h (by decide)
        refine ⟨_, rfl, _, rfl, _, rfl, _, _, rfl, rfl, (by show (0 : Int) < 36; decide), _, _, _, rfl, rfl, lla, (pl _).1, _, _, rfl, rfl, ?_, ?_⟩
        · rw [zl]
          show i + 1 ≤ _
          exact Nat.le_trans (show i + 1 ≤ 1000 by lia) (by decide)
        · exact ⟨_, _, _, rfl, sm.trans u1, nz.more i0 (later_fur _ (pl _).2)⟩
    · rintro σ H1 ⟨v1, v2, z, rfl, sm, nz⟩
      exact ⟨_, rfl, q z _ sm (nz.txt (by lia) (by lia))⟩
end
end Wy
namespace Wy
open PySem L2
section
variable {P : Program} {w : World} {K : PySem.W.Frag} {mg : Str → Option Value} {base : Heap}
structure OneV (K : PySem.W.Frag) (H : Hp) (x : V) (tb : Str) (r : List Key) (th : V) : Prop where
  ex : ∃ a b, x = .ref a ∧ SqT K H a [.str tb, .ref b, th] ∧ SqT K H b (r.map kV)
theorem OneV.same {H H' : Hp} {x : V} {tb : Str} {r : List Key} {th : V} (h : OneV K H x tb r th) (s : Same H H') : OneV K H' x tb r th := by
  obtain ⟨a, b, e, h1, h2⟩ := h.ex
  exact ⟨a, b, e, s.seqT h1, s.seqT h2⟩
def sp_ahd (K : PySem.W.Frag) : Sp := fun vs H Q _ => ∃ (x y : V) (tx ty : Str) (rx ry : List Key) (hx hy : V), vs = [x, y] ∧ OneV K H x tx rx hx ∧ OneV K H y ty ry hy ∧ GoodK (.inr tx) ∧ GoodK (.inr ty) ∧ (∀ k ∈ rx, GoodK k) ∧ (∀ k ∈ ry, GoodK k) ∧ ∀ H', Same H H' → Q (.bl (prLt (tx, rx) (ty, ry))) H'
theorem ok__law_ahead (T : Txt K mg) : Def P w K mg base 2 "_law_ahead" ["_law_one", "_law_other"] (sp_ahd K) := by
  refine T.t__law_ahead.ok sc__law_ahead (fun vs H Q E h => ?_) fun f cdv A outer s H vs Q E hr h => ?_
  · obtain ⟨x, y, tx, ty, rx, ry, hx, hy, rfl, _⟩ := h
    rfl
  · obtain ⟨x, y, tx, ty, ks, js, hx, hy, rfl, ⟨a, pa, rfl, ha1, ha⟩, ⟨b, pb, rfl, hb1, hb⟩, g1, g2, o1, o2, k⟩ := h
    refine ⟨_, (pss_3
      (ps_if (pt_cmpR op_ne (pe_ix (ix_tupK K) (pv 0) pe_int (fun _ _ => rfl)) (pe_ix (ix_tupK K) (pv 1) pe_int (fun _ _ => rfl)) (nomark _)) (pss_one (ps_ret (pe_def (ok__law_value_ahead T) hr rfl (pa_2 (pe_ix (ix_tupK K) (pv 0) pe_int (fun _ _ => rfl)) (pe_ix (ix_tupK K) (pv 1) pe_int (fun _ _ => rfl)))))) pss_nil)
      (ps_for PassesOwn.never rfl (pi_zip K rfl T.b_zip (pa_2 (pe_ix (ix_tupK K) (pv 0) pe_int (fun _ _ => rfl)) (pe_ix (ix_tupK K) (pv 1) pe_int (fun _ _ => rfl)))) (pg_tup rfl (pgs_cons (pg_name (i := 2) sc__law_ahead.nd rfl (Or.inl rfl)) (pgs_cons (pg_name (i := 3) sc__law_ahead.nd rfl (Or.inl rfl)) pgs_nil))) (pss_one (ps_if (pt_cmpR op_ne (pv 2) (pv 3) (nomark _)) (pss_one (ps_ret (pe_def (ok__law_value_ahead T) hr rfl (pa_2 (pv 2) (pv 3))))) pss_nil)))
      (ps_ret (pe_cmpR op_lt (pe_callB (call_lenK K) rfl T.b_len bt_len (pa_1 (pe_ix (ix_tupK K) (pv 0) pe_int (fun _ _ => rfl)))) (pe_callB (call_lenK K) rfl T.b_len bt_len (pa_1 (pe_ix (ix_tupK K) (pv 1) pe_int (fun _ _ => rfl)))) (nomark _)))), ?_⟩
    refine ⟨_, rfl, _, _, _, _, rfl, rfl, ha1, atI_nat (j := 0) rfl, _, rfl, _, _, _, _, rfl, rfl, hb1, atI_nat (j := 0) rfl, kV_scal (.inr tx) (.inr ty), _, rfl, ite2 (fun h => ?_) (fun h => ?_)⟩
    · have hn : tx ≠ ty := fun e => by
        rw [e, decide_eq_true rfl] at h
        cases h
      refine ⟨_, rfl, _, _, _, _, rfl, rfl, ha1, atI_nat (j := 0) rfl, _, rfl, _, _, _, _, rfl, rfl, hb1, atI_nat (j := 0) rfl, .inr tx, .inr ty, rfl, g1.ok, g2.ok, fun H' s' => ?_⟩
      have k1 := k H' s'
      unfold prLt at k1
      rw [if_neg hn] at k1
      exact k1
    · have he : tx = ty := by
        by_cases e : tx = ty
        · exact e
        · exact absurd (by rw [decide_eq_false fun z => e (by injection z)]; rfl) h
      have k : ∀ H', Same H H' → Q (.bl (rowLt ks js)) H' := fun H' s' => by
        have := k H' s'
        unfold prLt at this
        rw [if_pos he] at this
        exact this
      refine ⟨_, rfl, _, _, _, _, rfl, rfl, ha1, atI_nat (j := 1) rfl, _, rfl, _, _, _, _, rfl, rfl, hb1, atI_nat (j := 1) rfl, pa, pb, rfl, ⟨_, ha⟩, ⟨_, hb⟩, for_zip (xs := ks.map kV) (ys := js.map kV) (fun i σ H' => ∃ (v1 v2 : Option V), σ = [some (.ref a), some (.ref b), v1, v2] ∧ Same H H' ∧ ks.take i = js.take i) ⟨none, none, rfl, Same.refl _, rfl⟩ (fun i σ H' _ p => by obtain ⟨_, _, _, z, _⟩ := p; exact ⟨z.seqT ha, z.seqT hb⟩) ?_ ?_⟩
      · rintro i x y p σ H1 hx hy hp ⟨v1, v2, rfl, sm, et⟩
        rw [List.getElem?_map] at hx hy
        obtain ⟨t, ht, rfl⟩ := Option.map_eq_some_iff.mp hx
        obtain ⟨u, hu, rfl⟩ := Option.map_eq_some_iff.mp hy
        have s3 := same_upd (o := HO.tup [kV t, kV u]) hp
        refine ⟨p, _, rfl, SqT.of upd_same, rfl, _, _, rfl, _, _, rfl, rfl, ?_⟩
        refine ⟨_, rfl, _, rfl, kV_scal t u, _, rfl, ite2 (fun h => ?_) (fun h => ?_)⟩
        · have hn : t ≠ u := fun e => by
            subst e
            rw [decide_eq_true rfl] at h
            cases h
          refine ⟨_, rfl, _, rfl, t, u, rfl, (o1 t (List.mem_of_getElem? ht)).ok, (o2 u (List.mem_of_getElem? hu)).ok, fun H' s' => ?_⟩
          have k1 := k _ (sm.trans (s3.trans s'))
          rw [rowLt, Tim.lexB_at i _ _ _ _ et ht hu hn] at k1
          exact k1
        · have he : t = u := by
            by_cases e : t = u
            · exact e
            · exact absurd (by rw [decide_eq_false fun z => e (kV_inj z)]; rfl) h
          refine ⟨_, _, rfl, sm.trans s3, ?_⟩
          rw [List.take_succ, List.take_succ, et, ht, hu, he]
      · rintro σ H1 ⟨v1, v2, rfl, sm, et⟩
        rw [List.length_map, List.length_map] at et
        have k1 := k _ sm
        rw [rowLt, Tim.lexB_end _ _ et] at k1
        have e2 : decide ((ks.length : Int) < (js.length : Int)) = decide (ks.length < js.length) := decide_eq_decide.mpr (by lia)
        rw [← e2] at k1
        exact ⟨_, rfl, _, _, _, _, rfl, rfl, sm.seqT ha1, atI_nat (j := 1) rfl, _, _, rfl, .inr ⟨_, sm.seqT ha, by rw [List.length_map]⟩, _, rfl, _, _, _, _, rfl, rfl, sm.seqT hb1, atI_nat (j := 1) rfl, _, _, rfl, .inr ⟨_, sm.seqT hb, by rw [List.length_map]⟩, _, _, rfl, rfl, k1⟩
end
end Wy
namespace Wy
open PySem L2
section
variable {K : PySem.W.Frag}
theorem dl_len {H : Hp} : ∀ {ds : List PyData} {xs : List V}, Dats K H ds xs → ds.length = xs.length
  | _, _, .nil => rfl
  | _, _, .cons a b => by rw [List.length_cons, List.length_cons, dl_len b]
theorem dl_drop {H : Hp} : ∀ {ds : List PyData} {xs : List V} (a : Nat), Dats K H ds xs → Dats K H (ds.drop a) (xs.drop a)
  | _, _, 0, h => h
  | _, _, _ + 1, .nil => .nil
  | _, _, a + 1, .cons _ h => dl_drop a h
theorem dl_take {H : Hp} : ∀ {ds : List PyData} {xs : List V} (a : Nat), Dats K H ds xs → Dats K H (ds.take a) (xs.take a)
  | _, _, 0, _ => .nil
  | _, _, _ + 1, .nil => .nil
  | _, _, a + 1, .cons d h => .cons d (dl_take a h)
theorem dl_map {α : Type} {H : Hp} (f : α → PyData) (g : α → V) : ∀ {es : List α}, (∀ e ∈ es, Dat K H (f e) (g e)) → Dats K H (es.map f) (es.map g)
  | [], _ => .nil
  | e :: es, h => .cons (h e (List.mem_cons_self ..)) (dl_map f g fun x hx => h x (List.mem_cons_of_mem _ hx))
def cutD (ds : List PyData) (lo hi : Option Int) : List PyData := (ds.drop (HT.sIx ds.length 0 lo)).take (HT.sIx ds.length ds.length hi - HT.sIx ds.length 0 lo)
theorem dl_cut {H : Hp} {ds : List PyData} {xs : List V} (lo hi : Option Int) (h : Dats K H ds xs) : Dats K H (cutD ds lo hi) (cutV xs lo hi) := by
  unfold cutD cutV
  rw [dl_len h]
  exact dl_take _ (dl_drop _ h)
theorem cutD_len (ds : List PyData) (lo hi : Option Int) : (cutD ds lo hi).length ≤ ds.length := by
  unfold cutD
  rw [List.length_take, List.length_drop]
  lia
theorem cutD_mem {ds : List PyData} {lo hi : Option Int} {d : PyData} (h : d ∈ cutD ds lo hi) : d ∈ ds := List.mem_of_mem_drop (List.mem_of_mem_take h)
theorem depth_all {n : Nat} : ∀ {ds : List PyData}, (∀ d ∈ ds, d.depth ≤ n) → PyData.depthAll ds ≤ n
  | [], _ => Nat.zero_le _
  | d :: ds, h => Nat.max_le.mpr ⟨h d (List.mem_cons_self ..), depth_all fun x hx => h x (List.mem_cons_of_mem _ hx)⟩
theorem depth_kd (k : Key) : (keyD k).depth = 0 := by cases k <;> rfl
theorem depth_keys (r : List Key) : (PyData.tuple (r.map keyD)).depth ≤ 1 := by
  refine Nat.succ_le_succ (depth_all fun d hd => ?_)
  obtain ⟨k, _, rfl⟩ := List.mem_map.mp hd
  exact Nat.le_of_eq (depth_kd k)
def ThOk (d : PyData) : Prop := d.depth ≤ 5 ∧ ((∃ ds, d = .list ds ∧ ds.length ≤ 2) ∨ d = .none ∨ (∃ b, d = .bool b) ∨ ∃ i, d = .int i)
theorem ThOk.ls {ds : List PyData} (h : ds.length ≤ 2) (hd : ∀ d ∈ ds, d.depth ≤ 4) : ThOk (.list ds) := ⟨Nat.succ_le_succ (depth_all hd), .inl ⟨ds, rfl, h⟩⟩
abbrev RowT := Str × List Key × PyData
abbrev PairT := List Key × PyData
structure RowOk (e : RowT) : Prop where
  tb : txtB smaS e.1 = true
  ks : ∀ k ∈ e.2.1, GoodK k
  len : e.2.1.length ≤ 4
  th : ThOk e.2.2
structure PairOk (e : PairT) : Prop where
  ks : ∀ k ∈ e.1, GoodK k
  len : e.1.length ≤ 4
  th : ThOk e.2
theorem RowOk.pair {e : RowT} (h : RowOk e) : PairOk e.2 := ⟨h.ks, h.len, h.th⟩
def keyR (e : RowT) : PR := (e.1, e.2.1)
def SrtR (rs : List RowT) : Prop := rs.Pairwise fun x y => prLt (keyR x) (keyR y) = true
theorem ins_srt {es : List (V × RowT)} {x : V × RowT} {j : Nat} (h : SrtR (es.map (·.2))) (h1 : ∀ e ∈ es.take j, prLt (keyR e.2) (keyR x.2) = true) (h2 : ∀ e ∈ es.drop j, prLt (keyR x.2) (keyR e.2) = true) : SrtR ((es.take j ++ x :: es.drop j).map (·.2)) := by
  have h : es.Pairwise fun x y => prLt (keyR x.2) (keyR y.2) = true := List.pairwise_map.mp h
  refine List.pairwise_map.mpr (List.pairwise_append.mpr ⟨h.sublist (List.take_sublist _ _), List.pairwise_cons.mpr ⟨h2, h.sublist (List.drop_sublist _ _)⟩, fun a ha b hb => ?_⟩)
  rcases List.mem_cons.mp hb with rfl | hb
  · exact h1 a ha
  · rw [← List.take_append_drop j es] at h
    exact (List.pairwise_append.mp h).2.2 a ha b hb
theorem drop_lt {es : List (V × RowT)} {e : V × RowT} {p : PR} {j : Nat} (h : SrtR (es.map (·.2))) (he : es[j]? = some e) (hp : prLt p (keyR e.2) = true) : ∀ z ∈ es.drop j, prLt p (keyR z.2) = true := fun z hz => by
  have h : es.Pairwise fun x y => prLt (keyR x.2) (keyR y.2) = true := List.pairwise_map.mp h
  obtain ⟨hj, ej⟩ := List.getElem?_eq_some_iff.mp he
  rw [List.drop_eq_getElem_cons hj, ej] at hz
  rcases List.mem_cons.mp hz with rfl | hz
  · exact hp
  · have h2 := h.sublist (List.drop_sublist j es)
    rw [List.drop_eq_getElem_cons hj, ej] at h2
    exact sto_pr.tr _ _ _ hp ((List.pairwise_cons.mp h2).1 z hz)
def rowD (e : RowT) : PyData := .tuple [.str e.1, .tuple (e.2.1.map keyD), e.2.2]
def pairD (e : PairT) : PyData := .tuple [.tuple (e.1.map keyD), e.2]
theorem RowOk.depth {e : RowT} (h : RowOk e) : (rowD e).depth ≤ 10 := by
  refine Nat.succ_le_succ (depth_all fun d hd => ?_)
  simp only [List.mem_cons, List.not_mem_nil, or_false] at hd
  rcases hd with rfl | rfl | rfl
  · exact Nat.zero_le _
  · exact Nat.le_trans (depth_keys _) (by decide)
  · exact Nat.le_trans h.th.1 (by decide)
theorem PairOk.depth {e : PairT} (h : PairOk e) : (pairD e).depth ≤ 10 := by
  refine Nat.succ_le_succ (depth_all fun d hd => ?_)
  simp only [List.mem_cons, List.not_mem_nil, or_false] at hd
  rcases hd with rfl | rfl
  · exact Nat.le_trans (depth_keys _) (by decide)
  · exact Nat.le_trans h.th.1 (by decide)
def RowV (K : PySem.W.Frag) (H : Hp) (x : V) (e : RowT) : Prop := ∃ v, OneV K H x e.1 e.2.1 v ∧ Dat K H e.2.2 v
theorem RowV.same {H H' : Hp} {x : V} {e : RowT} (h : RowV K H x e) (s : Same H H') : RowV K H' x e := by
  obtain ⟨v, o, d⟩ := h
  exact ⟨v, o.same s, Dat.same s _ _ d⟩
theorem dat_keys5 {H : Hp} {b : Addr} {r : List Key} (h : SqT K H b (r.map kV)) (hk : ∀ k ∈ r, GoodK k) : Dat K H (.tuple (r.map keyD)) (.ref b) := .tup h (dl_map _ _ fun k hm => dat_tx (hk k hm).tx)
theorem RowV.dat {H : Hp} {x : V} {e : RowT} (h : RowV K H x e) (o : RowOk e) : Dat K H (rowD e) x := by
  obtain ⟨v, ⟨a, b, rfl, ha, hb⟩, d⟩ := h
  exact .tup ha (.cons (.str _ (txtB_str sma_lt o.tb)) (.cons (dat_keys5 hb o.ks) (.cons d .nil)))
def PairV5 (K : PySem.W.Frag) (H : Hp) (x : V) (e : PairT) : Prop := ∃ a b v, x = .ref a ∧ SqT K H a [.ref b, v] ∧ SqT K H b (e.1.map kV) ∧ Dat K H e.2 v
theorem PairV5.same {H H' : Hp} {x : V} {e : PairT} (h : PairV5 K H x e) (s : Same H H') : PairV5 K H' x e := by
  obtain ⟨a, b, v, rfl, h1, h2, d⟩ := h
  exact ⟨a, b, v, rfl, s.seqT h1, s.seqT h2, Dat.same s _ _ d⟩
theorem PairV5.dat {H : Hp} {x : V} {e : PairT} (h : PairV5 K H x e) (o : PairOk e) : Dat K H (pairD e) x := by
  obtain ⟨a, b, v, rfl, h1, h2, d⟩ := h
  exact .tup h1 (.cons (dat_keys5 h2 o.ks) (.cons d .nil))
def off (D : Addr) (H : Hp) : Hp := fun b => if b = D then none else H b
theorem off_ne {D b : Addr} {H : Hp} (h : b ≠ D) : off D H b = H b := if_neg h
theorem off_at {D : Addr} {H : Hp} : off D H D = none := if_pos rfl
theorem off_same (D : Addr) (H : Hp) : Same (off D H) H := fun b o e => by
  by_cases h : b = D
  · subst h
    rw [off_at] at e
    cases e
  · rw [off_ne h] at e
    exact e
theorem off_mono {D : Addr} {H H' : Hp} (s : Same H H') : Same (off D H) (off D H') := fun b o e => by
  by_cases h : b = D
  · subst h
    rw [off_at] at e
    cases e
  · rw [off_ne h] at e ⊢
    exact s b o e
theorem same_off {D : Addr} {H H' : Hp} (s : Same H H') (h : H D = none) : Same H (off D H') := fun b o e => by
  by_cases hb : b = D
  · subst hb
    rw [h] at e
    cases e
  · rw [off_ne hb]
    exact s b o e
theorem off_upd {D : Addr} {H : Hp} {o : HO} : off D (upd H D o) = off D H := by
  funext b
  by_cases h : b = D
  · subst h
    rw [off_at, off_at]
  · rw [off_ne h, off_ne h, upd_ne h]
theorem off_set {D a : Addr} {H : Hp} {o : HO} (n : a ≠ D) : off D (upd H a o) = upd (off D H) a o := by
  funext b
  by_cases h : b = D
  · subst h
    rw [off_at, upd_ne n.symm, off_at]
  · rw [off_ne h]
    by_cases e : b = a
    · subst e
      rw [upd_same, upd_same]
    · rw [upd_ne e, upd_ne e, off_ne h]
theorem off_none {D a : Addr} {H : Hp} (h : H a = none) : off D H a = none := by
  by_cases e : a = D
  · subst e
    exact off_at
  · rw [off_ne e]
    exact h
end
end Wy
namespace Wy
open PySem L2
section
variable {P : Program} {w : World} {K : PySem.W.Frag} {mg : Str → Option Value} {base : Heap}
def sp_thing (K : PySem.W.Frag) : Sp := fun vs H Q _ => ∃ (way x c : Int) (z : Str), vs = [.int way, .int x, .int c, .str z] ∧ txtB smaS z = true ∧ ∀ v d H', Same H H' → (∀ L, H L ≠ none → Dat K (off L H') d v) → ThOk d → Q v H'
theorem ok__law_thing (T : Txt K mg) : Def P w K mg base 1 "_law_thing" ["_law_way", "_law_x", "_law_cell", "_law_name_here"] (sp_thing K) := by
  refine T.t__law_thing.ok sc__law_thing (fun vs H Q E h => ?_) fun f cdv A outer s H vs Q E hr h => ?_
  · obtain ⟨way, x, c, z, rfl, _⟩ := h
    rfl
  · obtain ⟨way, x, c, z, rfl, hz, q⟩ := h
    have oz := txtB_str sma_lt hz
    refine ⟨_, (pss_6
      (ps_set (i := 4) sc__law_thing.nd rfl (Or.inl rfl) (pe_op op_sub (pe_op op_mod (pv 2) (pe_op op_pow pe_int pe_int)) (pe_op op_mod (pv 1) pe_int)))
      (ps_if (pt_cmpR op_eq (pv 0) pe_int (nomark _)) (pss_one (ps_ret (pe_slice (sl_listK K) (pe_lst (pa_2 (pe_tup (pa_2 (pe_tup (pa_1 (pv 3))) (pe_op op_add pe_int (pe_op op_mod (pe_op op_fdiv (pv 1) pe_int) pe_int)))) (pe_tup (pa_2 (pe_tup (pa_2 (pv 3) (pv 3))) (pe_op op_add pe_int (pe_op op_mod (pv 2) (pe_op op_pow pe_int pe_int))))))) po_none (po_some (pe_op op_add pe_int (pe_op op_mod (pe_op op_fdiv (pv 1) pe_int) pe_int)))))) pss_nil)
      (ps_if (pt_cmpR op_eq (pv 0) pe_int (nomark _)) (pss_one (ps_ret (pe_slice (sl_listK K) (pe_lst (pa_2 (pv 4) (pe_op op_add (pv 4) (pe_op op_mod (pv 1) pe_int)))) po_none (po_some (pe_op op_mod (pe_op op_fdiv (pv 1) pe_int) pe_int))))) pss_nil)
      (ps_if (pt_cmpR op_eq (pv 0) pe_int (nomark _)) (pss_one (ps_ret (pe_cmpR op_eq (pe_op op_mod (pe_op op_fdiv (pv 1) pe_int) pe_int) pe_int (nomark _)))) pss_nil)
      (ps_if (pt_cmpR op_eq (pe_op op_mod (pe_op op_fdiv (pv 1) pe_int) pe_int) pe_int (nomark _)) (pss_one (ps_ret pe_non)) pss_nil)
      (ps_ret (pv 4))), ?_⟩
    refine ⟨_, rfl, _, _, rfl, rfl, ⟨by decide, by decide, by decide⟩, _, _, rfl, rfl, (by show (0 : Int) < 10 ^ 30; decide), ?_⟩
    refine ⟨_, rfl, _, _, rfl, rfl, (by show (0 : Int) < 1000; decide), _, _, rfl, rfl, ?_⟩
    refine ⟨_, rfl, rfl, _, rfl, ite2 (fun _ => ?_) (fun _ => ?_)⟩
    · refine ⟨_, rfl, by show 1 ≤ sizeLine; decide, fun p1 h1 => ?_⟩
      have s1 := same_upd (o := HO.tup [.str z]) h1
      refine ⟨_, rfl, _, _, rfl, rfl, ⟨by decide, by decide⟩, _, _, rfl, rfl, (by show (0 : Int) < 9; decide), _, _, rfl, rfl, by show 2 ≤ sizeLine; decide, fun p2 h2 => ?_⟩
      have s2 := same_upd (o := HO.tup [.ref p1, .int (1 + x / 5 % 9)]) h2
      refine ⟨_, rfl, _, rfl, by show 2 ≤ sizeLine; decide, fun p3 h3 => ?_⟩
      have s3 := same_upd (o := HO.tup [.str z, .str z]) h3
      refine ⟨_, rfl, _, _, rfl, rfl, ⟨by decide, by decide, by decide⟩, _, _, rfl, rfl, (by show (0 : Int) < 10 ^ 30; decide), _, _, rfl, rfl, by show 2 ≤ sizeLine; decide, fun p4 h4 => ?_⟩
      have s4 := same_upd (o := HO.tup [.ref p3, .int (1 + c % 10 ^ 30)]) h4
      refine ⟨by show 2 ≤ sizeLine; decide, fun p5 h5 => ?_⟩
      have s5 := same_upd (o := HO.lst [.ref p2, .ref p4]) h5
      refine ⟨_, rfl, _, _, rfl, rfl, ⟨by decide, by decide⟩, _, _, rfl, rfl, (by show (0 : Int) < 2; decide), _, _, rfl, rfl, _, rfl, _, _, rfl, SqL.of upd_same, fun p6 h6 => ?_⟩
      have t3 := s3.trans (s4.trans s5)
      have t1 := s1.trans (s2.trans t3)
      have s6 := same_upd (o := HO.lst (cutV [V.ref p2, .ref p4] none (some (1 + x / 45 % 2)))) h6
      have g1 := s6 _ _ ((s2.trans t3) _ _ upd_same)
      have g2 := s6 _ _ (t3 _ _ upd_same)
      have g3 := s6 _ _ ((s4.trans s5) _ _ upd_same)
      have g4 := s6 _ _ (s5 _ _ upd_same)
      have f2 := s1.free h2
      have f3 := (s1.trans s2).free h3
      have f4 := (s1.trans (s2.trans s3)).free h4
      have f6 := t1.free h6
      let e1 : PyData := .tuple [.tuple [.str z], .int (1 + x / 5 % 9)]
      let e2 : PyData := .tuple [.tuple [.str z, .str z], .int (1 + c % 10 ^ 30)]
      refine q _ (.list (cutD [e1, e2] none (some (1 + x / 45 % 2)))) _ (t1.trans s6) (fun L nL => ?_) (.ls (cutD_len _ _ _) fun d hd => ?_)
      · have ne : ∀ {p : Addr}, H p = none → p ≠ L := fun h e => nL (by rw [← e]; exact h)
        have dd : ∀ {p : Addr} {xs : List V} {G : Hp}, H p = none → G p = some (.tup xs) → SqT K (off L G) p xs := fun h e => SqT.of (by rw [off_ne (ne h)]; exact e)
        refine .lst (SqL.of (by rw [off_ne (ne f6)]; exact upd_same)) (dl_cut _ _ (.cons (.tup (dd f2 g2) (.cons (.tup (dd h1 g1) (.cons (.str z oz) .nil)) (.cons (.int _) .nil))) (.cons (.tup (dd f4 g4) (.cons (.tup (dd f3 g3) (.cons (.str z oz) (.cons (.str z oz) .nil))) (.cons (.int _) .nil))) .nil)))
      have hd2 := cutD_mem hd
      simp only [List.mem_cons, List.not_mem_nil, or_false] at hd2
      rcases hd2 with rfl | rfl
      · exact (by decide : (2 : Nat) ≤ 4)
      · exact (by decide : (2 : Nat) ≤ 4)
    · refine ⟨_, rfl, rfl, _, rfl, ite2 (fun _ => ?_) (fun _ => ?_)⟩
      · refine ⟨_, rfl, _, rfl, _, rfl, _, _, rfl, rfl, (by show (0 : Int) < 3; decide), _, _, rfl, rfl, by show 2 ≤ sizeLine; decide, fun p5 h5 => ?_⟩
        have s5 := same_upd (o := HO.lst [V.int (c % 10 ^ 30 - x % 1000), .int (c % 10 ^ 30 - x % 1000 + x % 3)]) h5
        refine ⟨_, rfl, _, _, rfl, rfl, ⟨by decide, by decide⟩, _, _, rfl, rfl, (by show (0 : Int) < 3; decide), _, rfl, _, _, rfl, SqL.of upd_same, fun p6 h6 => ?_⟩
        have s6 := same_upd (o := HO.lst (cutV [V.int (c % 10 ^ 30 - x % 1000), .int (c % 10 ^ 30 - x % 1000 + x % 3)] none (some (x / 5 % 3)))) h6
        have f6 := s5.free h6
        refine q _ (.list (cutD [PyData.int (c % 10 ^ 30 - x % 1000), .int (c % 10 ^ 30 - x % 1000 + x % 3)] none (some (x / 5 % 3)))) _ (s5.trans s6) (fun L nL => ?_) (.ls (cutD_len _ _ _) fun d hd => ?_)
        · exact .lst (SqL.of (by rw [off_ne (fun e => nL (by rw [← e]; exact f6))]; exact upd_same)) (dl_cut _ _ (.cons (.int _) (.cons (.int _) .nil)))
        have hd2 := cutD_mem hd
        simp only [List.mem_cons, List.not_mem_nil, or_false] at hd2
        rcases hd2 with rfl | rfl
        · exact Nat.zero_le _
        · exact Nat.zero_le _
      · refine ⟨_, rfl, rfl, _, rfl, ite2 (fun _ => ?_) (fun _ => ?_)⟩
        · exact ⟨_, rfl, _, _, rfl, rfl, ⟨by decide, by decide⟩, _, _, rfl, rfl, (by show (0 : Int) < 2; decide), rfl, q _ _ _ (Same.refl _) (fun _ _ => .bl _) ⟨Nat.zero_le _, .inr (.inr (.inl ⟨_, rfl⟩))⟩⟩
        · refine ⟨_, rfl, _, _, rfl, rfl, ⟨by decide, by decide⟩, _, _, rfl, rfl, (by show (0 : Int) < 4; decide), rfl, _, rfl, ite2 (fun _ => ?_) (fun _ => ?_)⟩
          · exact q _ _ _ (Same.refl _) (fun _ _ => .non) ⟨Nat.zero_le _, .inr (.inl rfl)⟩
          · exact ⟨_, rfl, q _ _ _ (Same.refl _) (fun _ _ => .int _) ⟨Nat.zero_le _, .inr (.inr (.inr ⟨_, rfl⟩))⟩⟩
end
end Wy
namespace Wy
open PySem L2
def metB (ts us : List Key) : Bool := decide (ts.length = us.length) && (mAll [] (ts.zip us)).isSome
def VarsK (kvs : List (Key × V)) : Prop := ∀ kv ∈ kvs, txtK capS kv.1 = true
theorem VarsK.none {kvs : List (Key × V)} {t : Key} (h : VarsK kvs) (ht : txtK capS t = false) : valV kvs t = none := by
  cases e : valV kvs t with
  | none => rfl
  | some v =>
    have := h _ (val_in e)
    rw [show ((t, v) : Key × V).1 = t from rfl, ht] at this
    cases this
theorem VarsK.put {kvs : List (Key × V)} (h : VarsK kvs) (t v : Key) : VarsK (mPut kvs t v) := by
  unfold mPut
  split
  · rename_i z
    intro kv hk
    rcases put_mem hk with hk | rfl
    · exact h kv hk
    · exact z.1
  · exact h
section
variable {P : Program} {w : World} {K : PySem.W.Frag} {mg : Str → Option Value} {base : Heap}
def sp_matches (K : PySem.W.Frag) : Sp := fun vs H Q _ => ∃ (a b : Addr) (ts us : List Key), vs = [.ref a, .ref b] ∧ SqT K H a (ts.map kV) ∧ SqT K H b (us.map kV) ∧ (∀ t ∈ ts, TmK t) ∧ ts.length ≤ 100 ∧ ∀ H', Same H H' → Q (.bl (metB ts us)) H'
theorem ok__law_matches (T : Txt K mg) : Def P w K mg base 1 "_law_matches" ["_law_terms_here", "_law_row"] (sp_matches K) := by
  refine T.t__law_matches.ok sc__law_matches (fun vs H Q E h => ?_) fun f cdv A outer s H vs Q E hr h => ?_
  · obtain ⟨a, b, ts, us, rfl, _⟩ := h
    rfl
  · obtain ⟨a, b, ts, us, rfl, ha, hb, hts, lt, kq⟩ := h
    have la : LenV K (.ref a) H ts.length := .inr ⟨_, ha, by rw [List.length_map]⟩
    have lb : LenV K (.ref b) H us.length := .inr ⟨_, hb, by rw [List.length_map]⟩
    refine ⟨_, (pss_4
      (ps_if (pt_cmpR op_ne (pe_callB (call_lenK K) rfl T.b_len bt_len (pa_1 (pv 0))) (pe_callB (call_lenK K) rfl T.b_len bt_len (pa_1 (pv 1))) (nomark _)) (pss_one (ps_ret pe_bl)) pss_nil)
      (ps_set (i := 2) sc__law_matches.nd rfl (Or.inl rfl) pe_dnewK)
      (ps_for PassesOwn.never rfl (pi_range1 rfl T.b_range (pa_1 (pe_callB (call_lenK K) rfl T.b_len bt_len (pa_1 (pv 1))))) (pg_name (i := 3) sc__law_matches.nd rfl (Or.inl rfl)) (pss_3
      (ps_set (i := 4) sc__law_matches.nd rfl (Or.inl rfl) (pe_ix (ix_tupK K) (pv 0) (pv 3) (fun _ _ => rfl)))
      (ps_if (PW.pt (pw_and (pt_val (pe_callB (call_isiD K) rfl T.b_isinstance bt_isinstance (pa_2 (pv 4) (pe_ty rfl T.b_str bt_str)))) (pw_and1 (pt_cmpR op_in_str (pe_ix ix_str (pv 4) pe_int (fun _ _ => rfl)) pe_str (by with_unfolding_all rfl))))) (pss_one (ps_set (i := 4) sc__law_matches.nd rfl (Or.inl rfl) (pe_dsetd (pv 2) (pv 4) (pe_ix (ix_tupK K) (pv 1) (pv 3) (fun _ _ => rfl)) ⟨rfl, rfl, rfl, rfl⟩))) pss_nil)
      (ps_if (pt_cmpR op_ne (pv 4) (pe_ix (ix_tupK K) (pv 1) (pv 3) (fun _ _ => rfl)) (nomark _)) (pss_one (ps_ret pe_bl)) pss_nil)))
      (ps_ret pe_bl)), ?_⟩
    refine ⟨_, rfl, _, _, rfl, la, _, rfl, _, _, rfl, lb, rfl, _, rfl, ite2 (fun h1 => ?_) (fun h1 => ?_)⟩
    · have : metB ts us = false := by
        unfold metB
        rw [decide_eq_false, Bool.false_and]
        intro e
        rw [e] at h1
        simp at h1
      have := this ▸ kq H (Same.refl H)
      exact this
    · have el : ts.length = us.length := by
        have : decide (V.int ts.length = V.int us.length) = true := by
          cases q : decide (V.int ts.length = V.int us.length) with
          | true => rfl
          | false => exact absurd (by show (!decide (V.int ts.length = V.int us.length)) = true; rw [q]; rfl) h1
        have := of_decide_eq_true this
        injection this with e
        lia
      have kn : mAll [] (ts.zip us) = none → ∀ H', Same H H' → Q (.bl false) H' := fun e H' s' => by
        have := kq H' s'
        unfold metB at this
        rw [e, Option.isSome_none, Bool.and_false] at this
        exact this
      intro q hq
      have s1 := same_upd (o := HO.dK []) hq
      have lb1 : LenV K (.ref b) (upd H q (.dK [])) us.length := .inr ⟨_, s1.seqT hb, by rw [List.length_map]⟩
      refine ⟨_, rfl, _, _, rfl, lb1, _, rfl, by lia, by lia, for_range (lo := 0) (n := us.length) (fun i σ H' => ∃ (v1 v2 : Option V) (ki : List (Key × V)), σ = [some (.ref a), some (.ref b), some (.ref q), v1, v2] ∧ Same H H' ∧ H' q = some (.dK ki) ∧ mAll [] ((ts.zip us).take i) = some ki ∧ AllK ki ∧ VarsK ki ∧ ki.length ≤ i)
        ⟨none, none, [], rfl, s1, upd_same, rfl, (fun _ z => nomatch z), (fun _ z => nomatch z), Nat.le_refl _⟩ ?_ ?_⟩
      · rintro i σ H' hi ⟨v1, v2, ki, rfl, s2, hk, hm, hal, hva, hl⟩
        have hi2 : i < ts.length := by lia
        obtain ⟨t, et⟩ : ∃ t, ts[i] = t := ⟨_, rfl⟩
        obtain ⟨v, ev⟩ : ∃ v, us[i] = v := ⟨_, rfl⟩
        have ht : ts[i]? = some t := by rw [List.getElem?_eq_getElem hi2, et]
        have hv : us[i]? = some v := by rw [List.getElem?_eq_getElem hi, ev]
        have at1 : atI (ts.map kV) (0 + (i : Int)) = some (kV t) := by rw [Int.zero_add]; exact atI_nat (by rw [List.getElem?_map, ht]; rfl)
        have at2 : atI (us.map kV) (0 + (i : Int)) = some (kV v) := by rw [Int.zero_add]; exact atI_nat (by rw [List.getElem?_map, hv]; rfl)
        have hzip : (ts.zip us)[i]? = some (t, v) := by
          rw [List.getElem?_zip_eq_some]
          exact ⟨ht, hv⟩
        have nx := mAll_next hm hzip
        have ha2 := s2.seqT ha
        have hb2 := s2.seqT hb
        have tm := hts t (List.mem_of_getElem? ht)
        have tx := tm.tx
        have fin : ∀ H4 : Hp, Same H H4 → H4 q = some (.dK (mPut ki t v)) → (tIfS (tTest (tOp rNe (tVar 4) (tOp (rIxT K) (tVar 1) (tVar 3)))) (tRet (tC (V.bl false))) tNext)
            { nx := (fun σ H' => ∃ (v1 v2 : Option V) (kj : List (Key × V)), σ = [some (.ref a), some (.ref b), some (.ref q), v1, v2] ∧ Same H H' ∧ H' q = some (.dK kj) ∧ mAll [] ((ts.zip us).take (i + 1)) = some kj ∧ AllK kj ∧ VarsK kj ∧ kj.length ≤ i + 1), rt := Q }
            [some (.ref a), some (.ref b), some (.ref q), some (.int (0 + (i : Int))), some ((valV (mPut ki t v) t).getD (kV t))] H4 := fun H4 s4 h4 => by
          obtain ⟨j, ej⟩ := (hal.put t v).get t
          have sc : scal ((valV (mPut ki t v) t).getD (kV t)) (kV v) = true := by rw [ej]; exact scal_keys j v
          refine ⟨_, rfl, _, rfl, _, rfl, _, _, _, _, rfl, rfl, s4.seqT hb, at2, sc, _, rfl, ite2 (fun h2 => ?_) (fun h2 => ?_)⟩
          · refine kn (mAll_stop (i := i + 1) ?_) _ s4
            rw [nx]
            unfold mStep
            rw [if_neg]
            intro e
            rw [decide_eq_true e] at h2
            cases h2
          · refine ⟨_, _, mPut ki t v, rfl, s4, h4, ?_, hal.put t v, hva.put t v, ?_⟩
            · rw [nx]
              unfold mStep
              rw [if_pos]
              by_cases e : (valV (mPut ki t v) t).getD (kV t) = kV v
              · exact e
              · exact absurd (by rw [decide_eq_false e]; rfl) h2
            · have := length_mPut ki t v
              lia
        have finN : txtK capS t = false → (tIfS (tTest (tOp rNe (tVar 4) (tOp (rIxT K) (tVar 1) (tVar 3)))) (tRet (tC (V.bl false))) tNext)
            { nx := (fun σ H' => ∃ (v1 v2 : Option V) (kj : List (Key × V)), σ = [some (.ref a), some (.ref b), some (.ref q), v1, v2] ∧ Same H H' ∧ H' q = some (.dK kj) ∧ mAll [] ((ts.zip us).take (i + 1)) = some kj ∧ AllK kj ∧ VarsK kj ∧ kj.length ≤ i + 1), rt := Q }
            [some (.ref a), some (.ref b), some (.ref q), some (.int (0 + (i : Int))), some (kV t)] H' := fun hn => by
          have em : mPut ki t v = ki := by
            unfold mPut
            exact if_neg fun z => by rw [hn] at z; exact nomatch z.1
          have := fin H' s2 (by rw [em]; exact hk)
          rw [em, hva.none hn] at this
          rw [em] at fin
          exact this
        refine ⟨_, rfl, _, rfl, _, _, _, _, rfl, rfl, ha2, at1, ?_⟩
        cases t with
        | inl n =>
          refine ⟨_, rfl, _, _, _, rfl, dat_tx (K := K) (H := H') tx, by decide, _, rfl, iteFb (show tyIs "int" "str" = false by decide) (iteF ?_)⟩
          exact finN rfl
        | inr z =>
          obtain ⟨c, hc, zs, hvar⟩ := tm.fst
          refine ⟨_, rfl, _, _, _, rfl, dat_tx (K := K) (H := H') tx, by decide, _, rfl, iteTb (show tyIs "str" "str" = true by decide) ?_⟩
          refine ⟨_, rfl, _, _, c, rfl, rfl, zs, atI_nat (j := 0) hc, _, _, rfl, rfl, _, rfl, ?_⟩
          have found : (!(Builtin.Str.occurrences capS ⟨#[c]⟩ 0 capS.length 1).isEmpty) = decide (c ∈ capS.cps.toList) := StrLaws.found_one ..
          refine ite2 (fun h2 => ?_) (fun h2 => ?_)
          · have isv : txtK capS (.inr z) = true := hvar.symm.trans (found.symm.trans h2)
            refine ⟨_, rfl, q, rfl, .inl ⟨_, .inl hk⟩, _, rfl, _, rfl, _, rfl, _, _, _, _, rfl, rfl, hb2, at2, ki, .inr z, hk, rfl, small1000 (by lia), fun u e => ?_, fun e => ?_⟩
            · have em : mPut ki (.inr z) v = ki := by
                unfold mPut
                exact if_neg fun z => by rw [e] at z; exact nomatch z.2
              have := fin H' s2 (by rw [em]; exact hk)
              rw [em, e] at this
              exact this
            · have em : mPut ki (.inr z) v = putK ki (.inr z) (kV v) := by
                unfold mPut
                exact if_pos ⟨isv, e⟩
              have := fin (upd H' q (.dK (putK ki (.inr z) (kV v)))) (s2.set hq) (by rw [em]; exact upd_same)
              rw [em, valV_put, if_pos rfl] at this
              exact this
          · refine finN ?_
            rw [← hvar, ← found]
            exact Bool.eq_false_iff.mpr h2
      · rintro σ H' ⟨v1, v2, ki, rfl, s2, hk, hm, hal, hva, hl⟩
        rw [List.take_of_length_le (by rw [List.length_zip]; lia)] at hm
        have := kq H' s2
        unfold metB at this
        rw [hm, decide_eq_true el] at this
        exact this
end
end Wy
namespace Wy
open PySem L2
section
variable {P : Program} {w : World} {K : PySem.W.Frag} {mg : Str → Option Value} {base : Heap}
def sp_terms (K : PySem.W.Frag) : Sp := fun vs H Q _ => ∃ (a m u : Addr) (ns : List Int) (zs : List Str) (ks : List Key), vs = [.ref a, .ref m, .ref u] ∧ SqL K H a (ns.map V.int) ∧ SqL K H m (zs.map V.str) ∧ SqL K H u (ks.map kV) ∧ zs.length = 3 ∧ (∀ z ∈ zs, txtB capS z = true) ∧ ks.length = 4 ∧ (∀ k ∈ ks, GoodK k) ∧
  ∀ p (ts : List Key) H', Same H H' → H' p = some (.tup (ts.map kV)) → ts.length ≤ 4 → (∀ t ∈ ts, TmK t) → Q (.ref p) H'
theorem ok__law_terms (T : Txt K mg) : Def P w K mg base 2 "_law_terms" ["_law_script", "_law_marks", "_law_values"] (sp_terms K) := by
  refine T.t__law_terms.ok sc__law_terms (fun vs H Q E h => ?_) fun f cdv A outer s H vs Q E hr h => ?_
  · obtain ⟨a, m, u, ns, zs, ks, rfl, _⟩ := h
    rfl
  · obtain ⟨a, m, u, ns, zs, ks, rfl, hS, hm, hu, lz, nz, lk, gk, q⟩ := h
    refine ⟨_, (pss_3
      (ps_set (i := 3) sc__law_terms.nd rfl (Or.inl rfl) (pe_lst pa_nil))
      (ps_for PassesOwn.never rfl (pi_range1 rfl T.b_range (pa_1 (pe_ix (ix_listK K) (pe_lst (pa_6 pe_int pe_int pe_int pe_int pe_int pe_int)) (pe_op op_mod (pe_def (ok__law_cell_at T) hr rfl (pa_2 (pv 0) pe_int)) pe_int) (fun _ _ => rfl)))) (pg_name (i := 4) sc__law_terms.nd rfl (Or.inl rfl)) (pss_2
      (ps_set (i := 5) sc__law_terms.nd rfl (Or.inl rfl) (pe_def (ok__law_cell_at T) hr rfl (pa_2 (pv 0) (pe_op op_add pe_int (pv 4)))))
      (ps_if (pt_cmpR op_lt (pe_op op_mod (pv 5) pe_int) pe_int (nomark _)) (pss_one (ps_expr (pe_bm PySem.F.plainAttrs_list PySem.F.slot_list_append PySem.F.type_list_append mt_append (pv 3) (pa_1 (pe_ix (ix_listK K) (pv 1) (pe_op op_mod (pe_op op_fdiv (pv 5) pe_int) (pe_ix (ix_listK K) (pe_lst (pa_3 pe_int pe_int pe_int)) (pe_op op_mod (pv 5) pe_int) (fun _ _ => rfl))) (fun _ _ => rfl)))))) (pss_one (ps_expr (pe_bm PySem.F.plainAttrs_list PySem.F.slot_list_append PySem.F.type_list_append mt_append (pv 3) (pa_1 (pe_ix (ix_listK K) (pv 2) (pe_op op_mod (pe_op op_fdiv (pv 5) pe_int) pe_int) (fun _ _ => rfl)))))))))
      (ps_ret (pe_callTy (call_tupleK K) rfl T.b_tuple bt_tuple (pa_1 (pv 3))))), ?_⟩
    refine ⟨by decide, fun L hL => ?_⟩
    have s1 := same_upd (o := HO.lst []) hL
    refine ⟨by show 6 ≤ sizeLine; decide, fun p1 h1 => ?_⟩
    have s2 := same_upd (o := HO.lst [V.int 2, .int 2, .int 1, .int 3, .int 4, .int 0]) h1
    have t2 := s1.trans s2
    obtain ⟨v, hat, hv⟩ := atI_in (xs := [V.int 2, .int 2, .int 1, .int 3, .int 4, .int 0]) (i := ns.getD (8 : Int).toNat 0 % 6) (Int.emod_nonneg _ (by decide)) (Int.emod_lt_of_pos _ (by decide))
    obtain ⟨n, rfl, n0, n1⟩ : ∃ n : Int, v = .int n ∧ 0 ≤ n ∧ n ≤ 4 := by
      simp only [List.mem_cons, List.not_mem_nil, or_false] at hv
      rcases hv with rfl | rfl | rfl | rfl | rfl | rfl <;> exact ⟨_, rfl, by decide, by decide⟩
    refine ⟨_, rfl, a, ns, _, rfl, t2.seq hS, by decide, _, _, rfl, rfl, (by show (0 : Int) < 6; decide), _, _, _, _, rfl, rfl, SqL.of upd_same, hat, _, rfl, by lia, by lia, ?_⟩
    refine for_range (lo := 0) (n := n.toNat) (fun i σ H' => ∃ (v1 v2 : Option V) (ts : List Key), σ = [some (.ref a), some (.ref m), some (.ref u), some (.ref L), v1, v2] ∧ Same H H' ∧ H' L = some (.lst (ts.map kV)) ∧ ts.length = i ∧ ∀ t ∈ ts, TmK t) ⟨none, none, [], rfl, t2, s2 _ _ upd_same, rfl, fun _ z => nomatch z⟩ ?_ ?_
    · rintro i σ H' hi ⟨v1, v2, ts, rfl, s3, hl, lt, tms⟩
      have lts : (ts.map kV).length < sizeLine := by rw [List.length_map, lt]; exact small1000 (by lia)
      refine ⟨_, rfl, _, rfl, _, _, rfl, rfl, a, ns, _, rfl, s3.seq hS, by lia, ?_⟩
      generalize ns.getD (10 + (0 + (i : Int))).toNat 0 = c
      have c0 := Int.emod_nonneg c (show (5 : Int) ≠ 0 by decide)
      refine ⟨_, rfl, _, _, rfl, rfl, (by show (0 : Int) < 5; decide), _, _, rfl, rfl, _, rfl, ite2 (fun h1 => ?_) (fun h1 => ?_)⟩
      · have h3 := of_decide_eq_true h1
        refine ⟨_, rfl, .inl ⟨rfl, _, SqL.of hl⟩, _, rfl, _, rfl, _, _, rfl, rfl, ⟨by decide, by decide⟩, by show 3 ≤ sizeLine; decide, fun p2 h2 => ?_⟩
        have s4 := same_upd (o := HO.lst [V.int 3, .int 2, .int 1]) h2
        obtain ⟨d, hat2, hd⟩ := atI_in (xs := [V.int 3, .int 2, .int 1]) (i := c % 5) c0 h3
        obtain ⟨j, rfl, j0, j1⟩ : ∃ j : Int, d = .int j ∧ 0 < j ∧ j ≤ 3 := by
          simp only [List.mem_cons, List.not_mem_nil, or_false] at hd
          rcases hd with rfl | rfl | rfl <;> exact ⟨_, rfl, by decide, by decide⟩
        have e0 := Int.emod_nonneg (c / 5) (show j ≠ 0 by lia)
        have e1 := Int.emod_lt_of_pos (c / 5) j0
        obtain ⟨e, hat3, he⟩ := atI_in (xs := zs.map V.str) (i := c / 5 % j) e0 (by rw [List.length_map, lz]; lia)
        obtain ⟨z, hz, rfl⟩ := List.mem_map.mp he
        have hl4 := s4 _ _ hl
        refine ⟨_, rfl, _, _, rfl, rfl, (by show (0 : Int) < 5; decide), _, _, _, _, rfl, rfl, SqL.of upd_same, hat2, _, _, rfl, rfl, j0, _, _, _, _, rfl, rfl, s4.seq (s3.seq hm), hat3, _, _, _, rfl, rfl, hl4, lts, ?_⟩
        refine ⟨_, _, ts ++ [.inr z], rfl, (s3.trans s4).set hL, by rw [upd_same, List.map_append]; rfl, by rw [List.length_append, lt]; rfl, fun x hx => ?_⟩
        rcases List.mem_append.mp hx with hx | hx
        · exact tms x hx
        · rw [List.mem_singleton.mp hx]
          exact .inl ⟨z, rfl, nz z hz⟩
      · obtain ⟨e, hat3, he⟩ := atI_in (xs := ks.map kV) (i := c / 5 % 4) (Int.emod_nonneg _ (by decide)) (by rw [List.length_map, lk]; exact Int.emod_lt_of_pos _ (by decide))
        obtain ⟨k, hk, rfl⟩ := List.mem_map.mp he
        refine ⟨_, rfl, .inl ⟨rfl, _, SqL.of hl⟩, _, rfl, _, rfl, _, _, rfl, rfl, ⟨by decide, by decide⟩, _, _, rfl, rfl, (by show (0 : Int) < 4; decide), _, _, _, _, rfl, rfl, s3.seq hu, hat3, _, _, _, rfl, rfl, hl, lts, ?_⟩
        refine ⟨_, _, ts ++ [k], rfl, s3.set hL, by rw [upd_same, List.map_append]; rfl, by rw [List.length_append, lt]; rfl, fun x hx => ?_⟩
        rcases List.mem_append.mp hx with hx | hx
        · exact tms x hx
        · rw [List.mem_singleton.mp hx]
          exact (gk k hk).tm
    · rintro σ H' ⟨v1, v2, ts, rfl, s3, hl, lt, tms⟩
      refine ⟨_, rfl, _, _, rfl, .inl ⟨SqL.of hl, fun p hp => ?_⟩⟩
      exact q p ts _ (s3.trans (same_upd hp)) upd_same (by lia) tms
end
end Wy
namespace Wy
open PySem L2
section
variable {P : Program} {w : World} {K : PySem.W.Frag} {mg : Str → Option Value} {base : Heap}
def isLs : PyData → Bool
  | .list _ => true
  | _ => false
theorem ty_ls (d : PyData) : tyIs (tyD d) "list" = isLs d := by cases d <;> rfl
def sp_own (K : PySem.W.Frag) : Sp := fun vs H Q _ => ∃ (v : V), vs = [v] ∧ ((∃ d, Dat K H d v ∧ isLs d = false ∧ Q v H) ∨ (∃ a xs ds, v = .ref a ∧ SqL K H a xs ∧ Dats K H ds xs ∧ ∀ c, H c = none → Q (.ref c) (upd H c (.lst xs))))
theorem ok_own (T : Txt K mg) : Def P w K mg base 1 "own" ["worth"] (sp_own K) := by
  refine T.t_own.ok sc_own (fun vs H Q E h => ?_) fun f cdv A outer s H vs Q E hr h => ?_
  · obtain ⟨v, rfl, _⟩ := h
    rfl
  · obtain ⟨v, rfl, ⟨d, hd, e, q⟩ | ⟨a, xs, ds, rfl, h1, h2, q⟩⟩ := h
    · refine ⟨_, (pss_one (ps_ret (pe_ifExp (pt_val (pe_callB (call_isiD K) rfl T.b_isinstance bt_isinstance (pa_2 (pv 0) (pe_ty rfl T.b_list bt_list)))) (pe_callTy (call_listK K) rfl T.b_list bt_list (pa_1 (pv 0))) (pv 0)))), ?_⟩
      exact ⟨_, rfl, _, _, d, rfl, hd, by decide, _, rfl, iteFb (by rw [ty_ls]; exact e) ⟨_, rfl, q⟩⟩
    · refine ⟨_, (pss_one (ps_ret (pe_ifExp (pt_val (pe_callB (call_isiD K) rfl T.b_isinstance bt_isinstance (pa_2 (pv 0) (pe_ty rfl T.b_list bt_list)))) (pe_callTy (call_listK K) rfl T.b_list bt_list (pa_1 (pv 0))) (pv 0)))), ?_⟩
      exact ⟨_, rfl, _, _, .list ds, rfl, .lst h1 h2, by decide, _, rfl, iteTb rfl ⟨_, rfl, _, _, rfl, .inl h1, q⟩⟩
def sp_isasked (K : PySem.W.Frag) : Sp := fun vs H Q _ => ∃ (p a b : Addr) (tb rb : Str) (ts us : List Key), vs = [.ref p, .str rb, .ref b] ∧ SqT K H p [.str tb, .ref a] ∧ SqT K H a (ts.map kV) ∧ SqT K H b (us.map kV) ∧ (∀ t ∈ ts, TmK t) ∧ ts.length ≤ 100 ∧ ∀ H', Same H H' → Q (.bl (decide (rb = tb) && metB ts us)) H'
theorem ok_is_asked (T : Txt K mg) : Def P w K mg base 4 "is_asked" ["atom", "table", "row"] (sp_isasked K) := by
  refine T.t_is_asked.ok sc_is_asked (fun vs H Q E h => ?_) fun f cdv A outer s H vs Q E hr h => ?_
  · obtain ⟨p, a, b, tb, rb, ts, us, rfl, _⟩ := h
    rfl
  · obtain ⟨p, a, b, tb, rb, ts, us, rfl, hp, ha, hb, hts, lt, q⟩ := h
    refine ⟨_, (pss_one (ps_ret (pe_and (pe_cmpR op_eq (pv 1) (pe_ix (ix_tupK K) (pv 0) pe_int (fun _ _ => rfl)) (nomark _)) (pe_one (pe_cmpR op_notN (pe_def (ok_matched T) hr rfl (pa_3 (pe_ix (ix_tupK K) (pv 0) pe_int (fun _ _ => rfl)) (pv 2) pe_dnewK)) pe_non (nomark _)))))), ?_⟩
    refine ⟨_, rfl, _, rfl, _, _, _, _, rfl, rfl, hp, rfl, rfl, _, rfl, ?_⟩
    refine ite2 (fun h => ?_) (fun h => ?_)
    · have e : rb = tb := by
        have := of_decide_eq_true h
        injection this
      rw [decide_eq_true e, Bool.true_and] at q
      refine ⟨_, rfl, _, _, _, _, rfl, rfl, hp, rfl, _, rfl, fun d hd => ?_⟩
      have s1 := same_upd (o := HO.dK []) hd
      refine ⟨a, b, d, ts, us, [], rfl, s1.seqT ha, s1.seqT hb, upd_same, (fun t ht => (hts t ht).tx), (fun _ z => nomatch z), lt, Nat.zero_le _, fun no H' s2 => ?_, fun k2 p2 H' el em s2 _ _ => ?_⟩
      · have e2 : metB ts us = false := by
          unfold metB
          rcases no with z | z
          · rw [decide_eq_false z, Bool.false_and]
          · rw [z, Option.isSome_none, Bool.and_false]
        have := q H' (s1.trans s2)
        rw [e2] at this
        exact ⟨rfl, this⟩
      · have e2 : metB ts us = true := by
          unfold metB
          rw [em, decide_eq_true el]
          rfl
        have := q H' (s1.trans s2)
        rw [e2] at this
        exact ⟨rfl, this⟩
    · have e : rb ≠ tb := fun e => h (by rw [e]; exact decide_eq_true rfl)
      have := q H (Same.refl H)
      rw [decide_eq_false e, Bool.false_and] at this
      exact this
end
end Wy
namespace Wy
open PySem L2
section
variable {P : Program} {w : World} {K : PySem.W.Frag} {mg : Str → Option Value} {base : Heap}
def sp_same (K : PySem.W.Frag) : Sp := fun vs H Q _ => ∃ (a b : Addr) (fs gs : List (V × PairT)), vs = [.ref a, .ref b] ∧ H a = some (.lst (fs.map (·.1))) ∧ SqL K H b (gs.map (·.1)) ∧ fs.map (·.2) = gs.map (·.2) ∧ (∀ f ∈ fs, PairV5 K H f.1 f.2) ∧ (∀ g ∈ gs, PairV5 K H g.1 g.2 ∧ PairOk g.2) ∧ gs.length ≤ 100 ∧ ∀ H', Same H H' → Q (.bl true) H'
theorem ok__law_same (T : Txt K mg) : Def P w K mg base 1 "_law_same" ["_law_found", "_law_due"] (sp_same K) := by
  refine T.t__law_same.ok sc__law_same (fun vs H Q E h => ?_) fun f cdv A outer s H vs Q E hr h => ?_
  · obtain ⟨a, b, fs, gs, rfl, _⟩ := h
    rfl
  · obtain ⟨a, b, fs, gs, rfl, ha, hb, ee, hf, hg, lg, q⟩ := h
    have lf : fs.length = gs.length := by
      have := congrArg List.length ee
      rw [List.length_map, List.length_map] at this
      exact this
    refine ⟨_, (pss_3
      (ps_if (PW.pt (pw_or (pt_not (pt_val (pe_callB (call_isi K) rfl T.b_isinstance bt_isinstance (pa_2 (pv 0) (pe_ty rfl T.b_list bt_list))))) (pw_or1 (pt_cmpR op_ne (pe_callB (call_lenK K) rfl T.b_len bt_len (pa_1 (pv 0))) (pe_callB (call_lenK K) rfl T.b_len bt_len (pa_1 (pv 1))) (nomark _))))) (pss_one (ps_ret pe_bl)) pss_nil)
      (ps_for PassesOwn.never rfl (pi_range1 rfl T.b_range (pa_1 (pe_callB (call_lenK K) rfl T.b_len bt_len (pa_1 (pv 1))))) (pg_name (i := 2) sc__law_same.nd rfl (Or.inl rfl)) (pss_3
      (ps_if (PW.pt (pw_or (pt_not (pt_val (pe_callB (call_isiD K) rfl T.b_isinstance bt_isinstance (pa_2 (pe_ix (ix_listK K) (pv 0) (pv 2) (fun _ _ => rfl)) (pe_ty rfl T.b_tuple bt_tuple))))) (pw_or1 (pt_cmpR (op_neD hr.units K) (pe_ix (ix_listK K) (pv 0) (pv 2) (fun _ _ => rfl)) (pe_ix (ix_listK K) (pv 1) (pv 2) (fun _ _ => rfl)) (nomark _))))) (pss_one (ps_ret pe_bl)) pss_nil)
      (ps_if (pt_cmpR op_ne (pe_callB (call_isiD K) rfl T.b_isinstance bt_isinstance (pa_2 (pe_ix (ix_tupK K) (pe_ix (ix_listK K) (pv 0) (pv 2) (fun _ _ => rfl)) pe_int (fun _ _ => rfl)) (pe_ty rfl T.b_bool bt_bool))) (pe_callB (call_isiD K) rfl T.b_isinstance bt_isinstance (pa_2 (pe_ix (ix_tupK K) (pe_ix (ix_listK K) (pv 1) (pv 2) (fun _ _ => rfl)) pe_int (fun _ _ => rfl)) (pe_ty rfl T.b_bool bt_bool))) (nomark _)) (pss_one (ps_ret pe_bl)) pss_nil)
      (ps_if (pt_val (pe_callB (call_anyL rfl K) rfl T.b_any bt_any (pa_1 (pe_comp (N := ["_law_value"]) (caps := [none]) rfl (by with_unfolding_all rfl) (pi_tupK K (pe_ix (ix_tupK K) (pe_ix (ix_listK K) (pv 0) (pv 2) (fun _ _ => rfl)) pe_int (fun _ _ => rfl))) (fun _ _ _ _ _ => (pg_name (i := 0) (show (["_law_value"] : List Str).Nodup by decide +kernel) rfl (Or.inl rfl))) (fun _ _ _ _ _ => pf_nil) (fun _ _ _ _ _ => (pe_callB (call_isiD K) rfl T.b_isinstance bt_isinstance (pa_2 (pv 0) (pe_ty rfl T.b_bool bt_bool)))))))) (pss_one (ps_ret pe_bl)) pss_nil)))
      (ps_ret pe_bl)), ?_⟩
    refine ⟨_, rfl, _, _, _, rfl, .lst ha, by decide, by decide, _, rfl, iteFb rfl ?_⟩
    refine ⟨_, rfl, _, _, rfl, .inl ⟨_, SqL.of ha, rfl⟩, _, rfl, _, _, rfl, .inl ⟨_, hb, rfl⟩, rfl, _, rfl, iteFb (by rw [List.length_map, List.length_map, lf, decide_eq_true rfl]; rfl) ?_⟩
    refine ⟨_, rfl, _, _, rfl, .inl ⟨_, hb, rfl⟩, _, rfl, by rw [List.length_map]; lia, by rw [List.length_map]; lia, ?_⟩
    refine for_range (lo := 0) (n := (gs.map (·.1)).length) (fun i σ H' => ∃ (v1 : Option V), σ = [some (.ref a), some (.ref b), v1] ∧ Same H H') ⟨none, rfl, Same.refl _⟩ ?_ ?_
    · rintro i σ H' hi ⟨v1, rfl, sm⟩
      rw [List.length_map] at hi
      obtain ⟨⟨y, e⟩, eg⟩ : ∃ g, gs[i] = g := ⟨_, rfl⟩
      obtain ⟨⟨x, e'⟩, ef⟩ : ∃ f, fs[i] = f := ⟨_, rfl⟩
      have hgi : gs[i]? = some (y, e) := by rw [List.getElem?_eq_getElem hi, eg]
      have hfi : fs[i]? = some (x, e') := by rw [List.getElem?_eq_getElem (by lia), ef]
      have e0 : e' = e := by
        have h1 : (fs.map (·.2))[i]? = some e' := by rw [List.getElem?_map, hfi]; rfl
        rw [ee, List.getElem?_map, hgi] at h1
        exact (Option.some.inj h1).symm
      subst e0
      have at1 : atI (fs.map (·.1)) (0 + (i : Int)) = some x := by rw [Int.zero_add]; exact atI_nat (by rw [List.getElem?_map, hfi]; rfl)
      have at2 : atI (gs.map (·.1)) (0 + (i : Int)) = some y := by rw [Int.zero_add]; exact atI_nat (by rw [List.getElem?_map, hgi]; rfl)
      have px := (hf _ (List.mem_of_getElem? hfi)).same sm
      obtain ⟨py, ok⟩ := hg _ (List.mem_of_getElem? hgi)
      have py := py.same sm
      have ok : PairOk e' := ok
      have dx := px.dat ok
      have dy := py.dat ok
      have ha' := SqL.of (K := K) (sm _ _ ha)
      have hb' := sm.seq hb
      refine ⟨_, rfl, _, rfl, _, _, _, _, rfl, rfl, ha', at1, _, _, _, rfl, dx, by decide, _, rfl, iteFb rfl ?_⟩
      refine ⟨_, rfl, _, rfl, _, _, _, _, rfl, rfl, ha', at1, _, rfl, _, rfl, _, _, _, _, rfl, rfl, hb', at2, _, _, dx, dy, Nat.le_trans ok.depth (by decide), _, rfl, iteFb (by rw [PySem.SeqAt.eqv_refl _ (Dat.lay _ _ dx)]; rfl) ?_⟩
      obtain ⟨p, b1, v, ex, hp, hb1, dv⟩ := px
      obtain ⟨p2, b2, v2, ey, hp2, hb2, dv2⟩ := py
      have ex : x = .ref p := ex
      have ey : y = .ref p2 := ey
      subst ex
      subst ey
      refine ⟨_, rfl, _, rfl, _, _, _, _, rfl, rfl, ha', at1, _, _, _, _, rfl, rfl, hp, atI_nat (j := 1) rfl, _, _, _, rfl, dv, by decide, _, rfl, _, rfl, _, _, _, _, rfl, rfl, hb', at2, _, _, _, _, rfl, rfl, hp2, atI_nat (j := 1) rfl, _, _, _, rfl, dv2, by decide, rfl, _, rfl, iteFb (by rw [decide_eq_true rfl]; rfl) ?_⟩
      refine ⟨_, rfl, _, rfl, _, _, _, _, rfl, rfl, ha', at1, _, _, _, _, rfl, rfl, hp, atI_nat (j := 0) rfl, b1, rfl, ⟨_, hb1⟩, fun D hD => ?_⟩
      refine comp_by (e'.1.map kV).length (fun j σ' G => (∃ v, σ' = [v]) ∧ Same H' G ∧ G D = some (.lst (((e'.1.take j).map fun _ => false).map V.bl))) ⟨⟨_, rfl⟩, same_upd hD, upd_same⟩ (fun j σ' G hj pp => ?_) (fun σ' G pp => ⟨?_, ?_⟩) (fun j σ' G hj pp x G2 y => ?_)
      · obtain ⟨_, s2, _⟩ := pp
        exact ⟨_, _, s2.seqT hb1, List.getElem?_eq_getElem hj⟩
      · obtain ⟨_, s2, _⟩ := pp
        exact ⟨_, s2.seqT hb1, Nat.le_refl _⟩
      · obtain ⟨_, s2, eD⟩ := pp
        refine ⟨D, _, rfl, SqL.of eD, _, rfl, iteFb ?_ ⟨_, rfl, sm.trans s2⟩⟩
        rw [List.any_eq_false]
        intro z hz
        obtain ⟨_, _, rfl⟩ := List.mem_map.mp hz
        decide
      · obtain ⟨⟨v, rfl⟩, s2, eD⟩ := pp
        obtain ⟨rfl, hx⟩ := y
        have hx' := hx _ (s2.seqT hb1)
        rw [List.getElem?_map] at hx'
        obtain ⟨k, hk, rfl⟩ := Option.map_eq_some_iff.mp hx'
        have dk := dat_tx (K := K) (H := G2) (ok.ks k (List.mem_of_getElem? hk)).tx
        have tk : tyIs (tyD (keyD k)) "bool" = false := by cases k <;> rfl
        have : e'.1.length ≤ 4 := ok.len
        refine ⟨_, rfl, _, _, _, rfl, dk, by decide, ?_⟩
        refine ⟨_, eD, ?_, ⟨_, rfl⟩, s2.set hD, ?_⟩
        · rw [List.length_map, List.length_map, List.length_take]
          exact small1000 (by lia)
        · rw [upd_same, tk, List.take_succ, hk, List.map_append, List.map_append]
          rfl
    · rintro σ H' ⟨v1, rfl, sm⟩
      exact q _ sm
theorem seqT_off {H : Hp} {D a : Addr} {xs ys : List V} (h : SqT K H a xs) (hD : H D = some (.lst ys)) : SqT K (off D H) a xs := by
  rcases h with (h | ⟨o, h⟩) | h
  · exact .inl (.inl (by rw [off_ne (fun e => by rw [e, hD] at h; cases h)]; exact h))
  · exact .inl (.inr ⟨o, by rw [off_ne (fun e => by rw [e, hD] at h; cases h)]; exact h⟩)
  · exact .inr h
def sp_copies (K : PySem.W.Frag) : Sp := fun vs H Q _ => ∃ (L : Addr) (es : List (V × RowT)), vs = [.ref L] ∧ SqL K H L (es.map (·.1)) ∧ (∀ e ∈ es, RowV K H e.1 e.2 ∧ RowOk e.2) ∧ es.length ≤ 100 ∧
  ∀ F (gs : List (V × RowT)) H', Same H H' → H F = none → H' F = some (.lst (gs.map (·.1))) → gs.map (·.2) = es.map (·.2) → (∀ g ∈ gs, RowV K H' g.1 g.2) → Q (.ref F) H'
theorem ok__law_copies (T : Txt K mg) : Def P w K mg base 1 "_law_copies" ["_law_rows"] (sp_copies K) := by
  refine T.t__law_copies.ok sc__law_copies (fun vs H Q E h => ?_) fun f cdv A outer s H vs Q E hr h => ?_
  · obtain ⟨L, es, rfl, _⟩ := h
    rfl
  · obtain ⟨L, es, rfl, hL, hes, le, q⟩ := h
    refine ⟨_, (pss_one (ps_ret (pe_comp (N := ["_law_row"]) (caps := [none]) rfl (by with_unfolding_all rfl) (pi_listK K (pv 0)) (fun _ _ _ _ _ => (pg_name (i := 0) (show (["_law_row"] : List Str).Nodup by decide +kernel) rfl (Or.inl rfl))) (fun _ _ _ _ _ => pf_nil) (fun _ _ _ _ _ => (pe_ifExp (pt_val (pe_callB (call_isiD K) rfl T.b_isinstance bt_isinstance (pa_2 (pe_ix (ix_tupK K) (pv 0) (pe_un un_neg pe_int) (fun _ _ => rfl)) (pe_ty rfl T.b_list bt_list)))) (pe_op (op_catA K) (pe_slice (sl_tupA K) (pv 0) po_none (po_some (pe_un un_neg pe_int))) (pe_tup (pa_1 (pe_callTy (call_listK K) rfl T.b_list bt_list (pa_1 (pe_ix (ix_tupK K) (pv 0) (pe_un un_neg pe_int) (fun _ _ => rfl))))))) (pv 0)))))), ?_⟩
    refine ⟨_, rfl, L, rfl, ⟨_, hL⟩, fun D hD => ?_⟩
    refine comp_by (es.map (·.1)).length (fun i σ' H' => (∃ v1, σ' = [v1]) ∧ Same H H' ∧ ∃ gs : List (V × RowT), H' D = some (.lst (gs.map (·.1))) ∧ gs.map (·.2) = (es.map (·.2)).take i ∧ ∀ g ∈ gs, RowV K (off D H') g.1 g.2) ⟨⟨_, rfl⟩, same_upd hD, [], upd_same, rfl, fun _ z => nomatch z⟩ (fun i σ' H' hi pp => ?_) (fun σ' H' pp => ⟨?_, ?_⟩) (fun i σ' H' hi pp x H2 y => ?_)
    · obtain ⟨_, sm, _⟩ := pp
      exact ⟨_, _, sm.seq hL, List.getElem?_eq_getElem hi⟩
    · obtain ⟨_, sm, _⟩ := pp
      exact ⟨_, sm.seq hL, Nat.le_refl _⟩
    · obtain ⟨_, sm, gs, hF, ef, of⟩ := pp
      rw [List.take_of_length_le (by rw [List.length_map, List.length_map]; exact Nat.le_refl _)] at ef
      exact q D gs H' sm hD hF ef fun g hg => (of g hg).same (off_same D H')
    · obtain ⟨⟨v1, rfl⟩, sm, gs, hF, ef, of⟩ := pp
      obtain ⟨rfl, hx⟩ := y
      have hx' := hx _ (sm.seq hL)
      rw [List.getElem?_map] at hx'
      obtain ⟨⟨x0, e⟩, he, rfl⟩ := Option.map_eq_some_iff.mp hx'
      have hil : i < 100 := by
        have := (List.getElem?_eq_some_iff.mp he).1
        lia
      obtain ⟨⟨v, ⟨r, b, er, hr1, hb⟩, hd⟩, ok⟩ := hes _ (List.mem_of_getElem? he)
      have er : x0 = .ref r := er
      subst er
      have hd : Dat K H e.2.2 v := hd
      have lgs : gs.length = i := by
        have := congrArg List.length ef
        rw [List.length_map, List.length_take, List.length_map] at this
        have h2 := (List.getElem?_eq_some_iff.mp he).1
        lia
      have lf' : (gs.map (·.1)).length < sizeLine := by rw [List.length_map]; exact small1000 (by lia)
      have oo := same_off sm hD
      have stp : (es.map (·.2)).take (i + 1) = (es.map (·.2)).take i ++ [e] := by
        rw [List.take_succ, List.getElem?_map, he]
        rfl
      refine ⟨_, rfl, _, rfl, _, _, _, _, rfl, rfl, sm.seqT hr1, rfl, _, _, _, rfl, Dat.same sm _ _ hd, by decide, _, rfl, ?_⟩
      rw [ty_ls]
      have two : isLs e.2.2 = false ∨ ∃ a xs ds, v = .ref a ∧ SqL K H a xs ∧ Dats K H ds xs ∧ e.2.2 = .list ds := by
        revert hd
        generalize e.2.2 = d
        intro hd
        cases hd with
        | lst h r => exact .inr ⟨_, _, _, rfl, h, r, rfl⟩
        | non => exact .inl rfl
        | bl b => exact .inl rfl
        | int i => exact .inl rfl
        | str z h => exact .inl rfl
        | tup h r => exact .inl rfl
      rcases two with e1 | ⟨la, xs, ds, rfl, hl, e2, e1⟩
      · refine iteFb e1 ⟨_, rfl, ?_⟩
        refine ⟨_, hF, lf', ⟨_, rfl⟩, sm.set hD, gs ++ [(.ref r, e)], by rw [upd_same, List.map_append]; rfl, by rw [List.map_append, ef, stp]; rfl, fun g hg => ?_⟩
        rw [off_upd]
        rcases List.mem_append.mp hg with hg | hg
        · exact of g hg
        · rw [List.mem_singleton.mp hg]
          exact ⟨v, ⟨r, b, rfl, oo.seqT hr1, oo.seqT hb⟩, Dat.same oo _ _ hd⟩
      · refine iteTb (by show isLs e.2.2 = true; rw [e1]; rfl) ?_
        refine ⟨_, rfl, _, rfl, _, rfl, _, _, rfl, sm.seqT hr1, fun p1 H3 s3 hp1 => ?_⟩
        refine ⟨_, rfl, _, rfl, _, _, _, _, rfl, rfl, s3.seqT (sm.seqT hr1), rfl, _, _, rfl, .inl (s3.seq (sm.seq hl)), fun c hc => ?_⟩
        have s4 := same_upd (o := HO.lst xs) hc
        have hF3 := s3 _ _ hF
        have cD : c ≠ D := fun z => by rw [z, hF3] at hc; cases hc
        refine ⟨by show 1 ≤ sizeLine; decide, fun p2 hp2 => ?_⟩
        have s5 := same_upd (o := HO.tup [.ref c]) hp2
        refine ⟨_, _, _, _, rfl, rfl, s5.seqT (s4.seqT hp1), SqT.of upd_same, by show 3 ≤ sizeLine; decide, fun p3 H6 s6 hp3 => ?_⟩
        have t6 := s3.trans (s4.trans (s5.trans s6))
        have hF6 := t6 _ _ hF
        refine ⟨_, hF6, lf', ⟨_, rfl⟩, (sm.trans t6).set hD, gs ++ [(.ref p3, e)], by rw [upd_same, List.map_append]; rfl, by rw [List.map_append, ef, stp]; rfl, fun g hg => ?_⟩
        rw [off_upd]
        rcases List.mem_append.mp hg with hg | hg
        · exact (of g hg).same (off_mono t6)
        · rw [List.mem_singleton.mp hg]
          have o6 := same_off (sm.trans t6) hD
          have hc6 : off D H6 c = some (.lst xs) := by
            rw [off_ne cD]
            exact s6 _ _ (s5 _ _ upd_same)
          refine ⟨.ref c, ⟨p3, b, rfl, seqT_off hp3 hF6, o6.seqT hb⟩, ?_⟩
          show Dat K _ e.2.2 _
          rw [e1]
          exact .lst (SqL.of hc6) (Dats.same o6 _ _ e2)
end
end Wy
namespace Wy
open PySem L2
section
variable {P : Program} {w : World} {K : PySem.W.Frag} {mg : Str → Option Value} {base : Heap}
theorem depth_head (tb : Str) (r : List Key) : (PyData.tuple [.str tb, .tuple (r.map keyD)]).depth ≤ 10 := by
  refine Nat.succ_le_succ (depth_all fun d hd => ?_)
  simp only [List.mem_cons, List.not_mem_nil, or_false] at hd
  rcases hd with rfl | rfl
  · exact Nat.zero_le _
  · exact Nat.le_trans (depth_keys _) (by decide)
theorem cut_ints (ns : List Int) (lo hi : Option Int) : ∃ ms : List Int, cutV (ns.map V.int) lo hi = ms.map V.int ∧ ms.length ≤ ns.length := by
  unfold cutV
  rw [← List.map_drop, ← List.map_take]
  exact ⟨_, rfl, by rw [List.length_take, List.length_drop]; lia⟩
def sp_told (K : PySem.W.Frag) : Sp := fun vs H Q _ => ∃ (a t u : Addr) (nm : Str) (ns : List Int) (zs : List Str) (ks : List Key), vs = [.ref a, .ref t, .ref u, .str nm] ∧ SqL K H a (ns.map V.int) ∧ SqL K H t (zs.map V.str) ∧ SqL K H u (ks.map kV) ∧ ns.length ≤ 63 ∧ zs.length = 4 ∧ (∀ z ∈ zs, txtB smaS z = true) ∧ ks.length = 4 ∧ (∀ k ∈ ks, GoodK k) ∧ txtB smaS nm = true ∧
  ∀ L (es : List (V × RowT)) H', Same H H' → H L = none → H' L = some (.lst (es.map (·.1))) → es.length ≤ 90 → (∀ e ∈ es, RowV K (off L H') e.1 e.2 ∧ RowOk e.2) → SrtR (es.map (·.2)) → Q (.ref L) H'
theorem ok__law_told (T : Txt K mg) : Def P w K mg base 3 "_law_told" ["_law_script", "_law_tables", "_law_values", "_law_name_here"] (sp_told K) := by
  refine T.t__law_told.ok sc__law_told (fun vs H Q E h => ?_) fun f cdv A outer s H vs Q E hr h => ?_
  · obtain ⟨a, t, u, nm, ns, zs, ks, rfl, _⟩ := h
    rfl
  · obtain ⟨a, t, u, nm, ns, zs, ks, rfl, hS, ht, hu, ln, lz, nz, lk, gk, hn, q⟩ := h
    refine ⟨_, (pss_5
      (ps_set (i := 4) sc__law_told.nd rfl (Or.inl rfl) (pe_lst pa_nil))
      (ps_set (i := 5) sc__law_told.nd rfl (Or.inr rfl) (pe_op op_add (pe_op op_mod (pe_def (ok__law_cell_at T) hr rfl (pa_2 (pv 0) pe_int)) pe_int) pe_int))
      (ps_set (i := 6) sc__law_told.nd rfl (Or.inl rfl) (pe_op op_cat (pe_slice (sl_listK K) (pv 0) (po_some pe_int) (po_some pe_int)) (pe_comp (N := ["_law_k", "_law_script"]) (caps := [none, some 0]) rfl (by with_unfolding_all rfl) (pi_range1 rfl T.b_range (pa_1 (pe_op op_mod (pe_def (ok__law_cell_at T) hr rfl (pa_2 (pv 0) pe_int)) pe_int))) (fun _ _ _ _ _ => (pg_name (i := 0) (show (["_law_k", "_law_script"] : List Str).Nodup by decide +kernel) rfl (Or.inl rfl))) (fun _ _ _ _ _ => pf_nil) (fun _ _ _ _ _ => (pe_op op_add (pe_def (ok__law_cell_at T) hr rfl (pa_2 (pv 1) pe_int)) (pe_op op_mul (pv 0) (pv 0)))))))
      (ps_for PassesOwn.never rfl (pi_range1 rfl T.b_range (pa_1 (pe_callB (call_lenK K) rfl T.b_len bt_len (pa_1 (pv 6))))) (pg_name (i := 7) sc__law_told.nd rfl (Or.inl rfl)) (pss_7
      (ps_set (i := 5) sc__law_told.nd rfl (Or.inr rfl) (pe_op op_mod (pe_op op_add (pe_op op_add (pe_op op_mul (pv 5) pe_int) (pe_op op_mod (pe_ix (ix_listK K) (pv 6) (pv 7) (fun _ _ => rfl)) pe_int)) pe_int) pe_int))
      (ps_set (i := 8) sc__law_told.nd rfl (Or.inl rfl) (pe_ix (ix_listK K) (pe_lst (pa_7 pe_int pe_int pe_int pe_int pe_int pe_int pe_int)) (pe_op op_mod (pe_op op_fdiv (pv 5) pe_int) pe_int) (fun _ _ => rfl)))
      (ps_set (i := 9) sc__law_told.nd rfl (Or.inl rfl) (pe_callTy (call_tupleK K) rfl T.b_tuple bt_tuple (pa_1 (pe_comp (N := ["_law_j", "_law_values", "_law_x"]) (caps := [none, some 2, some 5]) rfl (by with_unfolding_all rfl) (pi_range1 rfl T.b_range (pa_1 (pv 8))) (fun _ _ _ _ _ => (pg_name (i := 0) (show (["_law_j", "_law_values", "_law_x"] : List Str).Nodup by decide +kernel) rfl (Or.inl rfl))) (fun _ _ _ _ _ => pf_nil) (fun _ _ _ _ _ => (pe_ix (ix_listK K) (pv 1) (pe_op op_mod (pe_op op_fdiv (pv 2) (pe_ix (ix_listK K) (pe_lst (pa_4 pe_int pe_int pe_int pe_int)) (pv 0) (fun _ _ => rfl))) pe_int) (fun _ _ => rfl)))))))
      (ps_set (i := 10) sc__law_told.nd rfl (Or.inl rfl) (pe_tup (pa_3 (pe_ix (ix_listK K) (pv 1) (pe_ix (ix_listK K) (pe_lst (pa_4 pe_int pe_int pe_int pe_int)) (pe_op op_mod (pe_op op_fdiv (pv 5) pe_int) pe_int) (fun _ _ => rfl)) (fun _ _ => rfl)) (pv 9) (pe_def (ok__law_thing T) hr rfl (pa_4 (pe_op op_mod (pe_def (ok__law_cell_at T) hr rfl (pa_2 (pv 0) pe_int)) pe_int) (pe_op op_fdiv (pv 5) pe_int) (pe_ix (ix_listK K) (pv 6) (pv 7) (fun _ _ => rfl)) (pv 3))))))
      (ps_set (i := 11) sc__law_told.nd rfl (Or.inl rfl) pe_int)
      (ps_while PassesOwn.never (PW.pt (pw_and (pt_cmpR op_lt (pv 11) (pe_callB (call_lenK K) rfl T.b_len bt_len (pa_1 (pv 4))) (nomark _)) (pw_and1 (pt_val (pe_def (ok__law_ahead T) hr rfl (pa_2 (pe_ix (ix_listK K) (pv 4) (pv 11) (fun _ _ => rfl)) (pv 10))))))) (pss_one (ps_set (i := 11) sc__law_told.nd rfl (Or.inl rfl) (pe_op op_add (pv 11) pe_int))))
      (ps_if (PW.pt (pw_or (pt_cmpR op_eq (pv 11) (pe_callB (call_lenK K) rfl T.b_len bt_len (pa_1 (pv 4))) (nomark _)) (pw_or1 (pt_cmpR (op_neD hr.units K) (pe_slice (sl_tupA K) (pe_ix (ix_listK K) (pv 4) (pv 11) (fun _ _ => rfl)) po_none (po_some pe_int)) (pe_slice (sl_tupA K) (pv 10) po_none (po_some pe_int)) (nomark _))))) (pss_one (ps_expr (pe_bm PySem.F.plainAttrs_list PySem.F.slot_list_insert PySem.F.type_list_insert mt_insert (pv 4) (pa_2 (pv 11) (pv 10))))) pss_nil)))
      (ps_ret (pv 4))), ?_⟩
    refine ⟨by decide, fun L hL => ?_⟩
    have s1 := same_upd (o := HO.lst []) hL
    have hL1 : upd H L (HO.lst []) L = some (.lst []) := upd_same
    refine ⟨_, rfl, a, ns, _, rfl, s1.seq hS, by decide, _, _, rfl, rfl, (by show (0 : Int) < 2147483587; decide), _, _, rfl, rfl, ?_⟩
    have x0 := Int.emod_nonneg (ns.getD (4 : Int).toNat 0) (show (2147483587 : Int) ≠ 0 by decide)
    refine ⟨_, rfl, _, rfl, _, rfl, _, _, rfl, s1.seq hS, fun p2 hp2 => ?_⟩
    obtain ⟨ms, ems, lms⟩ := cut_ints ns (some 14) (some 34)
    have s2 := same_upd (o := HO.lst (cutV (ns.map V.int) (some 14) (some 34))) hp2
    have w0 := Int.emod_nonneg (ns.getD (5 : Int).toNat 0) (show (21 : Int) ≠ 0 by decide)
    have w1 := Int.emod_lt_of_pos (ns.getD (5 : Int).toNat 0) (show (0 : Int) < 21 by decide)
    have t2 := s1.trans s2
    refine ⟨_, rfl, a, ns, _, rfl, t2.seq hS, by decide, _, _, rfl, rfl, (by show (0 : Int) < 21; decide), _, rfl, by lia, by lia, fun D hD => ?_⟩
    refine comp_by (ns.getD (5 : Int).toNat 0 % 21).toNat (fun i σ' G => (∃ v, σ' = [v, some (.ref a)]) ∧ Same (upd (upd H L (.lst [])) p2 (.lst (cutV (ns.map V.int) (some 14) (some 34)))) G ∧ ∃ cs : List Int, G D = some (.lst (cs.map V.int)) ∧ cs.length = i) ⟨⟨_, rfl⟩, same_upd hD, [], upd_same, rfl⟩ (fun i σ' G hi pp => hi) (fun σ' G pp => ⟨Nat.le_refl _, ?_⟩) (fun i σ' G hi pp x G2 y => ?_)
    · obtain ⟨_, s3, cs, hcs, lcs⟩ := pp
      have hp3 := s3 _ _ (upd_same (H := upd H L (.lst [])) (a := p2) (o := .lst (cutV (ns.map V.int) (some 14) (some 34))))
      refine ⟨p2, D, _, _, rfl, rfl, hp3, hcs, ?_, fun C hC => ?_⟩
      · rw [ems, List.length_map, List.length_map]
        exact Nat.le_trans (show ms.length + cs.length ≤ 1000 by lia) (by decide)
      rw [ems, ← List.map_append]
      have s4 := same_upd (o := HO.lst ((ms ++ cs).map V.int)) hC
      have lC : (ms ++ cs).length ≤ 90 := by rw [List.length_append]; lia
      generalize ms ++ cs = ds at s4 lC
      have t4 := t2.trans (s3.trans s4)
      have hL4 : upd G C (.lst (ds.map V.int)) L = some (.lst []) := (s2.trans (s3.trans s4)) _ _ hL1
      have nCL : C ≠ L := fun e => by
        rw [e, (s2.trans s3) _ _ hL1] at hC
        cases hC
      have hCB : off L (upd G C (.lst (ds.map V.int))) C = some (.lst (ds.map V.int)) := by
        rw [off_ne nCL]
        exact upd_same
      have tB : Same H (off L (upd G C (.lst (ds.map V.int)))) := same_off t4 hL
      have lenC : LenV K (.ref C) (upd G C (.lst (ds.map V.int))) ds.length := .inl ⟨_, SqL.of upd_same, by rw [List.length_map]⟩
      refine ⟨_, rfl, _, _, rfl, lenC, _, rfl, by lia, by lia, ?_⟩
      generalize upd G C (.lst (ds.map V.int)) = B at hCB tB hL4
      refine for_range (lo := 0) (n := ds.length) (fun i σ H' => ∃ (v7 v8 v9 v10 v11 : Option V) (x : Int) (es : List (V × RowT)), σ = [some (.ref a), some (.ref t), some (.ref u), some (.str nm), some (.ref L), some (.int x), some (.ref C), v7, v8, v9, v10, v11] ∧ Same (off L B) (off L H') ∧ H' L = some (.lst (es.map (·.1))) ∧ es.length ≤ i ∧ SrtR (es.map (·.2)) ∧ ∀ e ∈ es, RowV K (off L H') e.1 e.2 ∧ RowOk e.2)
        ⟨none, none, none, none, none, _, [], rfl, Same.refl _, hL4, Nat.le_refl _, .nil, fun _ z => nomatch z⟩ ?_ ?_
      · rintro i σ H1 hi ⟨v7, v8, v9, v10, v11, x, es, rfl, sB, hes, les, srt, oes⟩
        have sH : ∀ {F : Hp}, Same H1 F → Same (off L B) F := fun sF => (sB.trans (off_same L H1)).trans sF
        have atC : atI (ds.map V.int) (0 + (i : Int)) = some (V.int ds[i]) := by rw [Int.zero_add]; exact atI_nat (by rw [List.getElem?_map, List.getElem?_eq_getElem hi]; rfl)
        generalize ds[i] = c at atC
        refine ⟨_, rfl, _, _, rfl, rfl, .inr ⟨by decide, by decide⟩, _, rfl, _, rfl, _, _, _, _, rfl, rfl, SqL.of (sH (Same.refl _) _ _ hCB), atC, _, _, rfl, rfl, (by show (0 : Int) < 65521; decide), _, _, rfl, rfl, _, _, rfl, rfl, _, _, rfl, rfl, (by show (0 : Int) < 2147483647; decide), ?_⟩
        refine ⟨by show 7 ≤ sizeLine; decide, fun p5 hp5 => ?_⟩
        have y0 := Int.emod_nonneg (x * 48271 + c % 65521 + 3) (show (2147483647 : Int) ≠ 0 by decide)
        have s5 := same_upd (o := HO.lst [V.int 2, .int 2, .int 1, .int 3, .int 4, .int 0, .int 2]) hp5
        obtain ⟨sv, hat, hsv⟩ := atI_in (xs := [V.int 2, .int 2, .int 1, .int 3, .int 4, .int 0, .int 2]) (i := (x * 48271 + c % 65521 + 3) % 2147483647 / 7 % 7) (Int.emod_nonneg _ (by decide)) (Int.emod_lt_of_pos _ (by decide))
        obtain ⟨m, rfl, m0, m1⟩ : ∃ m : Int, sv = .int m ∧ 0 ≤ m ∧ m ≤ 4 := by
          simp only [List.mem_cons, List.not_mem_nil, or_false] at hsv
          rcases hsv with rfl | rfl | rfl | rfl | rfl | rfl | rfl <;> exact ⟨_, rfl, by decide, by decide⟩
        refine ⟨_, rfl, _, _, rfl, rfl, ⟨by decide, by decide⟩, _, _, rfl, rfl, (by show (0 : Int) < 7; decide), _, _, _, _, rfl, rfl, SqL.of upd_same, hat, ?_⟩
        refine ⟨_, rfl, _, rfl, by lia, by lia, fun D2 hD2 => ?_⟩
        refine comp_by m.toNat (fun j σ' G => (∃ v, σ' = [v, some (.ref u), some (.int ((x * 48271 + c % 65521 + 3) % 2147483647))]) ∧ Same (upd H1 p5 (.lst [V.int 2, .int 2, .int 1, .int 3, .int 4, .int 0, .int 2])) G ∧ ∃ rk : List Key, G D2 = some (.lst (rk.map kV)) ∧ rk.length = j ∧ ∀ k ∈ rk, GoodK k) ⟨⟨_, rfl⟩, same_upd hD2, [], upd_same, rfl, fun _ z => nomatch z⟩ (fun j σ' G hj pp => hj) (fun σ' G pp => ⟨Nat.le_refl _, ?_⟩) (fun j σ' G hj pp x G2 y => ?_)
        · obtain ⟨_, s6, rk, hrk, lrk, grk⟩ := pp
          refine ⟨D2, _, rfl, .inl ⟨SqL.of hrk, fun ra hra => ?_⟩⟩
          have s7 := same_upd (o := HO.tup (rk.map kV)) hra
          have r7 : SqT K (upd G ra (.tup (rk.map kV))) ra (rk.map kV) := SqT.of upd_same
          have t7 := s5.trans (s6.trans s7)
          generalize upd G ra (.tup (rk.map kV)) = H7 at r7 t7
          clear s7 hra
          refine ⟨_, rfl, by show 4 ≤ sizeLine; decide, fun p8 hp8 => ?_⟩
          have s8 := same_upd (o := HO.lst [V.int 0, .int 0, .int 1, .int 2]) hp8
          obtain ⟨sv, hat8, hsv⟩ := atI_in (xs := [V.int 0, .int 0, .int 1, .int 2]) (i := (x * 48271 + c % 65521 + 3) % 2147483647 / 4 % 4) (Int.emod_nonneg _ (by decide)) (Int.emod_lt_of_pos _ (by decide))
          obtain ⟨o, rfl, o0, o1⟩ : ∃ m : Int, sv = .int m ∧ 0 ≤ m ∧ m ≤ 2 := by
            simp only [List.mem_cons, List.not_mem_nil, or_false] at hsv
            rcases hsv with rfl | rfl | rfl | rfl <;> exact ⟨_, rfl, by decide, by decide⟩
          obtain ⟨tv, hat9, htv⟩ := atI_in (xs := zs.map V.str) (i := o) o0 (by rw [List.length_map, lz]; lia)
          obtain ⟨tb, htb, rfl⟩ := List.mem_map.mp htv
          have gtb := nz tb htb
          have t8 := t7.trans s8
          refine ⟨_, rfl, _, _, rfl, rfl, ⟨by decide, by decide⟩, _, _, rfl, rfl, (by show (0 : Int) < 4; decide), _, _, _, _, rfl, rfl, SqL.of upd_same, hat8, _, _, _, _, rfl, rfl, (sH t8).seq (tB.seq ht), hat9, ?_⟩
          refine ⟨_, rfl, _, rfl, a, ns, _, rfl, (sH t8).seq (tB.seq hS), by decide, _, _, rfl, rfl, (by show (0 : Int) < 4; decide), _, rfl, _, _, rfl, rfl, ⟨by decide, by decide⟩, _, rfl, _, rfl, _, _, _, _, rfl, rfl, SqL.of (sH t8 _ _ hCB), atC, _, rfl, _, _, _, _, rfl, hn, fun v d H9 s9 dd th => ?_⟩
          refine ⟨by show 3 ≤ sizeLine; decide, fun oa hoa => ?_⟩
          have hes8 := t8 _ _ hes
          have dd := dd L (by rw [hes8]; exact fun z => nomatch z)
          have t9 := t8.trans s9
          have s10 := same_upd (o := HO.tup [.str tb, .ref ra, v]) hoa
          have hes9 := t9 _ _ hes
          have noL : oa ≠ L := fun e => by rw [e, hes9] at hoa; cases hoa
          have ok : RowOk (tb, rk, d) := ⟨gtb, grk, by show rk.length ≤ 4; lia, th⟩
          have row : RowV K (off L (upd H9 oa (.tup [.str tb, .ref ra, v]))) (.ref oa) (tb, rk, d) := by
            refine ⟨v, ⟨oa, ra, rfl, SqT.of (by rw [off_ne noL]; exact upd_same), ?_⟩, ?_⟩
            · exact (off_mono s10).seqT (seqT_off ((s8.trans s9).seqT r7) hes9)
            · exact Dat.same (off_mono s10) _ _ dd
          have t10 := t9.trans s10
          have hes10 := t10 _ _ hes
          generalize upd H9 oa (.tup [.str tb, .ref ra, v]) = Ha at row t10 hes10
          have rows : ∀ e ∈ es, RowV K (off L Ha) e.1 e.2 ∧ RowOk e.2 := fun e he => ⟨(oes e he).1.same (off_mono t10), (oes e he).2⟩
          have lez : (es.map (·.1)).length < sizeLine := by rw [List.length_map]; exact small1000 (by lia)
          have nxt : ∀ F : Hp, Same Ha F → ∀ vj : Option V, ∃ (v7 v8 v9 v10 v11 : Option V) (x' : Int) (es' : List (V × RowT)), [some (.ref a), some (.ref t), some (.ref u), some (.str nm), some (.ref L), some (.int ((x * 48271 + c % 65521 + 3) % 2147483647)), some (.ref C), some (.int (0 + (i : Int))), some (.int m), some (.ref ra), some (.ref oa), vj] = [some (.ref a), some (.ref t), some (.ref u), some (.str nm), some (.ref L), some (.int x'), some (.ref C), v7, v8, v9, v10, v11] ∧ Same (off L B) (off L F) ∧ F L = some (.lst (es'.map (·.1))) ∧ es'.length ≤ i + 1 ∧ SrtR (es'.map (·.2)) ∧ ∀ e ∈ es', RowV K (off L F) e.1 e.2 ∧ RowOk e.2 := fun F sF vj =>
            ⟨_, _, _, _, _, _, es, rfl, sB.trans (off_mono (t10.trans sF)), sF _ _ hes10, Nat.le_succ_of_le les, srt, fun e he => ⟨(rows e he).1.same (off_mono sF), (rows e he).2⟩⟩
          have put : ∀ (F : Hp) (j : Nat), SrtR ((es.take j ++ (V.ref oa, ((tb, rk, d) : RowT)) :: es.drop j).map (·.2)) → Same Ha F → ∀ vj : Option V, ∃ (v7 v8 v9 v10 v11 : Option V) (x' : Int) (es' : List (V × RowT)), [some (.ref a), some (.ref t), some (.ref u), some (.str nm), some (.ref L), some (.int ((x * 48271 + c % 65521 + 3) % 2147483647)), some (.ref C), some (.int (0 + (i : Int))), some (.int m), some (.ref ra), some (.ref oa), vj] = [some (.ref a), some (.ref t), some (.ref u), some (.str nm), some (.ref L), some (.int x'), some (.ref C), v7, v8, v9, v10, v11] ∧ Same (off L B) (off L (upd F L (.lst ((es.map (·.1)).take (j : Int).toNat ++ .ref oa :: (es.map (·.1)).drop (j : Int).toNat)))) ∧ (upd F L (.lst ((es.map (·.1)).take (j : Int).toNat ++ .ref oa :: (es.map (·.1)).drop (j : Int).toNat))) L = some (.lst (es'.map (·.1))) ∧ es'.length ≤ i + 1 ∧ SrtR (es'.map (·.2)) ∧ ∀ e ∈ es', RowV K (off L (upd F L (.lst ((es.map (·.1)).take (j : Int).toNat ++ .ref oa :: (es.map (·.1)).drop (j : Int).toNat)))) e.1 e.2 ∧ RowOk e.2 := fun F j hso sF vj => by
            refine ⟨_, _, _, _, _, _, es.take j ++ (.ref oa, (tb, rk, d)) :: es.drop j, rfl, ?_, ?_, ?_, hso, fun e he => ?_⟩
            · rw [off_upd]
              exact sB.trans (off_mono (t10.trans sF))
            · rw [upd_same, List.map_append, List.map_cons, List.map_take, List.map_drop]
              rfl
            · rw [List.length_append, List.length_cons, List.length_take, List.length_drop]
              lia
            · rw [off_upd]
              rcases List.mem_append.mp he with he | he
              · have := rows e (List.mem_of_mem_take he)
                exact ⟨this.1.same (off_mono sF), this.2⟩
              · rcases List.mem_cons.mp he with rfl | he
                · exact ⟨row.same (off_mono sF), ok⟩
                · have := rows e (List.mem_of_mem_drop he)
                  exact ⟨this.1.same (off_mono sF), this.2⟩
          refine ⟨fun n σ F => ∃ j : Nat, j ≤ es.length ∧ n = es.length - j ∧ σ = [some (.ref a), some (.ref t), some (.ref u), some (.str nm), some (.ref L), some (.int ((x * 48271 + c % 65521 + 3) % 2147483647)), some (.ref C), some (.int (0 + (i : Int))), some (.int m), some (.ref ra), some (.ref oa), some (.int (j : Int))] ∧ Same Ha F ∧ ∀ e ∈ es.take j, prLt (keyR e.2) (tb, rk) = true, ⟨_, 0, Nat.zero_le _, rfl, rfl, Same.refl _, fun _ z => by rw [List.take_zero] at z; cases z⟩, ?_⟩
          rintro n σ F ⟨j, hj, rfl, rfl, sF, ahd⟩
          have lenL : ∀ {F : Hp}, Same Ha F → LenV K (.ref L) F es.length := fun sF => .inl ⟨_, SqL.of (sF _ _ hes10), by rw [List.length_map]⟩
          have bJ : (j : Int) < 2 ^ 62 := by lia
          refine ⟨_, rfl, _, rfl, _, _, rfl, lenL sF, _, _, rfl, rfl, _, rfl, ite2 (fun h1 => ?_) (fun h1 => ?_)⟩
          · have hj2 : j < es.length := by
              have := of_decide_eq_true h1
              lia
            obtain ⟨⟨y, e⟩, ee⟩ : ∃ e, es[j] = e := ⟨_, rfl⟩
            have hej : es[j]? = some (y, e) := by rw [List.getElem?_eq_getElem hj2, ee]
            have atj : atI (es.map (·.1)) (j : Int) = some y := atI_nat (by rw [List.getElem?_map, hej]; rfl)
            obtain ⟨⟨ve, oe, de⟩, oke⟩ := rows _ (List.mem_of_getElem? hej)
            have oke : RowOk e := oke
            obtain ⟨vr, or, dr⟩ := row
            have fF := (off_same L Ha).trans sF
            refine ⟨_, rfl, _, rfl, _, _, _, _, rfl, rfl, SqL.of (sF _ _ hes10), atj, _, rfl, y, .ref oa, e.1, tb, e.2.1, rk, ve, vr, rfl, oe.same fF, or.same fF, oke.tb, gtb, oke.ks, grk, fun F2 sF2 => ?_⟩
            refine ⟨_, rfl, ?_⟩
            have sF3 := sF.trans sF2
            cases hbb : prLt (e.1, e.2.1) (tb, rk) with
            | true =>
              refine iteT ⟨fun σ' H' => ∃ j' : Nat, j' ≤ es.length ∧ es.length - j' < es.length - j ∧ σ' = [some (.ref a), some (.ref t), some (.ref u), some (.str nm), some (.ref L), some (.int ((x * 48271 + c % 65521 + 3) % 2147483647)), some (.ref C), some (.int (0 + (i : Int))), some (.int m), some (.ref ra), some (.ref oa), some (.int (j' : Int))] ∧ Same Ha H' ∧ ∀ e ∈ es.take j', prLt (keyR e.2) (tb, rk) = true, fun σ' H' ⟨j', l1, l2, l3, l4, l5⟩ => ⟨_, l2, j', l1, rfl, l3, l4, l5⟩, ?_⟩
              refine ⟨_, rfl, _, _, rfl, rfl, j + 1, hj2, by lia, rfl, sF3, fun z hz => ?_⟩
              rw [List.take_succ, hej] at hz
              rcases List.mem_append.mp hz with hz | hz
              · exact ahd z hz
              · rw [List.mem_singleton.mp hz]
                exact hbb
            | false =>
              refine iteF ?_
              refine ⟨_, rfl, _, rfl, _, _, rfl, lenL sF3, rfl, _, rfl, iteFb (decide_eq_false fun z => by injection z with z; lia) ?_⟩
              obtain ⟨ea, eb, ex, h1a, h1b⟩ := oe.ex
              obtain ⟨oa2, ob, ox, h2a, h2b⟩ := or.ex
              subst ex
              cases ox
              have f3 := (off_same L Ha).trans sF3
              refine ⟨_, rfl, _, rfl, _, _, _, _, rfl, rfl, SqL.of (sF3 _ _ hes10), atj, _, rfl, _, _, rfl, f3.seqT h1a, fun q1 F4 s4' hq1 => ?_⟩
              have f4 := f3.trans s4'
              refine ⟨_, rfl, _, rfl, _, _, rfl, f4.seqT h2a, fun q2 F5 s5' hq2 => ?_⟩
              have f5 := f4.trans s5'
              have sF5 := sF3.trans (s4'.trans s5')
              refine ⟨.tuple [.str e.1, .tuple (e.2.1.map keyD)], .tuple [.str tb, .tuple (rk.map keyD)], .tup (s5'.seqT hq1) (.cons (.str _ (txtB_str sma_lt oke.tb)) (.cons (dat_keys5 (f5.seqT h1b) oke.ks) .nil)), .tup hq2 (.cons (.str _ (txtB_str sma_lt gtb)) (.cons (dat_keys5 (f5.seqT h2b) grk) .nil)), Nat.le_trans (depth_head _ _) (by decide), _, rfl, ite2 (fun hne => ?_) (fun _ => ?_)⟩
              · have ne : ¬ ((e.1, e.2.1) : PR) = (tb, rk) := fun z => by
                  injection z with z1 z2
                  rw [z1, z2, PySem.SeqAt.eqv_refl _ (Dat.lay _ _ (Dat.tup hq2 (.cons (.str _ (txtB_str sma_lt gtb)) (.cons (dat_keys5 (f5.seqT h2b) grk) .nil))))] at hne
                  cases hne
                have lt : prLt (tb, rk) (e.1, e.2.1) = true := by
                  cases z : prLt (tb, rk) (e.1, e.2.1) with
                  | true => rfl
                  | false => exact absurd (sto_pr.tri _ _ hbb z) ne
                exact ⟨_, rfl, .inl ⟨rfl, _, SqL.of (sF5 _ _ hes10)⟩, _, rfl, _, rfl, L, _, _, (j : Int), rfl, rfl, sF5 _ _ hes10, lez, by lia, by rw [List.length_map]; lia, put F5 j (ins_srt srt ahd (drop_lt (e := (_, e)) srt hej lt)) sF5 _⟩
              · exact nxt F5 sF5 _
          · have hj2 : j = es.length := by
              by_cases z : j < es.length
              · exact absurd (decide_eq_true (by lia)) h1
              · lia
            refine iteF ?_
            refine ⟨_, rfl, _, rfl, _, _, rfl, lenL sF, rfl, _, rfl, iteTb (decide_eq_true (by rw [hj2])) ?_⟩
            exact ⟨_, rfl, .inl ⟨rfl, _, SqL.of (sF _ _ hes10)⟩, _, rfl, _, rfl, L, _, _, (j : Int), rfl, rfl, sF _ _ hes10, lez, by lia, by rw [List.length_map]; lia, put F j (ins_srt srt ahd fun z hz => by rw [hj2, List.drop_length] at hz; cases hz) sF _⟩
        · obtain ⟨⟨v, rfl⟩, s6, rk, hrk, lrk, grk⟩ := pp
          obtain ⟨rfl, rfl⟩ := y
          refine ⟨_, rfl, _, rfl, by show 4 ≤ sizeLine; decide, fun p8 hp8 => ?_⟩
          have s8 := same_upd (o := HO.lst [V.int 49, .int 196, .int 784, .int 3136]) hp8
          obtain ⟨sv, hat8, hsv⟩ := atI_in (xs := [V.int 49, .int 196, .int 784, .int 3136]) (i := 0 + (j : Int)) (by lia) (by show 0 + (j : Int) < 4; lia)
          obtain ⟨o, rfl, o0, o1⟩ : ∃ m : Int, sv = .int m ∧ 0 < m ∧ m ≤ 3136 := by
            simp only [List.mem_cons, List.not_mem_nil, or_false] at hsv
            rcases hsv with rfl | rfl | rfl | rfl <;> exact ⟨_, rfl, by decide, by decide⟩
          obtain ⟨kv, hat9, hkv⟩ := atI_in (xs := ks.map kV) (i := (x * 48271 + c % 65521 + 3) % 2147483647 / o % 4) (Int.emod_nonneg _ (by decide)) (by rw [List.length_map, lk]; exact Int.emod_lt_of_pos _ (by decide))
          obtain ⟨k, hk, rfl⟩ := List.mem_map.mp hkv
          have t8 := s5.trans (s6.trans s8)
          refine ⟨_, rfl, _, _, _, _, rfl, rfl, SqL.of upd_same, hat8, _, _, rfl, rfl, ⟨o0, by lia⟩, _, _, rfl, rfl, (by show (0 : Int) < 4; decide), _, _, _, _, rfl, rfl, (sH t8).seq (tB.seq hu), hat9, ?_⟩
          refine ⟨_, s8 _ _ hrk, by rw [List.length_map, lrk]; exact small1000 (by lia), ⟨_, rfl⟩, (s6.trans s8).set hD2, rk ++ [k], by rw [upd_same, List.map_append]; rfl, by rw [List.length_append, lrk]; rfl, fun z hz => ?_⟩
          rcases List.mem_append.mp hz with hz | hz
          · exact grk z hz
          · rw [List.mem_singleton.mp hz]
            exact gk k hk
      · rintro σ H1 ⟨v7, v8, v9, v10, v11, x, es, rfl, sB, hes, les, srt, oes⟩
        exact ⟨_, rfl, q L es H1 (tB.trans (sB.trans (off_same L H1))) hL hes (by lia) oes srt⟩
    · obtain ⟨⟨v, rfl⟩, s3, cs, hcs, lcs⟩ := pp
      obtain ⟨rfl, rfl⟩ := y
      refine ⟨_, rfl, a, ns, _, rfl, (t2.trans s3).seq hS, by decide, _, rfl, _, rfl, _, _, rfl, rfl, .inl ⟨by lia, by lia⟩, _, _, rfl, rfl, ?_⟩
      exact ⟨_, hcs, by rw [List.length_map, lcs]; exact small1000 (by lia), ⟨_, rfl⟩, s3.set hD, cs ++ [_], by rw [upd_same, List.map_append]; rfl, by rw [List.length_append, lcs]; rfl⟩
end
end Wy
namespace Wy
open PySem L2
section
variable {K : PySem.W.Frag} {tP : Addr} {ps : Array Value} {H H' : Hp}
mutual
theorem dat_smT (s : SmT tP H H') (t : H tP = some (.tbl ps)) : ∀ (d : PyData) (x : V), Dat K H d x → Dat K H' d x
  | _, _, .non => .non
  | _, _, .bl b => .bl b
  | _, _, .int i => .int i
  | _, _, .str x h => .str x h
  | _, _, .lst h r => .lst (s.seq t h) (dats_smT s t _ _ r)
  | _, _, .tup h r => .tup (s.seqT t h) (dats_smT s t _ _ r)
theorem dats_smT (s : SmT tP H H') (t : H tP = some (.tbl ps)) : ∀ (ds : List PyData) (xs : List V), Dats K H ds xs → Dats K H' ds xs
  | _, _, .nil => .nil
  | _, _, .cons a b => .cons (dat_smT s t _ _ a) (dats_smT s t _ _ b)
end
theorem RowV.smT {x : V} {e : RowT} (s : SmT tP H H') (t : H tP = some (.tbl ps)) (h : RowV K H x e) : RowV K H' x e := by
  obtain ⟨v, ⟨a, b, e1, h1, h2⟩, d⟩ := h
  exact ⟨v, ⟨a, b, e1, s.seqT t h1, s.seqT t h2⟩, dat_smT s t _ _ d⟩
theorem PairV5.smT {x : V} {e : PairT} (s : SmT tP H H') (t : H tP = some (.tbl ps)) (h : PairV5 K H x e) : PairV5 K H' x e := by
  obtain ⟨a, b, v, e1, h1, h2, d⟩ := h
  exact ⟨a, b, v, e1, s.seqT t h1, s.seqT t h2, dat_smT s t _ _ d⟩
end
def kwLam : List Stmt → Expr
  | _ :: .Return (some (.Call _ _ (kw :: _) _)) _ :: _ => kw.value
  | _ => .Name "" ⟨0, 0, 0, 0⟩
def lamP : Expr → Arguments
  | .Lambda p _ _ _ => p
  | _ => ⟨[], [], none, [], [], none, []⟩
def lamB : Expr → Expr
  | .Lambda _ b _ _ => b
  | e => e
def lamS : Expr → Scope
  | .Lambda _ _ s _ => s
  | _ => { kind := .function, names := [], isGenerator := false, isCoroutine := false }
def lamL : Expr → Pos
  | .Lambda _ _ _ p => p
  | _ => ⟨0, 0, 0, 0⟩
abbrev lamE : Expr := kwLam (defBody s_asked)
abbrev lamQ : Str := ((Str.ofString "asked") ++ (Str.ofString ".<locals>.")) ++ (Str.ofString "<lambda>")
abbrev TabK (tP : Addr) (H : Hp) : Prop := TabA tP (lamL lamE) lamQ H
theorem sc_lam : FnScope ["pair"] ["pair"] (lamS lamE) := ⟨rfl, rfl, rfl, by decide +kernel, rfl, by decide +kernel, by decide +kernel⟩
section
variable {P : Program} {w : World} {K : PySem.W.Frag} {mg : Str → Option Value} {base : Heap}
def sp_lam (K : PySem.W.Frag) : Sp := fun vs H Q _ => ∃ (p b : Addr) (v : V) (ks : List Key), vs = [.ref p] ∧ SqT K H p [.ref b, v] ∧ SqT K H b (ks.map kV) ∧ (∀ k ∈ ks, OkK k) ∧ ks.length ≤ 100 ∧ ∀ v H', Same H H' → Dat K H' (.tuple (ks.map ordD)) v → Q v H'
theorem lam_is (T : Txt K mg) : LamD P w K mg base 3 lamQ (lamP lamE) (lamB lamE) (lamS lamE) (sp_lam K) := by
  refine ⟨["pair"], "pair", sc_lam, fun vs H Q E h => ?_, fun pm cdv ct us hl => match us, hl with | [_], _ => rfl, fun f c A outer s H vs Q hr h => ?_⟩
  · obtain ⟨p, b, v, ks, rfl, _⟩ := h
    rfl
  · obtain ⟨p, b, v, ks, rfl, hp, hb, ok, lk, k⟩ := h
    refine ⟨_, (pe_def (ok_row_key T) hr rfl (pa_1 (pe_ix (ix_tupK K) (pv 0) pe_int (fun _ _ => rfl)))), ?_⟩
    exact ⟨_, rfl, _, _, _, _, rfl, rfl, hp, atI_nat (j := 0) rfl, b, ks, rfl, hb, ok, lk, fun r rs H1 s1 hr' dr => k _ _ s1 (.tup (SqT.of hr') dr)⟩
end
end Wy
namespace Wy
open PySem L2
section
variable {P : Program} {w : World} {K : PySem.W.Frag} {mg : Str → Option Value} {base : Heap}
def wants (tb : Str) (ts : List Key) (r : RowT) : Bool := decide (r.1 = tb) && metB ts r.2.1
def asks (tb : Str) (ts : List Key) (rs : List RowT) : List PairT := (rs.filter (wants tb ts)).map (·.2)
theorem asks_step {tb : Str} {ts : List Key} {rs : List RowT} {i : Nat} {r : RowT} (h : rs[i]? = some r) : asks tb ts (rs.take (i + 1)) = asks tb ts (rs.take i) ++ (if wants tb ts r = true then [r.2] else []) := by
  unfold asks
  rw [List.take_succ, h, List.filter_append, List.map_append]
  congr 1
  show List.map _ (List.filter _ [r]) = _
  by_cases e : wants tb ts r = true
  · rw [if_pos e, List.filter_cons_of_pos e]
    rfl
  · rw [if_neg e, List.filter_cons_of_neg e]
    rfl
def FndV (K : PySem.W.Frag) (H G : Hp) (x : V) (e : PairT) : Prop := ∃ p b v, x = .ref p ∧ G p = some (.tup [.ref b, v]) ∧ SqT K G b (e.1.map kV) ∧ Dat K G e.2 v ∧ (isLs e.2 = false ∨ ∃ c xs, v = .ref c ∧ H c = none ∧ G c = some (.lst xs) ∧ xs.length ≤ 2)
theorem FndV.same {H G G' : Hp} {x : V} {e : PairT} (h : FndV K H G x e) (s : Same G G') : FndV K H G' x e := by
  obtain ⟨p, b, v, rfl, h1, h2, d, o⟩ := h
  refine ⟨p, b, v, rfl, s _ _ h1, s.seqT h2, Dat.same s _ _ d, ?_⟩
  rcases o with o | ⟨c, xs, e1, e2, e3, e4⟩
  · exact .inl o
  · exact .inr ⟨c, xs, e1, e2, s _ _ e3, e4⟩
theorem FndV.pair {H G : Hp} {x : V} {e : PairT} (h : FndV K H G x e) : PairV5 K G x e := by
  obtain ⟨p, b, v, rfl, h1, h2, d, _⟩ := h
  exact ⟨p, b, v, rfl, SqT.of h1, h2, d⟩
theorem FndV.smT {tP : Addr} {ps : Array Value} {H G G' : Hp} {x : V} {e : PairT} (s : SmT tP G G') (t : G tP = some (.tbl ps)) (h : FndV K H G x e) : FndV K H G' x e := by
  obtain ⟨p, b, v, rfl, h1, h2, d, o⟩ := h
  refine ⟨p, b, v, rfl, s _ _ (fun z => by rw [z, t] at h1; cases h1) h1, s.seqT t h2, dat_smT s t _ _ d, ?_⟩
  rcases o with o | ⟨c, xs, e1, e2, e3, e4⟩
  · exact .inl o
  · exact .inr ⟨c, xs, e1, e2, s _ _ (fun z => by rw [z, t] at e3; cases e3) e3, e4⟩
theorem asks_srt {tb : Str} {ts : List Key} {rs : List RowT} (h : SrtR rs) : (asks tb ts rs).Pairwise fun p q => rowLt p.1 q.1 = true := by
  refine List.pairwise_map.mpr ((h.sublist (List.filter_sublist)).imp_of_mem fun {x y} hx hy z => ?_)
  have e : ∀ r : RowT, r ∈ rs.filter (wants tb ts) → r.1 = tb := fun r hr => by
    have := (List.mem_filter.mp hr).2
    unfold wants at this
    rw [Bool.and_eq_true] at this
    exact of_decide_eq_true this.1
  unfold prLt keyR at z
  rw [if_pos ((e x hx).trans (e y hy).symm)] at z
  exact z
theorem row_at {ls : List PairT} (h : ls.Pairwise fun p q => rowLt p.1 q.1 = true) {i j : Nat} (hi : i < ls.length) (hj : j < ls.length) : rowLt (ls.getD i ([], .none)).1 (ls.getD j ([], .none)).1 = decide (i < j) := by
  rw [List.getD_eq_getElem?_getD, List.getD_eq_getElem?_getD, List.getElem?_eq_getElem hi, List.getElem?_eq_getElem hj]
  show rowLt ls[i].1 ls[j].1 = _
  have p := List.pairwise_iff_getElem.mp h
  rcases Nat.lt_trichotomy i j with c | c | c
  · rw [decide_eq_true c]
    exact p i j hi hj c
  · subst c
    rw [decide_eq_false (Nat.lt_irrefl _)]
    exact sto_row.irr _
  · rw [decide_eq_false (Nat.not_lt_of_lt c)]
    exact sto_row.asym (p j i hj hi c)
theorem refs_of : ∀ {fs : List (V × PairT)}, (∀ f ∈ fs, ∃ p : Addr, f.1 = .ref p) → ∃ as : List Addr, fs.map (·.1) = as.map V.ref
  | [], _ => ⟨[], rfl⟩
  | f :: fs, h => by
    obtain ⟨p, e⟩ := h f (List.mem_cons_self ..)
    obtain ⟨as, ea⟩ := refs_of (fs := fs) fun g hg => h g (List.mem_cons_of_mem _ hg)
    exact ⟨p :: as, by rw [List.map_cons, List.map_cons, e, ea]⟩
def sp_asked (K : PySem.W.Frag) (tP : Addr) : Sp := fun vs H Q _ => ∃ (L p a : Addr) (es : List (V × RowT)) (tb : Str) (ts : List Key), vs = [.ref L, .ref p] ∧ SqL K H L (es.map (·.1)) ∧ (∀ e ∈ es, RowV K H e.1 e.2 ∧ RowOk e.2) ∧ es.length ≤ 100 ∧ SqT K H p [.str tb, .ref a] ∧ SqT K H a (ts.map kV) ∧ (∀ t ∈ ts, TmK t) ∧ ts.length ≤ 100 ∧ SrtR (es.map (·.2)) ∧ TabK tP H ∧
  ∀ F (fs : List (V × PairT)) H', SmT tP H H' → TabK tP H' → H F = none → H' F = some (.lst (fs.map (·.1))) → fs.map (·.2) = asks tb ts (es.map (·.2)) → (∀ f ∈ fs, FndV K H (off F H') f.1 f.2) → Q (.ref F) H'
theorem ok_asked {c0 tP : Addr} (T : Txt K mg) (hA : ∀ f, mg "asked" = some (.ref f) → ∀ oc od fd osl, K.lookup f = some ⟨oc, od, .func fd, osl⟩ → fd.code = .ref c0) (hC : PySem.W.codeHdIn K c0 tP = true) (hB : K.In base) (hbm : base.BuiltinsAt mg tP) : Def P w K mg base 7 "asked" ["told", "atom"] (sp_asked K tP) := by
  refine T.t_asked.okC (k := 6) hA sc_asked (fun vs H Q E h => ?_) fun f A outer s H vs Q E hr h => ?_
  · obtain ⟨L, p, a, es, tb, ts, rfl, _⟩ := h
    rfl
  · obtain ⟨L, p, a, es, tb, ts, rfl, hL, hes, le, hp, ha, tms, lt, srt, tab, q⟩ := h
    refine ⟨_, (pss_2
      (ps_setComp (i := 2) sc_asked.nd rfl rfl (N := ["table", "row", "worth", "atom"]) (caps := [none, none, none, some 1]) rfl (by with_unfolding_all rfl) (pi_listK K (pv 0)) (fun _ _ _ _ _ => (pg_tupK K (n := 3) rfl (pgs_cons (pg_name (i := 0) (show (["table", "row", "worth", "atom"] : List Str).Nodup by decide +kernel) rfl (Or.inl rfl)) (pgs_cons (pg_name (i := 1) (show (["table", "row", "worth", "atom"] : List Str).Nodup by decide +kernel) rfl (Or.inl rfl)) (pgs_cons (pg_name (i := 2) (show (["table", "row", "worth", "atom"] : List Str).Nodup by decide +kernel) rfl (Or.inl rfl)) pgs_nil))))) (fun _ _ _ _ _ => pf_one (pt_val (pe_def (ok_is_asked T) hr rfl (pa_3 (pv 3) (pv 0) (pv 1))))) (fun _ _ _ _ _ => (pe_tup (pa_2 (pv 1) (pe_def (ok_own T) hr rfl (pa_1 (pv 2)))))))
      (ps_ret (pe_sortedLam K (lam_is T) (pe_lam (tP := tP) rfl (PySem.W.codeHd_of_K hB hC) hbm) hr rfl rfl T.b_sorted bt_sorted (pa_1 (pv 2))))), ?_⟩
    refine ⟨_, rfl, L, rfl, ⟨_, hL⟩, fun D hD => ?_⟩
    refine comp_by (es.map (·.1)).length (fun i σ' H' => (∃ v1 v2 v3, σ' = [v1, v2, v3, some (.ref p)]) ∧ Same H H' ∧ ∃ fs : List (V × PairT), H' D = some (.lst (fs.map (·.1))) ∧ fs.length ≤ i ∧ fs.map (·.2) = asks tb ts ((es.map (·.2)).take i) ∧ (fs.map (·.1)).Nodup ∧ ∀ f ∈ fs, FndV K H (off D H') f.1 f.2) ⟨⟨_, _, _, rfl⟩, same_upd hD, [], upd_same, Nat.le_refl _, rfl, .nil, fun _ z => nomatch z⟩ (fun i σ' H' hi pp => ?_) (fun σ' H' pp => ⟨?_, ?_⟩) (fun i σ' H' hi pp x H2 y => ?_)
    · obtain ⟨_, sm, _⟩ := pp
      exact ⟨_, _, sm.seq hL, List.getElem?_eq_getElem hi⟩
    · obtain ⟨_, sm, _⟩ := pp
      exact ⟨_, sm.seq hL, Nat.le_refl _⟩
    · obtain ⟨_, sm, fs, hF, _, ef, nd, of⟩ := pp
      rw [List.take_of_length_le (by rw [List.length_map, List.length_map]; exact Nat.le_refl _)] at ef
      obtain ⟨as, eas⟩ := refs_of (fs := fs) fun f hf => let ⟨p, _, _, e, _⟩ := of f hf; ⟨p, e⟩
      have lf : fs.length = as.length := by
        have := congrArg List.length eas
        rwa [List.length_map, List.length_map] at this
      have ll : (fs.map (·.2)).length = as.length := by rw [List.length_map, lf]
      have ps := asks_srt (tb := tb) (ts := ts) srt
      rw [← ef] at ps
      have ndA : as.Nodup := by
        rw [eas] at nd
        exact (List.pairwise_map.mp nd).imp fun h e => h (by rw [e])
      have tab1 := TabA.same tab sm
      obtain ⟨tps, htp⟩ := TabA.is tab1
      have DP : D ≠ tP := fun z => by rw [z, htp] at hF; cases hF
      have okf : ∀ f ∈ fs, PairOk f.2 := fun f hf => by
        have h1 : f.2 ∈ asks tb ts (es.map (·.2)) := by rw [← ef]; exact List.mem_map_of_mem hf
        obtain ⟨r, hr1, e1⟩ := List.mem_map.mp h1
        obtain ⟨e0, he0, e2⟩ := List.mem_map.mp (List.mem_filter.mp hr1).1
        rw [← e1, ← e2]
        exact (hes e0 he0).2.pair
      have hFa : SqL K H' D (as.map V.ref) := SqL.of (by rw [hF, eas])
      refine ⟨_, rfl, D, as, fun i => .tuple ((((fs.map (·.2)).getD i ([], .none)).1).map ordD), rfl, hFa, ndA, tab1, fun i j hi hj => ?_, fun i hi => ⟨⟨_, rfl, fun e he => ?_⟩, Nat.le_trans (Nat.succ_le_succ (depth_rows _)) (by decide)⟩, fun i a H2 R ha sm2 kk => ?_, fun l H2 sm2 l1 l2 tab2 => ?_⟩
      · rw [ltD?, lt_rows, row_at ps (by rw [ll]; exact hi) (by rw [ll]; exact hj)]
      · obtain ⟨k, _, rfl⟩ := List.mem_map.mp he
        exact ⟨_, rfl⟩
      · have hai : (fs.map (·.1))[i]? = some (.ref a) := by rw [eas, List.getElem?_map, ha]; rfl
        rw [List.getElem?_map] at hai
        obtain ⟨f, hf, e1⟩ := Option.map_eq_some_iff.mp hai
        have hfm := List.mem_of_getElem? hf
        obtain ⟨p', b, v, e2, h1, h2, _⟩ := of f hfm
        rw [e1] at e2
        cases e2
        have eg : (fs.map (·.2)).getD i ([], .none) = f.2 := by rw [List.getD_eq_getElem?_getD, List.getElem?_map, hf]; rfl
        have h1' := off_same D H' _ _ h1
        have h2' : SqT K H' b (f.2.1.map kV) := (off_same D H').seqT h2
        have ok := okf f hfm
        have kk : ∀ v H3, Same H2 H3 → Dat K H3 (.tuple ((((fs.map (·.2)).getD i ([], .none)).1).map ordD)) v → R v H3 := kk
        rw [eg] at kk
        exact ⟨a, b, v, f.2.1, rfl, SqT.of (sm2 _ _ (fun z => by rw [z, htp] at h1'; cases h1') h1'), sm2.seqT htp h2', fun k hk => (ok.ks k hk).ok, Nat.le_trans ok.len (by decide), kk⟩
      · rw [← eas]
        have hto : off D H' tP = some (.tbl tps) := by rw [off_ne (Ne.symm DP)]; exact htp
        have lP : l ≠ tP := fun z => by rw [z, htp] at l1; cases l1
        have s3 := same_upd (o := HO.lst (fs.map (·.1))) l2
        refine q l fs _ (fun a o n z => s3 _ _ (sm2 a o n (sm a o z))) (TabA.same tab2 s3) (sm.free l1) upd_same ef fun f hf => ?_
        rw [off_upd]
        refine FndV.smT (tP := tP) (fun a o n z => ?_) hto (of f hf)
        have h1 := off_same D H' _ _ z
        rw [off_ne (fun y => by rw [y, l1] at h1; cases h1)]
        exact sm2 a o n h1
    · obtain ⟨⟨v1, v2, v3, rfl⟩, sm, fs, hF, lf, ef, nd, of⟩ := pp
      obtain ⟨rfl, hx⟩ := y
      have hx' := hx _ (sm.seq hL)
      rw [List.getElem?_map] at hx'
      obtain ⟨⟨x0, e⟩, he, rfl⟩ := Option.map_eq_some_iff.mp hx'
      have hil : i < 100 := by
        have := (List.getElem?_eq_some_iff.mp he).1
        lia
      obtain ⟨⟨v, ⟨r, b, er, hr1, hb⟩, hd⟩, ok⟩ := hes _ (List.mem_of_getElem? he)
      have er : x0 = .ref r := er
      subst er
      have stp := asks_step (tb := tb) (ts := ts) (rs := es.map (·.2)) (i := i) (r := e) (by rw [List.getElem?_map, he]; rfl)
      refine ⟨r, _, rfl, sm.seqT hr1, rfl, _, _, rfl, _, _, rfl, _, _, rfl, rfl, ?_⟩
      refine ⟨_, rfl, _, rfl, _, rfl, p, a, b, tb, _, ts, e.2.1, rfl, sm.seqT hp, sm.seqT ha, sm.seqT hb, tms, lt, fun H3 s3 => ⟨_, rfl, ?_⟩⟩
      have hF3 := s3 _ _ hF
      have sm3 := sm.trans s3
      have lf' : (fs.map (·.1)).length < sizeLine := by rw [List.length_map]; exact small1000 (by lia)
      have oo := same_off sm3 hD
      have ndx : ∀ np : Addr, H3 np = none → ((fs ++ [(V.ref np, e.2)]).map (·.1)).Nodup := fun np h0 => by
        rw [List.map_append]
        refine List.nodup_append.mpr ⟨nd, List.pairwise_singleton .., fun x hx y hy z => ?_⟩
        rw [List.mem_singleton.mp hy] at z
        obtain ⟨g, hg, e1⟩ := List.mem_map.mp hx
        obtain ⟨p', _, _, e2, h1, _⟩ := of g hg
        rw [← e1, e2] at z
        injection z with z
        rw [z] at h1
        have h2 := s3 _ _ (off_same D _ _ _ h1)
        rw [h0] at h2
        cases h2
      have two : (isLs e.2.2 = false ∧ Dat K H e.2.2 v) ∨ ∃ a xs ds, v = .ref a ∧ SqL K H a xs ∧ Dats K H ds xs ∧ e.2.2 = .list ds := by
        revert hd
        show Dat K H e.2.2 v → _
        generalize e.2.2 = d
        intro hd
        cases hd with
        | lst h r => exact .inr ⟨_, _, _, rfl, h, r, rfl⟩
        | non => exact .inl ⟨rfl, .non⟩
        | bl b => exact .inl ⟨rfl, .bl b⟩
        | int i => exact .inl ⟨rfl, .int i⟩
        | str z h => exact .inl ⟨rfl, .str z h⟩
        | tup h r => exact .inl ⟨rfl, .tup h r⟩
      refine ite2 (fun h2 => ?_) (fun h2 => ?_)
      · rw [if_pos (show wants tb ts e = true from h2)] at stp
        rcases two with ⟨e1, hd⟩ | ⟨la, xs, ds, rfl, hl, e2, e1⟩
        · refine ⟨_, rfl, _, rfl, v, rfl, .inl ⟨e.2.2, Dat.same sm3 _ _ hd, e1, by show 2 ≤ sizeLine; decide, fun np hnp => ?_⟩⟩
          have s4 := same_upd (o := HO.tup [.ref b, v]) hnp
          have nD : np ≠ D := fun z => by rw [z, hF3] at hnp; cases hnp
          have hnp' : H3 np = none := hnp
          refine ⟨_, s4 _ _ hF3, lf', ⟨_, _, _, rfl⟩, (sm3.trans s4).set hD, fs ++ [(.ref np, e.2)], by rw [upd_same, List.map_append]; rfl, by rw [List.length_append]; exact Nat.succ_le_succ lf, by rw [List.map_append, ef, stp]; rfl, ndx np hnp', fun f hf => ?_⟩
          rw [off_upd, off_set nD]
          have s5 := same_upd (o := HO.tup [.ref b, v]) (off_none (D := D) hnp)
          rcases List.mem_append.mp hf with hf | hf
          · exact (of f hf).same ((off_mono s3).trans s5)
          · rw [List.mem_singleton.mp hf]
            exact ⟨np, b, v, rfl, upd_same, s5.seqT (oo.seqT hb), Dat.same (oo.trans s5) _ _ hd, .inl e1⟩
        · refine ⟨_, rfl, _, rfl, _, rfl, .inr ⟨la, xs, ds, rfl, sm3.seq hl, Dats.same sm3 _ _ e2, fun c hc => ?_⟩⟩
          have s6 := same_upd (o := HO.lst xs) hc
          have cD : c ≠ D := fun z => by rw [z, hF3] at hc; cases hc
          refine ⟨by show 2 ≤ sizeLine; decide, fun np hnp => ?_⟩
          have s4 := same_upd (o := HO.tup [.ref b, .ref c]) hnp
          have nD : np ≠ D := fun z => by rw [z, s6 _ _ hF3] at hnp; cases hnp
          refine ⟨_, s4 _ _ (s6 _ _ hF3), lf', ⟨_, _, _, rfl⟩, (sm3.trans (s6.trans s4)).set hD, fs ++ [(.ref np, e.2)], by rw [upd_same, List.map_append]; rfl, by rw [List.length_append]; exact Nat.succ_le_succ lf, by rw [List.map_append, ef, stp]; rfl, ndx np (s6.free hnp), fun f hf => ?_⟩
          rw [off_upd, off_set nD, off_set cD]
          have s7 := same_upd (o := HO.lst xs) (off_none (D := D) hc)
          have nc : upd (off D H3) c (.lst xs) np = none := by
            rw [← off_set cD]
            exact off_none hnp
          have s5 := same_upd (o := HO.tup [.ref b, .ref c]) nc
          rcases List.mem_append.mp hf with hf | hf
          · exact (of f hf).same ((off_mono s3).trans (s7.trans s5))
          · rw [List.mem_singleton.mp hf]
            have lx : xs.length ≤ 2 := by
              rw [← dl_len e2]
              have th : ThOk e.2.2 := ok.th
              rw [e1] at th
              rcases th.2 with ⟨ds', e3, l3⟩ | e3 | ⟨_, e3⟩ | ⟨_, e3⟩
              · cases e3
                exact l3
              · cases e3
              · cases e3
              · cases e3
            refine ⟨np, b, .ref c, rfl, upd_same, s5.seqT (s7.seqT (oo.seqT hb)), ?_, .inr ⟨c, xs, rfl, sm3.free hc, s5 _ _ upd_same, lx⟩⟩
            show Dat K _ e.2.2 _
            rw [e1]
            exact .lst (SqL.of (s5 _ _ upd_same)) (Dats.same (oo.trans (s7.trans s5)) _ _ e2)
      · rw [if_neg (show ¬ wants tb ts e = true from h2)] at stp
        refine ⟨⟨_, _, _, rfl⟩, sm3, fs, hF3, Nat.le_succ_of_le lf, by rw [ef, stp, List.append_nil], nd, fun f hf => (of f hf).same (off_mono s3)⟩
end
end Wy
namespace Wy
open PySem L2
theorem up_sma : Txt.upper smaS = capS := by decide +kernel
theorem asks_ok {tb : Str} {ts : List Key} {rs : List RowT} (h : ∀ r ∈ rs, RowOk r) : ∀ e ∈ asks tb ts rs, PairOk e := fun e he => by
  obtain ⟨r, hr, rfl⟩ := List.mem_map.mp he
  exact (h r (List.mem_filter.mp hr).1).pair
theorem asks_len {tb : Str} {ts : List Key} (rs : List RowT) : (asks tb ts rs).length ≤ rs.length := by
  unfold asks
  rw [List.length_map]
  exact List.length_filter_le ..
def ScV (K : PySem.W.Frag) (v : V) : Prop := ∃ n, (∀ H, TyOf K H v (.type n)) ∧ n ∈ tyTs ∧ tyIs n "list" = false
theorem sc_of {K : PySem.W.Frag} {H : Hp} {d : PyData} {v : V} (h : Dat K H d v) (o : ThOk d) (e : isLs d = false) : ScV K v := by
  rcases o.2 with ⟨ds, rfl, _⟩ | rfl | ⟨b, rfl⟩ | ⟨i, rfl⟩
  · cases e
  · cases h
    exact ⟨_, fun _ => .non, by decide, rfl⟩
  · cases h
    exact ⟨_, fun _ => .bl _, by decide, rfl⟩
  · cases h
    exact ⟨_, fun _ => .int _, by decide, rfl⟩
theorem rows_dat {K : PySem.W.Frag} {H : Hp} {L : Addr} {es : List (V × RowT)} (hL : SqL K H L (es.map (·.1))) (h : ∀ e ∈ es, RowV K H e.1 e.2 ∧ RowOk e.2) : Dat K H (.list ((es.map (·.2)).map rowD)) (.ref L) := by
  refine .lst hL ?_
  rw [List.map_map]
  exact dl_map (fun e : V × RowT => rowD e.2) (·.1) fun e he => (h e he).1.dat (h e he).2
theorem rows_depth {rs : List RowT} (h : ∀ r ∈ rs, RowOk r) : (PyData.list (rs.map rowD)).depth ≤ 60 := by
  refine Nat.le_trans (Nat.succ_le_succ (depth_all (n := 10) fun d hd => ?_)) (by decide)
  obtain ⟨r, hr, rfl⟩ := List.mem_map.mp hd
  exact (h r hr).depth
noncomputable def back (tP : Addr) (H H' : Hp) : Hp := fun b => open Classical in if b = tP ∨ (∃ φ, H' b = some (.ext φ)) then H' b else H b
def sp_law (K : PySem.W.Frag) (tP : Addr) : Sp := fun vs H Q _ => ∃ (a : Addr) (ns : List Int), vs = [.ref a] ∧ H tP = some (.tbl #[]) ∧ SqL K H a (ns.map V.int) ∧ ns.length ≤ 63 ∧ ∀ H', Q (.bl true) H'
theorem ok_law {l : PySem.W.OpenLaw} {w : World} {K : PySem.W.Frag} {mg : Str → Option Value} {fa c0 tP : Addr} (T : Txt K mg) (hA : ∀ f, mg "asked" = some (.ref f) → ∀ oc od fd osl, K.lookup f = some ⟨oc, od, .func fd, osl⟩ → fd.code = .ref c0) (hC : PySem.W.codeHdIn K c0 tP = true) (hfa : mg "law" = some (.ref fa)) :
    ∃ fd : FuncData, (∀ (s : Shared) (v : Value), BindsTo s fd ⟨[v], []⟩ [("_law_script", v)]) ∧ ∀ base : Heap, K.In base → base.Ns mainGlobals mg → base.BuiltinsAt mg tP → FnOk l.prog w K mg base CX0 8 fa fd ["_law_script"] (sp_law K tP) := by
  refine T.t_law.finT (tP := tP) hfa sc_law (fun vs H Q E h => ?_) fun base hB hbm f cdv A outer s H vs Q E hr h => ?_
  · obtain ⟨a, ns, rfl, _⟩ := h
    rfl
  · obtain ⟨a, ns, rfl, tab0, hS, hlen, k⟩ := h
    refine join_at 7 (fun σ H1 => ∃ (tA mA vA L p aT : Addr) (num : Int) (es : List (V × RowT)) (tb : Str) (ts : List Key), σ = [some (.ref a), some (.str smaS), some (.ref tA), some (.ref mA), some (.int num), some (.ref vA), some (.ref L), some (.ref p), none, none, none, none] ∧ SqL K H1 L (es.map (·.1)) ∧ (∀ e ∈ es, RowV K H1 e.1 e.2 ∧ RowOk e.2) ∧ es.length ≤ 90 ∧ SqT K H1 p [.str tb, .ref aT] ∧ SqT K H1 aT (ts.map kV) ∧ (∀ t ∈ ts, TmK t) ∧ ts.length ≤ 4 ∧ SrtR (es.map (·.2)) ∧ TabK tP H1)
      ⟨_, (pss_7
      (ps_setComp (i := 8) sc_law.nd rfl rfl (N := ["_law_one", "_law_atom"]) (caps := [none, some 7]) rfl (by with_unfolding_all rfl) (pi_listK K (pv 6)) (fun _ _ _ _ _ => (pg_name (i := 0) (show (["_law_one", "_law_atom"] : List Str).Nodup by decide +kernel) rfl (Or.inl rfl))) (fun _ _ _ _ _ => pf_one (PW.pt (pw_and (pt_cmpR op_eq (pe_ix (ix_tupK K) (pv 0) pe_int (fun _ _ => rfl)) (pe_ix (ix_tupK K) (pv 1) pe_int (fun _ _ => rfl)) (nomark _)) (pw_and1 (pt_val (pe_def (ok__law_matches T) hr rfl (pa_2 (pe_ix (ix_tupK K) (pv 1) pe_int (fun _ _ => rfl)) (pe_ix (ix_tupK K) (pv 0) pe_int (fun _ _ => rfl))))))))) (fun _ _ _ _ _ => (pe_slice (sl_tupA K) (pv 0) (po_some pe_int) po_none)))
      (ps_set (i := 9) sc_law.nd rfl (Or.inl rfl) (pe_def (ok__law_copies T) hr rfl (pa_1 (pv 6))))
      (ps_set (i := 10) sc_law.nd rfl (Or.inl rfl) (pe_def (ok_asked T hA hC hB hbm) hr rfl (pa_2 (pv 9) (pv 7))))
      (ps_if (PW.pt (pw_or (pt_not (pt_val (pe_def (ok__law_same T) hr rfl (pa_2 (pv 10) (pv 8))))) (pw_or1 (pt_cmpR (op_neD hr.units K) (pv 9) (pv 6) (nomark _))))) (pss_one (ps_ret pe_bl)) pss_nil)
      (ps_for PassesOwn.never rfl (pi_listK K (pv 10)) (pg_name (i := 11) sc_law.nd rfl (Or.inl rfl)) (pss_one (ps_if (pt_val (pe_callB (call_isi K) rfl T.b_isinstance bt_isinstance (pa_2 (pe_ix (ix_tupK K) (pv 11) pe_int (fun _ _ => rfl)) (pe_ty rfl T.b_list bt_list)))) (pss_one (ps_expr (pe_bm PySem.F.plainAttrs_list PySem.F.slot_list_append PySem.F.type_list_append mt_append (pe_ix (ix_tupK K) (pv 11) pe_int (fun _ _ => rfl)) (pa_1 pe_int)))) pss_nil)))
      (ps_expr (pe_bm PySem.F.plainAttrs_list PySem.F.slot_list_append PySem.F.type_list_append mt_append (pv 10) (pa_1 (pe_tup (pa_2 (pe_tup pa_nil) pe_int)))))
      (ps_ret (pe_and (pe_cmpR (op_eqD hr.units K) (pv 9) (pv 6) (nomark _)) (pe_one (pe_def (ok__law_same T) hr rfl (pa_2 (pe_def (ok_asked T hA hC hB hbm) hr rfl (pa_2 (pv 9) (pv 7))) (pv 8))))))), ?_⟩ (fun u hu hJ => ⟨_, (psr_7
      (ps_set (i := 1) sc_law.nd rfl (Or.inr rfl) pe_str)
      (ps_setComp (i := 2) sc_law.nd rfl rfl (N := ["_law_k", "_law_letters", "_law_script"]) (caps := [none, some 1, some 0]) rfl (by with_unfolding_all rfl) (pi_range1 rfl T.b_range (pa_1 pe_int)) (fun _ _ _ _ _ => (pg_name (i := 0) (show (["_law_k", "_law_letters", "_law_script"] : List Str).Nodup by decide +kernel) rfl (Or.inl rfl))) (fun _ _ _ _ _ => pf_nil) (fun _ _ _ _ _ => (pe_def (ok__law_name T) hr rfl (pa_4 (pe_def (ok__law_cell_at T) hr rfl (pa_2 (pv 2) pe_int)) (pe_def (ok__law_cell_at T) hr rfl (pa_2 (pv 2) pe_int)) (pv 0) (pv 1)))))
      (ps_setComp (i := 3) sc_law.nd rfl rfl (N := ["_law_k", "_law_script", "_law_letters"]) (caps := [none, some 0, some 1]) rfl (by with_unfolding_all rfl) (pi_range1 rfl T.b_range (pa_1 pe_int)) (fun _ _ _ _ _ => (pg_name (i := 0) (show (["_law_k", "_law_script", "_law_letters"] : List Str).Nodup by decide +kernel) rfl (Or.inl rfl))) (fun _ _ _ _ _ => pf_nil) (fun _ _ _ _ _ => (pe_def (ok__law_name T) hr rfl (pa_4 (pe_def (ok__law_cell_at T) hr rfl (pa_2 (pv 1) pe_int)) (pe_def (ok__law_cell_at T) hr rfl (pa_2 (pv 1) pe_int)) (pv 0) (pe_bm0K K PySem.F.plainAttrs_str PySem.F.slot_str_upper PySem.F.type_str_upper mt_upper (pv 2))))))
      (ps_set (i := 4) sc_law.nd rfl (Or.inl rfl) (pe_op op_mul (pe_op op_mod (pe_def (ok__law_cell_at T) hr rfl (pa_2 (pv 0) pe_int)) (pe_op op_pow pe_int pe_int)) (pe_ix (ix_listK K) (pe_lst (pa_2 pe_int (pe_un un_neg pe_int))) (pe_op op_mod (pe_def (ok__law_cell_at T) hr rfl (pa_2 (pv 0) pe_int)) pe_int) (fun _ _ => rfl))))
      (ps_set (i := 5) sc_law.nd rfl (Or.inl rfl) (pe_lst (pa_4 (pv 4) (pe_ix (ix_listK K) (pv 2) pe_int (fun _ _ => rfl)) (pe_op op_add (pv 4) pe_int) (pe_ix (ix_listK K) (pv 2) pe_int (fun _ _ => rfl)))))
      (ps_set (i := 6) sc_law.nd rfl (Or.inl rfl) (pe_def (ok__law_told T) hr rfl (pa_4 (pv 0) (pv 2) (pv 5) (pe_ix (ix_listK K) (pv 2) pe_int (fun _ _ => rfl)))))
      (ps_set (i := 7) sc_law.nd rfl (Or.inr rfl) (pe_tup (pa_2 (pe_ix (ix_listK K) (pv 2) (pe_ix (ix_listK K) (pe_lst (pa_5 pe_int pe_int pe_int pe_int pe_int)) (pe_op op_mod (pe_def (ok__law_cell_at T) hr rfl (pa_2 (pv 0) pe_int)) pe_int) (fun _ _ => rfl)) (fun _ _ => rfl)) (pe_def (ok__law_terms T) hr rfl (pa_3 (pv 0) (pv 3) (pv 5))))))
      hu), ?_⟩)
    · rintro σ H1 ⟨tA, mA, vA, L, p, aT, num, es, tb, ts, rfl, hL, rows, le, hp, haT, tms, lt, srt, tab⟩
      have okR : ∀ r ∈ es.map (·.2), RowOk r := fun r hr => by
        obtain ⟨e, he, rfl⟩ := List.mem_map.mp hr
        exact (rows e he).2
      refine ⟨_, rfl, L, rfl, ⟨_, hL⟩, fun D hD => ?_⟩
      refine comp_by (es.map (·.1)).length (fun i σ' H' => (∃ v1, σ' = [v1, some (.ref p)]) ∧ Same H1 H' ∧ ∃ gs : List (V × PairT), H' D = some (.lst (gs.map (·.1))) ∧ gs.length ≤ i ∧ gs.map (·.2) = asks tb ts ((es.map (·.2)).take i) ∧ ∀ g ∈ gs, PairV5 K (off D H') g.1 g.2) ⟨⟨_, rfl⟩, same_upd hD, [], upd_same, Nat.le_refl _, rfl, fun _ z => nomatch z⟩ (fun i σ' H' hi pp => ?_) (fun σ' H' pp => ⟨?_, ?_⟩) (fun i σ' H' hi pp x H2 y => ?_)
      · obtain ⟨_, sm, _⟩ := pp
        exact ⟨_, _, sm.seq hL, List.getElem?_eq_getElem hi⟩
      · obtain ⟨_, sm, _⟩ := pp
        exact ⟨_, sm.seq hL, Nat.le_refl _⟩
      · obtain ⟨_, s2, gs, hG, lg, eg, og⟩ := pp
        rw [List.take_of_length_le (by rw [List.length_map, List.length_map]; exact Nat.le_refl _)] at eg
        rw [List.length_map] at lg
        have og : ∀ g ∈ gs, PairV5 K H' g.1 g.2 ∧ PairOk g.2 := fun g hg => ⟨(og g hg).same (off_same _ _), asks_ok okR _ (by rw [← eg]; exact List.mem_map_of_mem hg)⟩
        refine ⟨_, rfl, L, es, rfl, s2.seq hL, fun e he => ⟨(rows e he).1.same s2, (rows e he).2⟩, by lia, fun Lh es2 H3 s3 _ hLh ee rows2 => ?_⟩
        have rows2 : ∀ e ∈ es2, RowV K H3 e.1 e.2 ∧ RowOk e.2 := fun e he => ⟨rows2 e he, okR _ (by rw [← ee]; exact List.mem_map_of_mem he)⟩
        have le2 : es2.length ≤ 100 := by
          have := congrArg List.length ee
          rw [List.length_map, List.length_map] at this
          lia
        have s13 := s2.trans s3
        have dep := rows_depth okR
        have tab3 := TabA.same tab s13
        refine ⟨_, rfl, _, rfl, Lh, p, aT, es2, tb, ts, rfl, SqL.of hLh, rows2, le2, s13.seqT hp, s13.seqT haT, tms, by lia, by rw [ee]; exact srt, tab3, fun F fs H5 sm5 tab5 hF0 hF ef of => ?_⟩
        obtain ⟨tps, htp⟩ := TabA.is tab3
        rw [ee] at ef
        have e3 : ∀ b, (b = tP ∨ ∃ φ, H5 b = some (.ext φ)) → back tP H3 H5 b = H5 b := fun b h => if_pos h
        have n3 : ∀ b, b ≠ tP → (∀ φ, H5 b ≠ some (.ext φ)) → back tP H3 H5 b = H3 b := fun b h1 h2 => if_neg fun h => h.elim h1 fun ⟨φ, z⟩ => h2 φ z
        have m3 : SmT tP H3 (back tP H3 H5) := fun b o n z => by
          by_cases y : ∃ φ, H5 b = some (.ext φ)
          · rw [e3 b (.inr y)]
            exact sm5 b o n z
          · rw [n3 b n fun φ h => y ⟨φ, h⟩]
            exact z
        have s5 : Same (back tP H3 H5) H5 := fun b o z => by
          by_cases y : b = tP ∨ ∃ φ, H5 b = some (.ext φ)
          · rw [e3 b y] at z
            exact z
          · rw [n3 b (fun h => y (.inl h)) fun φ h => y (.inr ⟨φ, h⟩)] at z
            exact sm5 b o (fun h => y (.inl h)) z
        have new : ∀ {b : Addr} {xs : List V}, H3 b = none → H5 b = some (.lst xs) → back tP H3 H5 b = none := fun {b xs} h1 h2 => by
          rw [n3 b (fun h => by rw [h, htp] at h1; cases h1) fun φ h => by rw [h2] at h; cases h]
          exact h1
        have tabB : TabK tP (back tP H3 H5) := by
          rcases tab5 with e | ⟨c, e, z⟩
          · exact .inl ((e3 tP (.inl rfl)).trans e)
          · exact .inr ⟨c, (e3 tP (.inl rfl)).trans e, (e3 c (.inr ⟨_, z⟩)).trans z⟩
        have hF0 := new hF0 hF
        have lstB : ∀ {b : Addr} {xs : List V}, H3 b = some (.lst xs) → back tP H3 H5 b = some (.lst xs) := fun {b xs} z => m3 b _ (fun h => by rw [h, htp] at z; cases z) z
        have hLB : SqL K (back tP H3 H5) L (es.map (·.1)) := m3.seq htp (s13.seq hL)
        have rowsB : ∀ e ∈ es, RowV K (back tP H3 H5) e.1 e.2 ∧ RowOk e.2 := fun e he => ⟨RowV.smT m3 htp ((rows e he).1.same s13), (rows e he).2⟩
        have hLhB := lstB hLh
        have rows2B : ∀ e ∈ es2, RowV K (back tP H3 H5) e.1 e.2 ∧ RowOk e.2 := fun e he => ⟨RowV.smT m3 htp (rows2 e he).1, (rows2 e he).2⟩
        have hGB := lstB (s3 _ _ hG)
        have ogB : ∀ g ∈ gs, PairV5 K (back tP H3 H5) g.1 g.2 ∧ PairOk g.2 := fun g hg => ⟨PairV5.smT m3 htp ((og g hg).1.same s3), (og g hg).2⟩
        have hpB := m3.seqT htp (s13.seqT hp)
        have haTB := m3.seqT htp (s13.seqT haT)
        have of : ∀ f ∈ fs, FndV K (back tP H3 H5) (off F H5) f.1 f.2 := fun f hf => by
          obtain ⟨p', b, v, e1, h1, h2, d, o⟩ := of f hf
          refine ⟨p', b, v, e1, h1, h2, d, ?_⟩
          rcases o with o | ⟨c, xs, z1, z2, z3, z4⟩
          · exact .inl o
          · exact .inr ⟨c, xs, z1, new z2 (off_same _ _ _ _ z3), z3, z4⟩
        clear e3 n3 m3 new lstB sm5 tab5
        generalize back tP H3 H5 = HB at *
        have datT : ∀ {F : Hp}, Same HB F → Dat K F (.list ((es.map (·.2)).map rowD)) (.ref L) := fun sF => rows_dat (sF.seq hLB) fun e he => ⟨(rowsB e he).1.same sF, (rowsB e he).2⟩
        have datH : ∀ {F : Hp}, Same HB F → Dat K F (.list ((es.map (·.2)).map rowD)) (.ref Lh) := fun sF => by
          rw [← ee]
          exact rows_dat (SqL.of (sF _ _ hLhB)) fun e he => ⟨(rows2B e he).1.same sF, (rows2B e he).2⟩
        have okf : ∀ f ∈ fs, PairOk f.2 := fun f hf => asks_ok okR _ (by rw [← ef]; exact List.mem_map_of_mem hf)
        have lfs : fs.length ≤ 90 := by
          have h1 := congrArg List.length ef
          have h2 := asks_len (tb := tb) (ts := ts) (es.map (·.2))
          rw [List.length_map] at h1 h2
          lia
        refine ⟨_, rfl, _, rfl, F, D, fs, gs, rfl, hF, SqL.of (s5 _ _ hGB), ef.trans eg.symm, (fun f hf => (of f hf).pair.same (off_same _ _)), (fun g hg => ⟨(ogB g hg).1.same s5, (ogB g hg).2⟩), by lia, fun H6 s6 => ⟨_, rfl, iteFb rfl ?_⟩⟩
        refine ⟨_, rfl, _, rfl, _, _, datH (s5.trans s6), datT (s5.trans s6), dep, _, rfl, iteFb (by rw [PySem.SeqAt.eqv_refl _ (Dat.lay _ _ (datT (Same.refl _)))]; rfl) ?_⟩
        have hF6 := s6 _ _ hF
        refine ⟨_, rfl, F, rfl, ⟨_, SqL.of hF6⟩, ?_⟩
        refine for_list (xs := fs.map (·.1)) (fun i σ H' => ∃ v11 : Option V, σ = [some (.ref a), some (.str smaS), some (.ref tA), some (.ref mA), some (.int num), some (.ref vA), some (.ref L), some (.ref p), some (.ref D), some (.ref Lh), some (.ref F), v11] ∧ Same HB H' ∧ H' F = some (.lst (fs.map (·.1))) ∧ ∀ f ∈ fs, ∃ p b v, f.1 = .ref p ∧ H' p = some (.tup [.ref b, v]) ∧ (ScV K v ∨ ∃ c xs, v = .ref c ∧ HB c = none ∧ c ≠ F ∧ H' c = some (.lst xs) ∧ xs.length ≤ 2 + i))
          ⟨none, rfl, s5.trans s6, hF6, fun f hf => ?_⟩ (fun i σ H' _ pp => by obtain ⟨_, _, _, z, _⟩ := pp; exact SqL.of z) ?_ ?_
        · obtain ⟨p', b, v, e1, h1, h2, d, o⟩ := of f hf
          refine ⟨p', b, v, e1, s6 _ _ (off_same _ _ _ _ h1), ?_⟩
          rcases o with o | ⟨c, xs, e2, e3, e4, e5⟩
          · exact .inl (sc_of d (okf f hf).th o)
          · refine .inr ⟨c, xs, e2, e3, fun z => ?_, s6 _ _ (off_same _ _ _ _ e4), e5⟩
            rw [z, off_at] at e4
            cases e4
        · rintro i x σ H7 hx ⟨v11, rfl, s7, hF7, o7⟩
          rw [List.getElem?_map] at hx
          obtain ⟨f, hf, rfl⟩ := Option.map_eq_some_iff.mp hx
          have hil : i < 90 := by
            have := (List.getElem?_eq_some_iff.mp hf).1
            lia
          obtain ⟨p', b, v, e1, h1, o⟩ := o7 f (List.mem_of_getElem? hf)
          rw [e1]
          rcases o with ⟨n, ty, t1, t2⟩ | ⟨c, xs, rfl, c0, cF, hc, lx⟩
          · refine ⟨_, rfl, _, _, _, _, rfl, rfl, SqT.of h1, atI_nat (j := 1) rfl, _, _, n, rfl, ty _, t1, by decide, _, rfl, iteFb t2 ?_⟩
            refine ⟨_, rfl, s7, hF7, fun g hg => ?_⟩
            obtain ⟨p2, b2, v2, e2, h2, o2⟩ := o7 g hg
            refine ⟨p2, b2, v2, e2, h2, ?_⟩
            rcases o2 with o2 | ⟨c2, xs2, z1, z2, z3, z4, z5⟩
            · exact .inl o2
            · exact .inr ⟨c2, xs2, z1, z2, z3, z4, by lia⟩
          · refine ⟨_, rfl, _, _, _, _, rfl, rfl, SqT.of h1, atI_nat (j := 1) rfl, _, _, _, rfl, .lst hc, by decide, by decide, _, rfl, iteTb rfl ?_⟩
            refine ⟨_, rfl, _, _, _, _, rfl, rfl, SqT.of h1, atI_nat (j := 1) rfl, .inl ⟨rfl, _, SqL.of hc⟩, _, _, _, rfl, rfl, hc, small1000 (by lia), ?_⟩
            refine ⟨_, rfl, s7.set c0, by rw [upd_ne cF.symm]; exact hF7, fun g hg => ?_⟩
            obtain ⟨p2, b2, v2, e2, h2, o2⟩ := o7 g hg
            refine ⟨p2, b2, v2, e2, by rw [upd_ne (fun z => by rw [z, hc] at h2; cases h2)]; exact h2, ?_⟩
            rcases o2 with o2 | ⟨c2, xs2, z1, z2, z3, z4, z5⟩
            · exact .inl o2
            · by_cases ec : c2 = c
              · subst ec
                exact .inr ⟨c2, xs ++ [_], z1, z2, z3, upd_same, by rw [List.length_append]; exact Nat.succ_le_succ lx⟩
              · exact .inr ⟨c2, xs2, z1, z2, z3, by rw [upd_ne ec]; exact z4, by lia⟩
        · rintro σ H7 ⟨v11, rfl, s7, hF7, o7⟩
          refine ⟨_, rfl, .inl ⟨rfl, _, SqL.of hF7⟩, ?_⟩
          refine ⟨by decide, fun q1 hq1 => ?_⟩
          have w1 := same_upd (o := HO.tup []) hq1
          refine ⟨by show 2 ≤ sizeLine; decide, fun q2 hq2 => ?_⟩
          have w2 := same_upd (o := HO.tup [.ref q1, .int 0]) hq2
          refine ⟨_, _, _, rfl, rfl, w2 _ _ (w1 _ _ hF7), by rw [List.length_map]; exact small1000 (by lia), ?_⟩
          have s8 := (s7.trans (w1.trans w2)).set (o := .lst (fs.map (·.1) ++ [.ref q2])) hF0
          generalize upd (upd (upd H7 q1 (.tup [])) q2 (.tup [.ref q1, .int 0])) F (.lst (fs.map (·.1) ++ [.ref q2])) = H8 at s8
          refine ⟨_, rfl, _, rfl, _, _, datH s8, datT s8, dep, _, rfl, ?_⟩
          rw [PySem.SeqAt.eqv_refl _ (Dat.lay _ _ (datT s8))]
          have tab8 := TabA.same tabB s8
          obtain ⟨tp8, htp8⟩ := TabA.is tab8
          refine iteT ⟨_, rfl, _, rfl, Lh, p, aT, es2, tb, ts, rfl, SqL.of (s8 _ _ hLhB), (fun e he => ⟨(rows2B e he).1.same s8, (rows2B e he).2⟩), le2, s8.seqT hpB, s8.seqT haTB, tms, by lia, by rw [ee]; exact srt, tab8, fun F2 fs2 H9 s9 _ _ hF2 ef2 of2 => ?_⟩
          rw [ee] at ef2
          exact ⟨_, rfl, F2, D, fs2, gs, rfl, hF2, s9.seq htp8 (SqL.of (s8 _ _ hGB)), ef2.trans eg.symm, (fun f hf => (of2 f hf).pair.same (off_same _ _)), (fun g hg => ⟨PairV5.smT s9 htp8 ((ogB g hg).1.same s8), (ogB g hg).2⟩), by lia, fun H10 _ => k H10⟩
      · obtain ⟨⟨v1, rfl⟩, sm, gs, hF, lf, ef, of⟩ := pp
        obtain ⟨rfl, hx⟩ := y
        have hx' := hx _ (sm.seq hL)
        rw [List.getElem?_map] at hx'
        obtain ⟨⟨x0, e⟩, he, rfl⟩ := Option.map_eq_some_iff.mp hx'
        have hil : i < 100 := by
          have := (List.getElem?_eq_some_iff.mp he).1
          lia
        obtain ⟨⟨v, ⟨r, b, er, hr1, hb⟩, hd⟩, ok⟩ := rows _ (List.mem_of_getElem? he)
        have er : x0 = .ref r := er
        subst er
        have hd : Dat K H1 e.2.2 v := hd
        have stp := asks_step (tb := tb) (ts := ts) (rs := es.map (·.2)) (i := i) (r := e) (by rw [List.getElem?_map, he]; rfl)
        have lf' : (gs.map (·.1)).length < sizeLine := by rw [List.length_map]; exact small1000 (by lia)
        refine ⟨_, rfl, _, _, _, _, rfl, rfl, sm.seqT hr1, atI_nat (j := 0) rfl, _, rfl, _, _, _, _, rfl, rfl, sm.seqT hp, atI_nat (j := 0) rfl, rfl, _, rfl, ite2 (fun h1 => ?_) (fun h1 => ?_)⟩
        · have e1 : e.1 = tb := by
            have := of_decide_eq_true h1
            injection this
          refine ⟨_, rfl, _, _, _, _, rfl, rfl, sm.seqT hp, atI_nat (j := 1) rfl, _, rfl, _, _, _, _, rfl, rfl, sm.seqT hr1, atI_nat (j := 1) rfl, aT, b, ts, e.2.1, rfl, sm.seqT haT, sm.seqT hb, tms, by lia, fun H3 s3 => ⟨_, rfl, ?_⟩⟩
          have sm3 := sm.trans s3
          have hF3 := s3 _ _ hF
          refine ite2 (fun h2 => ?_) (fun h2 => ?_)
          · rw [if_pos (show wants tb ts e = true by unfold wants; rw [decide_eq_true e1]; exact h2)] at stp
            refine ⟨_, rfl, _, rfl, _, _, rfl, sm3.seqT hr1, fun np H4 s4 hnp => ?_⟩
            have hF4 := s4 _ _ hF3
            refine ⟨_, hF4, lf', ⟨_, rfl⟩, (sm3.trans s4).set hD, gs ++ [(.ref np, e.2)], by rw [upd_same, List.map_append]; rfl, by rw [List.length_append]; exact Nat.succ_le_succ lf, by rw [List.map_append, ef, stp]; rfl, fun g hg => ?_⟩
            rw [off_upd]
            rcases List.mem_append.mp hg with hg | hg
            · exact (of g hg).same (off_mono (s3.trans s4))
            · rw [List.mem_singleton.mp hg]
              have o4 := same_off (sm3.trans s4) hD
              exact ⟨np, b, v, rfl, seqT_off hnp hF4, o4.seqT hb, Dat.same o4 _ _ hd⟩
          · rw [if_neg (show ¬wants tb ts e = true by unfold wants; rw [decide_eq_true e1]; exact h2), List.append_nil] at stp
            exact ⟨⟨_, rfl⟩, sm3, gs, hF3, Nat.le_succ_of_le lf, by rw [ef, stp], fun g hg => (of g hg).same (off_mono s3)⟩
        · have e1 : e.1 ≠ tb := fun z => h1 (by rw [z]; exact decide_eq_true rfl)
          rw [if_neg (show ¬wants tb ts e = true by unfold wants; rw [decide_eq_false e1]; exact fun z => nomatch z), List.append_nil] at stp
          exact iteF ⟨⟨_, rfl⟩, sm, gs, hF, Nat.le_succ_of_le lf, by rw [ef, stp], of⟩
    · refine ⟨_, rfl, by decide, by decide, fun D1 hD1 => ?_⟩
      refine comp_by 4 (fun i σ' H' => (∃ v, σ' = [v, some (.str smaS), some (.ref a)]) ∧ Same H H' ∧ ∃ zs : List Str, H' D1 = some (.lst (zs.map V.str)) ∧ zs.length = i ∧ ∀ z ∈ zs, txtB smaS z = true) ⟨⟨_, rfl⟩, same_upd hD1, [], upd_same, rfl, fun _ z => nomatch z⟩ (fun i σ' H' hi pp => hi) (fun σ' H1 pp => ⟨Nat.le_refl _, ?_⟩) (fun i σ' H' hi pp x H2 y => ?_)
      · obtain ⟨_, s1, zs, hzs, lz, nz⟩ := pp
        refine ⟨_, rfl, by decide, by decide, fun D2 hD2 => ?_⟩
        refine comp_by 3 (fun i σ' H' => (∃ v, σ' = [v, some (.ref a), some (.str smaS)]) ∧ Same H1 H' ∧ ∃ ms : List Str, H' D2 = some (.lst (ms.map V.str)) ∧ ms.length = i ∧ ∀ z ∈ ms, txtB capS z = true) ⟨⟨_, rfl⟩, same_upd hD2, [], upd_same, rfl, fun _ z => nomatch z⟩ (fun i σ' H' hi pp => hi) (fun σ' H2 pp => ⟨Nat.le_refl _, ?_⟩) (fun i σ' H' hi pp x H2 y => ?_)
        · obtain ⟨_, s2, ms, hms, lm, nm⟩ := pp
          have hS2 := (s1.trans s2).seq hS
          have hz2 := s2 _ _ hzs
          refine ⟨_, rfl, a, ns, _, rfl, hS2, by decide, _, _, rfl, rfl, ⟨by decide, by decide, by decide⟩, _, _, rfl, rfl, (by show (0 : Int) < 10 ^ 30; decide), ?_⟩
          refine ⟨_, rfl, by show 2 ≤ sizeLine; decide, fun p3 hp3 => ?_⟩
          have s3 := same_upd (o := HO.lst [V.int 1, .int (-1)]) hp3
          obtain ⟨v, hat, hv⟩ := atI_in (xs := [V.int 1, .int (-1)]) (i := ns.getD (2 : Int).toNat 0 % 2) (Int.emod_nonneg _ (by decide)) (Int.emod_lt_of_pos _ (by decide))
          obtain ⟨n, rfl, hn⟩ : ∃ n : Int, v = .int n ∧ -(2 ^ 64) < n ∧ n < 2 ^ 64 := by
            simp only [List.mem_cons, List.not_mem_nil, or_false] at hv
            rcases hv with rfl | rfl
            · exact ⟨_, rfl, by decide⟩
            · exact ⟨_, rfl, by decide⟩
          refine ⟨_, rfl, a, ns, _, rfl, s3.seq hS2, by decide, _, _, rfl, rfl, (by show (0 : Int) < 2; decide), _, _, _, _, rfl, rfl, SqL.of upd_same, hat, _, _, rfl, rfl, .inr hn, ?_⟩
          match zs, lz, hzs, hz2, nz with
          | [z0, z1, z2, z3], lz, hzs, hz2, nz =>
            have hz3 := SqL.of (K := K) (s3 _ _ hz2)
            refine ⟨_, rfl, _, rfl, _, _, _, _, rfl, rfl, hz3, atI_nat (j := 0) rfl, _, rfl, _, _, rfl, rfl, _, rfl, _, _, _, _, rfl, rfl, hz3, atI_nat (j := 1) rfl, by show 4 ≤ sizeLine; decide, fun vA hvA => ?_⟩
            have s4 := same_upd (o := HO.lst ([Sum.inl (ns.getD (3 : Int).toNat 0 % 10 ^ 30 * n), .inr z0, .inl (ns.getD (3 : Int).toNat 0 % 10 ^ 30 * n + 1), .inr z1].map kV)) hvA
            have gks : ∀ k ∈ ([Sum.inl (ns.getD (3 : Int).toNat 0 % 10 ^ 30 * n), .inr z0, .inl (ns.getD (3 : Int).toNat 0 % 10 ^ 30 * n + 1), .inr z1] : List Key), GoodK k := fun k hk => by
              simp only [List.mem_cons, List.not_mem_nil, or_false] at hk
              rcases hk with rfl | rfl | rfl | rfl
              · trivial
              · exact nz z0 (by simp)
              · trivial
              · exact nz z1 (by simp)
            have t4 := s3.trans s4
            refine ⟨_, rfl, _, rfl, _, rfl, _, rfl, _, _, _, _, rfl, rfl, s4.seq hz3, atI_nat (j := 2) rfl, a, D1, vA, z2, ns, [z0, z1, z2, z3], _, rfl, t4.seq hS2, s4.seq hz3, SqL.of upd_same, hlen, rfl, nz, rfl, gks, nz z2 (by simp), fun L es H5 s5 _ hL le rows srt => ?_⟩
            have t5 := t4.trans s5
            refine ⟨_, rfl, by show 5 ≤ sizeLine; decide, fun p6 hp6 => ?_⟩
            have s6 := same_upd (o := HO.lst [V.int 0, .int 0, .int 1, .int 2, .int 3]) hp6
            have t6 := t5.trans s6
            obtain ⟨v, hat6, hv⟩ := atI_in (xs := [V.int 0, .int 0, .int 1, .int 2, .int 3]) (i := ns.getD (9 : Int).toNat 0 % 5) (Int.emod_nonneg _ (by decide)) (Int.emod_lt_of_pos _ (by decide))
            obtain ⟨o, rfl, o0, o1⟩ : ∃ o : Int, v = .int o ∧ 0 ≤ o ∧ o ≤ 3 := by
              simp only [List.mem_cons, List.not_mem_nil, or_false] at hv
              rcases hv with rfl | rfl | rfl | rfl | rfl <;> exact ⟨_, rfl, by decide, by decide⟩
            obtain ⟨tv, hat7, htv⟩ := atI_in (xs := [z0, z1, z2, z3].map V.str) (i := o) o0 (by show o < 4; lia)
            obtain ⟨tb, _, rfl⟩ := List.mem_map.mp htv
            refine ⟨_, rfl, a, ns, _, rfl, t6.seq hS2, by decide, _, _, rfl, rfl, (by show (0 : Int) < 5; decide), _, _, _, _, rfl, rfl, SqL.of upd_same, hat6, _, _, _, _, rfl, rfl, (s4.trans (s5.trans s6)).seq hz3, hat7, ?_⟩
            refine ⟨_, rfl, _, rfl, _, rfl, a, D2, vA, ns, ms, _, rfl, t6.seq hS2, SqL.of (t6 _ _ hms), SqL.of ((s5.trans s6) _ _ upd_same), lm, nm, rfl, gks, fun pt ts H7 s7 hpt lt tms => ?_⟩
            refine ⟨by show 2 ≤ sizeLine; decide, fun pa hpa => ?_⟩
            have s8 := same_upd (o := HO.tup [.str tb, .ref pt]) hpa
            have t8 := s6.trans (s7.trans s8)
            exact hJ _ _ ⟨D1, D2, vA, L, pa, pt, _, es, tb, ts, rfl, SqL.of (t8 _ _ hL), (fun e he => ⟨(rows e he).1.same ((off_same _ _).trans t8), (rows e he).2⟩), le, SqT.of upd_same, SqT.of (s8 _ _ hpt), tms, lt, srt, .inl (((s1.trans s2).trans (t5.trans t8)) _ _ tab0)⟩
        · obtain ⟨⟨v, rfl⟩, s2, ms, hms, lm, nm⟩ := pp
          obtain ⟨rfl, rfl⟩ := y
          have hS2 := (s1.trans s2).seq hS
          refine ⟨_, rfl, a, ns, _, rfl, hS2, by decide, _, rfl, a, ns, _, rfl, hS2, by decide, _, rfl, _, rfl, rfl, _, rfl, rfl, by rw [len_sma]; decide, _, _, _, _, rfl, by rw [up_sma]; exact len_cap, fun z H3 s3 hz => ?_⟩
          rw [up_sma] at hz
          refine ⟨_, s3 _ _ hms, by rw [List.length_map, lm]; exact small1000 (by lia), ⟨_, rfl⟩, (s2.trans s3).set hD2, ms ++ [z], by rw [upd_same, List.map_append]; rfl, by rw [List.length_append, lm]; rfl, fun y hy => ?_⟩
          rcases List.mem_append.mp hy with hy | hy
          · exact nm y hy
          · rw [List.mem_singleton.mp hy]
            exact hz
      · obtain ⟨⟨v, rfl⟩, s1, zs, hzs, lz, nz⟩ := pp
        obtain ⟨rfl, rfl⟩ := y
        have hS1 := s1.seq hS
        refine ⟨_, rfl, a, ns, _, rfl, hS1, by decide, _, rfl, a, ns, _, rfl, hS1, by decide, _, rfl, _, rfl, _, _, _, _, rfl, len_sma, fun z H3 s3 hz => ?_⟩
        refine ⟨_, s3 _ _ hzs, by rw [List.length_map, lz]; exact small1000 (by lia), ⟨_, rfl⟩, (s1.trans s3).set hD1, zs ++ [z], by rw [upd_same, List.map_append]; rfl, by rw [List.length_append, lz]; rfl, fun y hy => ?_⟩
        rcases List.mem_append.mp hy with hy | hy
        · exact nz y hy
        · rw [List.mem_singleton.mp hy]
          exact hz
theorem txt_mk {K : PySem.W.Frag} {h : Heap} {mg : Str → Option Value} (X : K.In h) (G : h.Ns mainGlobals mg) {y0 : Tok} {y1 : Tok} {y2 : Tok}
    (y3 : PySem.W.nsIn K mainGlobals "all" = some none)
    (y4 : PySem.W.nsIn K mainGlobals "any" = some none)
    (y5 : PySem.W.nsIn K mainGlobals "bool" = some none)
    (y6 : PySem.W.nsIn K mainGlobals "dict" = some none)
    (y7 : PySem.W.nsIn K mainGlobals "int" = some none)
    (y8 : PySem.W.nsIn K mainGlobals "isinstance" = some none)
    (y9 : PySem.W.nsIn K mainGlobals "len" = some none)
    (y10 : PySem.W.nsIn K mainGlobals "list" = some none)
    (y11 : PySem.W.nsIn K mainGlobals "range" = some none)
    (y12 : PySem.W.nsIn K mainGlobals "sorted" = some none)
    (y13 : PySem.W.nsIn K mainGlobals "str" = some none)
    (y14 : PySem.W.nsIn K mainGlobals "tuple" = some none)
    (y15 : PySem.W.nsIn K mainGlobals "zip" = some none)
    (y16 : PySem.W.nsIn K mainGlobals "CAPITAL_LETTERS" = some (some (.str "ABCDEFGHIJKLMNOPQRSTUVWXYZ" y0)))
    (y17 : PySem.W.nsIn K mainGlobals "FURTHER_SIGNS" = some (some (.str "abcdefghijklmnopqrstuvwxyz0123456789" y1)))
    (y18 : PySem.W.nsIn K mainGlobals "MOST_SIGNS" = some (some (.int 12 y2)))
    (y19 : FiK K "is_whole" s_is_whole)
    (y20 : FiK K "is_text_begun_by" s_is_text_begun_by)
    (y21 : FiK K "is_var" s_is_var)
    (y22 : FiK K "value_key" s_value_key)
    (y23 : FiK K "row_key" s_row_key)
    (y24 : FiK K "matched" s_matched)
    (y25 : FiK K "own" s_own)
    (y26 : FiK K "is_asked" s_is_asked)
    (y27 : FiK K "asked" s_asked)
    (y28 : FiK K "_law_cell_at" s__law_cell_at)
    (y29 : FiK K "_law_name" s__law_name)
    (y30 : FiK K "_law_thing" s__law_thing)
    (y31 : FiK K "_law_value_ahead" s__law_value_ahead)
    (y32 : FiK K "_law_ahead" s__law_ahead)
    (y33 : FiK K "_law_told" s__law_told)
    (y34 : FiK K "_law_matches" s__law_matches)
    (y35 : FiK K "_law_terms" s__law_terms)
    (y36 : FiK K "_law_same" s__law_same)
    (y37 : FiK K "_law_copies" s__law_copies)
    (y38 : FiK K "law" s_law) : Txt K mg :=
  ⟨PySem.W.mg_none_of X G y3,
    PySem.W.mg_none_of X G y4,
    PySem.W.mg_none_of X G y5,
    PySem.W.mg_none_of X G y6,
    PySem.W.mg_none_of X G y7,
    PySem.W.mg_none_of X G y8,
    PySem.W.mg_none_of X G y9,
    PySem.W.mg_none_of X G y10,
    PySem.W.mg_none_of X G y11,
    PySem.W.mg_none_of X G y12,
    PySem.W.mg_none_of X G y13,
    PySem.W.mg_none_of X G y14,
    PySem.W.mg_none_of X G y15,
    ⟨_, PySem.W.mg_of X G y16⟩,
    ⟨_, PySem.W.mg_of X G y17⟩,
    ⟨_, PySem.W.mg_of X G y18⟩,
    y19.top X G (fun _ _ _ _ _ _ => us1 fun _ => rfl),
    y20.top X G (fun _ _ _ _ _ _ => us2 fun _ _ => rfl),
    y21.top X G (fun _ _ _ _ _ _ => us1 fun _ => rfl),
    y22.top X G (fun _ _ _ _ _ _ => us1 fun _ => rfl),
    y23.top X G (fun _ _ _ _ _ _ => us1 fun _ => rfl),
    y24.top X G (fun _ _ _ _ _ _ => us3 fun _ _ _ => rfl),
    y25.top X G (fun _ _ _ _ _ _ => us1 fun _ => rfl),
    y26.top X G (fun _ _ _ _ _ _ => us3 fun _ _ _ => rfl),
    y27.top X G (fun _ _ _ _ _ _ => us2 fun _ _ => rfl),
    y28.top X G (fun _ _ _ _ _ _ => us2 fun _ _ => rfl),
    y29.top X G (fun _ _ _ _ _ _ => us4 fun _ _ _ _ => rfl),
    y30.top X G (fun _ _ _ _ _ _ => us4 fun _ _ _ _ => rfl),
    y31.top X G (fun _ _ _ _ _ _ => us2 fun _ _ => rfl),
    y32.top X G (fun _ _ _ _ _ _ => us2 fun _ _ => rfl),
    y33.top X G (fun _ _ _ _ _ _ => us4 fun _ _ _ _ => rfl),
    y34.top X G (fun _ _ _ _ _ _ => us2 fun _ _ => rfl),
    y35.top X G (fun _ _ _ _ _ _ => us3 fun _ _ _ => rfl),
    y36.top X G (fun _ _ _ _ _ _ => us2 fun _ _ => rfl),
    y37.top X G (fun _ _ _ _ _ _ => us1 fun _ => rfl),
    y38.top X G (fun _ _ _ _ _ _ => us1 fun _ => rfl)⟩
end Wy
open PySem PySem.W PyProof.Rows
set_option maxRecDepth 100000 in
set_option maxHeartbeats 0 in
theorem PySem.Challenge.cw_whyrows_k55_asked_holds : PySem.Challenge.rw_whyrows_k55_asked.Holds := by
  w_on; o_law; k_head; (case hw => w_witness2)
  k_fill
  refine L2.walk_ofT (l := PySem.Challenge.rw_whyrows_k55_asked) (n := 63) (k := 8) (x := "_law_script") (sp := Wy.sp_law) 70 68 rfl (by decide) rfl ⟨rfl, by decide, by decide⟩ (fun w h Y => ⟨km_in_of Y, km_tabs_of Y 68 (List.mem_singleton.mpr rfl)⟩) ?z1 ?z2 ?z3 ?z4
  case z1 => intro p; kernel_rfl
  case z2 => intro p; kernel_rfl
  case z3 =>
    intro w mg fa h KX G hmg
    have T : Wy.Txt (L2.KOf KX) mg := by
      dsimp only [L2.KOf]
      refine' Wy.txt_mk KX G ?_ ?_ ?_ ?_ ?_ ?_ ?_ ?_ ?_ ?_ ?_ ?_ ?_ ?_ ?_ ?_ ?_ ?_ ?_ ?_ ?_ ?_ ?_ ?_ ?_ ?_ ?_ ?_ ?_ ?_ ?_ ?_ ?_ ?_ ?_ ?_
      all_goals first | (refine' L2.fiK ?_ ?_ ?_ ?_; all_goals first | k_is | skip) | (refine' L2.miK ?_ ?_ ?_ ?_ ?_ ?_; all_goals first | k_is | skip) | (refine' L2.ciK ?_ ?_ ?_ ?_ ?_ ?_ ?_; all_goals first | k_is | skip) | (refine' L2.aiK ?_ ?_; all_goals first | k_is | skip) | k_is | skip
    exact Wy.ok_law T (fun f hm oc od fd osl lk => law_code (x := "asked") (c := 70) (P := 68) KX G (by kernel_rfl) hm (KX _ _ lk) rfl) (by kernel_rfl) hmg
  case z4 => exact fun K H a ns hl hT hS => ⟨a, ns, rfl, hT, hS, hl, fun _ => rfl⟩
