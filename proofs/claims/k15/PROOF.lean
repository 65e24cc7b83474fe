import PyProof.Rows.All
import Wide.All
import OpenK.AllK
import PySem.Challenge.RW_whyrows_k15_what_is_a_why
set_option Elab.async false
set_option linter.all false
set_option maxRecDepth 100000
set_option maxHeartbeats 4000000
namespace Tim
open PySem PyProof.Rows
def kx (rk : Keyed → Int) (xs : Array Keyed) (i : Nat) : Int := match xs[i]? with
  | some p => rk p
  | none => 0
def Up (rk : Keyed → Int) (xs : Array Keyed) (lo hi : Nat) : Prop := ∀ i j, lo ≤ i → i ≤ j → j < hi → kx rk xs i ≤ kx rk xs j
def Dn (rk : Keyed → Int) (xs : Array Keyed) (lo hi : Nat) : Prop := ∀ i j, lo ≤ i → i ≤ j → j < hi → kx rk xs j ≤ kx rk xs i
theorem kx_of {rk : Keyed → Int} {xs : Array Keyed} {i : Nat} {p : Keyed} (h : xs[i]? = some p) : kx rk xs i = rk p := by unfold kx; rw [h]
theorem kx_same {rk : Keyed → Int} {xs ys : Array Keyed} {i j : Nat} (h : xs[i]? = ys[j]?) : kx rk xs i = kx rk ys j := by unfold kx; rw [h]
def LtOk (M : Model) (A : Around) (E : Value → Shared → Prop) (s : Shared) (kd : SortKind) (S : Keyed → Prop) (rk : Keyed → Int) : Prop :=
  ∀ (x y : Keyed) (st : SortSt) (Q : Option Bool → SortSt → Prop), S x → S y → kindOf st = kd → Q (some (decide (rk x < rk y))) st → wpS M A E s (lt' x y) Q st
structure Mv (lo hi : Nat) (st st' : SortSt) : Prop where
  perm : (arrOf st').Perm (arrOf st)
  out : ∀ k, k < lo ∨ hi ≤ k → (arrOf st')[k]? = (arrOf st)[k]?
  kind : kindOf st' = kindOf st
  pend : pendingOf st' = pendingOf st
  failed : failedOf st' = failedOf st
theorem Mv.refl (lo hi : Nat) (st : SortSt) : Mv lo hi st st := ⟨Array.Perm.refl _, fun _ _ => rfl, rfl, rfl, rfl⟩
theorem Mv.trans {lo hi : Nat} {a b c : SortSt} (h : Mv lo hi a b) (k : Mv lo hi b c) : Mv lo hi a c :=
  ⟨k.perm.trans h.perm, fun i hi => (k.out i hi).trans (h.out i hi), k.kind.trans h.kind, k.pend.trans h.pend, k.failed.trans h.failed⟩
theorem Mv.size {lo hi : Nat} {a b : SortSt} (h : Mv lo hi a b) : (arrOf b).size = (arrOf a).size := h.perm.size_eq
structure Sane (kd : SortKind) (S : Keyed → Prop) (n : Nat) (st : SortSt) : Prop where
  size : (arrOf st).size = n
  all : ∀ p ∈ (arrOf st).toList, S p
  kind : kindOf st = kd
  failed : failedOf st = none
theorem Mv.sane {lo hi : Nat} {a b : SortSt} {kd : SortKind} {S : Keyed → Prop} {n : Nat} (h : Mv lo hi a b) (k : Sane kd S n a) : Sane kd S n b :=
  ⟨h.size.trans k.size, fun p hp => k.all p ((Array.perm_iff_toList_perm.mp h.perm).mem_iff.mp hp), h.kind.trans k.kind, h.failed.trans k.failed⟩
theorem Sane.at {kd : SortKind} {S : Keyed → Prop} {n : Nat} {st : SortSt} (rk : Keyed → Int) (k : Sane kd S n st) {i : Nat} (hi : i < n) : ∃ p, (arrOf st)[i]? = some p ∧ S p ∧ kx rk (arrOf st) i = rk p := by
  have hi' : i < (arrOf st).size := by rw [k.size]; exact hi
  have e : (arrOf st)[i]? = some (arrOf st)[i] := getElem?_pos _ i hi'
  exact ⟨_, e, k.all _ (by simp), kx_of e⟩
theorem Mv.mirrored {lo hi i j : Nat} {st : SortSt} (h1 : lo ≤ i) (h2 : j ≤ hi) (hj : j ≤ (arrOf st).size) : Mv lo hi st (setArr st (mirror (arrOf st) i j ((j - i) / 2))) :=
  ⟨mirror_perm _ _ _ _, fun k hk => (getElem?_mirror_all (i := i) hj k).trans (if_neg (by (clear hj; omega))), rfl, rfl, rfl⟩
theorem Mv.sunk {lo hi src d : Nat} {st : SortSt} (h1 : lo + d ≤ src) (h2 : src < hi) (hs : src < (arrOf st).size) : Mv lo hi st (setArr st (bubble (arrOf st) src d)) :=
  ⟨bubble_perm _ _ _, fun k hk => (getElem?_bubble hs d (by (clear hk hs h2; omega)) k).trans (by rw [if_neg (by (clear hs; omega)), if_neg (by (clear hs; omega))]), rfl, rfl, rfl⟩
theorem kx_mirror (rk : Keyed → Int) {xs : Array Keyed} {i j : Nat} (hj : j ≤ xs.size) (k : Nat) :
    kx rk (mirror xs i j ((j - i) / 2)) k = if i ≤ k ∧ k < j then kx rk xs (i + j - 1 - k) else kx rk xs k := by
  have e := getElem?_mirror_all (i := i) hj k
  by_cases c : i ≤ k ∧ k < j
  · rw [if_pos c] at e ⊢
    exact kx_same e
  · rw [if_neg c] at e ⊢
    exact kx_same e
theorem kx_mirror_level (rk : Keyed → Int) {xs : Array Keyed} {i j : Nat} (hj : j ≤ xs.size) (he : ∀ k, i ≤ k → k < j → kx rk xs k = kx rk xs (j - 1)) (k : Nat) :
    kx rk (mirror xs i j ((j - i) / 2)) k = kx rk xs k := by
  rw [kx_mirror rk hj]
  by_cases c : i ≤ k ∧ k < j
  · rw [if_pos c, he _ (by (clear hj; omega)) (by (clear hj; omega)), he k c.1 c.2]
  · rw [if_neg c]
theorem kx_bubble (rk : Keyed → Int) {xs : Array Keyed} {src d : Nat} (hs : src < xs.size) (hd : d ≤ src) (k : Nat) :
    kx rk (bubble xs src d) k = if k = src - d then kx rk xs src else if src - d < k ∧ k ≤ src then kx rk xs (k - 1) else kx rk xs k := by
  have e := getElem?_bubble hs d hd k
  by_cases c : k = src - d
  · rw [if_pos c] at e ⊢
    exact kx_same e
  · rw [if_neg c] at e ⊢
    by_cases c2 : src - d < k ∧ k ≤ src
    · rw [if_pos c2] at e ⊢
      exact kx_same e
    · rw [if_neg c2] at e ⊢
      exact kx_same e
section
variable {M : Model} {A : Around} {E : Value → Shared → Prop} {s : Shared} {kd : SortKind} {S : Keyed → Prop} {rk : Keyed → Int} {n : Nat}
theorem w_ltAt (L : LtOk M A E s kd S rk) {st : SortSt} (B : Sane kd S n st) {i j : Nat} (hi : i < n) (hj : j < n) {Q : Option Bool → SortSt → Prop}
    (h : Q (some (decide (kx rk (arrOf st) i < kx rk (arrOf st) j))) st) : wpS M A E s (ltAt' i j) Q st := by
  obtain ⟨p, e1, s1, k1⟩ := B.at rk hi
  obtain ⟨q, e2, s2, k2⟩ := B.at rk hj
  rw [k1, k2] at h
  rw [ltAt'_eq]
  refine wpS_bind (wpS_get ?_)
  show wpS M A E s (elem' (arrOf st) i >>= fun x => elem' (arrOf st) j >>= fun y => lt' x y) Q st
  rw [elem'_eq, elem'_eq, e1, e2]
  exact wpS_bind (wpS_pure (wpS_bind (wpS_pure (L p q st Q s1 s2 B.kind h))))
theorem w_reverse {st : SortSt} {i j : Nat} {Q : Unit → SortSt → Prop} (h : Q () (setArr st (mirror (arrOf st) i j ((j - i) / 2)))) : wpS M A E s (reverseSlice' i j) Q st := by
  rw [reverseSlice'_eq]
  exact wpS_modify h
def upLoop (lo a nrem : Nat) : StateT SortSt Sem AscSt :=
  forIn [a:nrem] ((none, a) : AscSt) fun _ c => do
    let x ← ltAt' (lo + c.snd) (lo + c.snd - 1)
    match x with
    | some b => if b = true then pure (ForInStep.done (none, c.snd)) else pure (ForInStep.yield (none, c.snd + 1))
    | _ => pure (ForInStep.done (some none, c.snd))
def upTail (lo m nrem : Nat) : StateT SortSt Sem (Option Nat) := do
  reverseSlice' lo (lo + m)
  let c ← upLoop lo m nrem
  match c.fst with
  | some r => pure r
  | none => pure (some c.snd)
def dnLoop (lo m nrem : Nat) : StateT SortSt Sem DescSt :=
  forIn [m:nrem] ((none, m, 0) : DescSt) fun _ c => do
    let x ← ltAt' (lo + c.snd.fst) (lo + c.snd.fst - 1)
    match x with
    | some b =>
      if b = true then
        if c.snd.snd > 0 then do
          reverseSlice' (lo + c.snd.fst - (c.snd.snd + 1)) (lo + c.snd.fst)
          pure (ForInStep.yield (none, c.snd.fst + 1, 0))
        else pure (ForInStep.yield (none, c.snd.fst + 1, 0))
      else do
        let y ← ltAt' (lo + c.snd.fst - 1) (lo + c.snd.fst)
        match y with
        | some g => if g = true then pure (ForInStep.done (none, c.snd.fst, c.snd.snd)) else pure (ForInStep.yield (none, c.snd.fst + 1, c.snd.snd + 1))
        | _ => pure (ForInStep.done (some none, c.snd.fst, c.snd.snd))
    | _ => pure (ForInStep.done (some none, c.snd.fst, c.snd.snd))
def dnPart (lo m nrem : Nat) : StateT SortSt Sem (Option Nat) := do
  liftM (rule "list.sort.descending-run")
  let c ← dnLoop lo (m + 1) nrem
  match c.fst with
  | some r => pure r
  | none =>
    if c.snd.snd > 0 then do
      reverseSlice' (lo + c.snd.fst - (c.snd.snd + 1)) (lo + c.snd.fst)
      upTail lo c.snd.fst nrem
    else upTail lo c.snd.fst nrem
theorem countRun_at (lo nrem : Nat) : countRun' lo nrem = (do
    let c ← upLoop lo 1 nrem
    match c.fst with
    | some r => pure r
    | none =>
      if (c.snd == nrem) = true then pure (some c.snd)
      else if c.snd > 1 then do
        let x ← ltAt' lo (lo + c.snd - 1)
        match x with
        | some rose => if rose = true then pure (some c.snd) else do
            reverseSlice' lo (lo + c.snd)
            dnPart lo c.snd nrem
        | _ => pure none
      else dnPart lo c.snd nrem) := by
  rw [countRun'_eq]
  dsimp only
  unfold dnPart upTail dnLoop upLoop
  congr 1
  funext c
  obtain ⟨r, m⟩ := c
  cases r with
  | some r => rfl
  | none =>
    dsimp only
    split
    · rfl
    · split
      · congr 1
        funext x
        cases x with
        | none => rfl
        | some rose =>
          dsimp only
          split
          · rfl
          · congr 1
            funext _u
            congr 1
            funext _v
            congr 1
            congr 1
            funext c2
            obtain ⟨r2, n2, q2⟩ := c2
            cases r2 with
            | some r2 => rfl
            | none =>
              dsimp only
              split
              · congr 1
                funext _w
                congr 1
                funext _z
                congr 1
                funext c3
                obtain ⟨r3, n3⟩ := c3
                cases r3 <;> rfl
              · congr 1
                funext _z
                congr 1
                funext c3
                obtain ⟨r3, n3⟩ := c3
                cases r3 <;> rfl
      · congr 1
        funext _v
        congr 1
        congr 1
        funext c2
        obtain ⟨r2, n2, q2⟩ := c2
        cases r2 with
        | some r2 => rfl
        | none =>
          dsimp only
          split
          · congr 1
            funext _w
            congr 1
            funext _z
            congr 1
            funext c3
            obtain ⟨r3, n3⟩ := c3
            cases r3 <;> rfl
          · congr 1
            funext _z
            congr 1
            funext c3
            obtain ⟨r3, n3⟩ := c3
            cases r3 <;> rfl
theorem w_upLoop (L : LtOk M A E s kd S rk) {st : SortSt} {lo a nrem : Nat} {Q : AscSt → SortSt → Prop} (B : Sane kd S n st) (hn : lo + nrem ≤ n) (ha : 1 ≤ a) (han : a ≤ nrem) (hs : Up rk (arrOf st) lo (lo + a))
    (h : ∀ m, a ≤ m → m ≤ nrem → Up rk (arrOf st) lo (lo + m) → (m = nrem ∨ kx rk (arrOf st) (lo + m) < kx rk (arrOf st) (lo + m - 1)) → Q (none, m) st) : wpS M A E s (upLoop lo a nrem) Q st := by
  unfold upLoop
  refine wpS_forRange (I := fun x c st' => st' = st ∧ c = (none, x) ∧ Up rk (arrOf st) lo (lo + x)) ?turn ?last ⟨rfl, rfl, hs⟩
  case last =>
    rintro c st' ⟨rfl, rfl, hs'⟩
    have e : max a nrem = nrem := by (clear ha hn; omega)
    rw [e] at hs' ⊢
    exact h nrem han (Nat.le_refl _) hs' (.inl rfl)
  case turn =>
    rintro x c st' hax hxn ⟨rfl, rfl, hs'⟩
    dsimp only
    refine wpS_bind (w_ltAt L B (by (clear hax han ha; omega)) (by (clear hax han ha; omega)) ?_)
    by_cases hless : kx rk (arrOf st') (lo + x) < kx rk (arrOf st') (lo + x - 1)
    · simp only [hless, decide_true, if_true]
      exact wpS_pure (h x hax (by (clear hless hax han ha hn; omega)) hs' (.inr hless))
    · simp only [hless, decide_false, Bool.false_eq_true, if_false]
      refine wpS_pure ⟨rfl, rfl, fun i j h1 h2 h3 => ?_⟩
      by_cases hj : j < lo + x
      · exact hs' i j h1 h2 hj
      · have hj' : j = lo + x := by (clear h2 h1 hless hxn hax han ha hn; omega)
        subst hj'
        by_cases hi : i = lo + x
        · subst hi
          (clear h2 h1 hj h3 hless hxn hax han ha hn; omega)
        · have := hs' i (lo + x - 1) h1 (by (clear hj h3 h1 hless hxn hax han ha hn; omega)) (by (clear hi hj h3 h2 h1 hless hxn han hn; omega))
          (clear hi hj h3 h2 h1 hxn hax han ha hn; omega)
theorem w_upTail (L : LtOk M A E s kd S rk) {st : SortSt} {lo m nrem : Nat} {Q : Option Nat → SortSt → Prop} (B : Sane kd S n st) (hn : lo + nrem ≤ n) (h1 : 1 ≤ m) (hm : m ≤ nrem) (hs : Dn rk (arrOf st) lo (lo + m))
    (h : ∀ k st', Mv lo (lo + nrem) st st' → 1 ≤ k → k ≤ nrem → Up rk (arrOf st') lo (lo + k) → Q (some k) st') : wpS M A E s (upTail lo m nrem) Q st := by
  unfold upTail
  have hz : lo + m ≤ (arrOf st).size := by rw [B.size]; (clear h1; omega)
  have v : Mv lo (lo + nrem) st (setArr st (mirror (arrOf st) lo (lo + m) ((lo + m - lo) / 2))) := Mv.mirrored (Nat.le_refl _) (by (clear hz h1 hn; omega)) hz
  refine wpS_bind (w_reverse (wpS_bind (w_upLoop L (v.sane B) hn h1 hm ?_ fun k k1 k2 k3 _ => wpS_pure (h k _ v (by (clear k2 hz hm hn; omega)) k2 k3))))
  intro i j a b c
  show kx rk (mirror (arrOf st) lo (lo + m) ((lo + m - lo) / 2)) i ≤ kx rk (mirror (arrOf st) lo (lo + m) ((lo + m - lo) / 2)) j
  rw [kx_mirror rk hz, kx_mirror rk hz, if_pos (by (clear hz hm h1 hn; omega)), if_pos (by (clear hz hm h1 hn; omega))]
  exact hs _ _ (by (clear b a hz hm h1 hn; omega)) (by (clear c a hz hm h1 hn; omega)) (by (clear c b hz hm hn; omega))
theorem w_dnLoop (L : LtOk M A E s kd S rk) {st : SortSt} {lo m nrem : Nat} {Q : DescSt → SortSt → Prop} (B : Sane kd S n st) (hn : lo + nrem ≤ n) (h1 : 1 ≤ m) (hm : m ≤ nrem) (hs : Dn rk (arrOf st) lo (lo + m))
    (h : ∀ k q st', Mv lo (lo + nrem) st st' → m ≤ k → k ≤ nrem → Dn rk (arrOf st') lo (lo + k) → q + 1 ≤ k → (∀ i, lo + k - (q + 1) ≤ i → i < lo + k → kx rk (arrOf st') i = kx rk (arrOf st') (lo + k - 1)) → Q (none, k, q) st') :
    wpS M A E s (dnLoop lo m nrem) Q st := by
  unfold dnLoop
  refine wpS_forRange (I := fun x c st' => ∃ q, c = (none, x, q) ∧ Mv lo (lo + nrem) st st' ∧ Dn rk (arrOf st') lo (lo + x) ∧ q + 1 ≤ x ∧
    (∀ i, lo + x - (q + 1) ≤ i → i < lo + x → kx rk (arrOf st') i = kx rk (arrOf st') (lo + x - 1))) ?turn ?last ⟨0, rfl, Mv.refl _ _ _, hs, by (clear hm hn; omega), fun i a b => by rw [show i = lo + m - 1 by (clear hm h1 hn; omega)]⟩
  case last =>
    rintro c st' ⟨q, rfl, v, hs', hq, he⟩
    have e : max m nrem = nrem := by (clear hq h1 hn; omega)
    rw [e] at hs' hq he ⊢
    exact h nrem q st' v hm (Nat.le_refl _) hs' hq he
  case turn =>
    rintro x c st' hax hxn ⟨q, rfl, v, hs', hq, he⟩
    dsimp only
    have B' := v.sane B
    have hz : lo + x ≤ (arrOf st').size := by rw [B'.size]; (clear hq hax hm h1; omega)
    refine wpS_bind (w_ltAt L B' (by (clear hz hq hax hm h1; omega)) (by (clear hz hq hax hm h1; omega)) ?_)
    by_cases hless : kx rk (arrOf st') (lo + x) < kx rk (arrOf st') (lo + x - 1)
    · simp only [hless, decide_true, if_true]
      have more : ∀ xs : Array Keyed, (∀ k, kx rk xs k = kx rk (arrOf st') k) → Dn rk xs lo (lo + (x + 1)) := by
        intro xs hk i j a b c
        rw [hk, hk]
        by_cases hj : j < lo + x
        · exact hs' i j a b hj
        · have hj' : j = lo + x := by (clear b a hless hz hq hxn hax hm h1 hn; omega)
          subst hj'
          by_cases hi : i = lo + x
          · subst hi
            (clear b a hj c hless hz hq hxn hax hm h1 hn; omega)
          · have := hs' i (lo + x - 1) a (by (clear hj c a hless hz hq hxn hax hm h1 hn; omega)) (by (clear hi hj c b a hless hz hq hxn hm hn; omega))
            (clear hi hj c b a hz hq hxn hax hm h1 hn; omega)
      by_cases hq0 : q > 0
      · rw [if_pos hq0]
        exact wpS_bind (w_reverse (wpS_pure ⟨0, rfl, v.trans (Mv.mirrored (by (clear hq0 hless hz hxn hax hm h1 hn; omega)) (by (clear hq0 hless hz hq hax hm h1 hn; omega)) hz), more _ (kx_mirror_level rk hz he), by (clear hq0 hless hz hq hxn hax hm h1 hn; omega), fun i a b => by rw [show i = lo + (x + 1) - 1 by (clear hq0 hless hz hq hxn hax hm h1 hn; omega)]⟩))
      · rw [if_neg hq0]
        exact wpS_pure ⟨0, rfl, v, more _ (fun _ => rfl), by (clear hq0 hless hz hq hxn hax hm h1 hn; omega), fun i a b => by rw [show i = lo + (x + 1) - 1 by (clear hq0 hless hz hq hxn hax hm h1 hn; omega)]⟩
    · simp only [hless, decide_false, Bool.false_eq_true, if_false]
      refine wpS_bind (w_ltAt L B' (by (clear hless hz hq hax hm h1; omega)) (by (clear hless hz hq hax hm h1; omega)) ?_)
      by_cases hbig : kx rk (arrOf st') (lo + x - 1) < kx rk (arrOf st') (lo + x)
      · simp only [hbig, decide_true, if_true]
        exact wpS_pure (h x q st' v hax (by (clear hbig hless hz hq hax hm h1 hn; omega)) hs' hq he)
      · simp only [hbig, decide_false, Bool.false_eq_true, if_false]
        have ex : kx rk (arrOf st') (lo + x) = kx rk (arrOf st') (lo + x - 1) := by (clear hz hq hxn hax hm h1 hn; omega)
        refine wpS_pure ⟨q + 1, rfl, v, fun i j a b c => ?_, by (clear ex hbig hless hz hxn hax hm h1 hn; omega), fun i a b => ?_⟩
        · by_cases hj : j < lo + x
          · exact hs' i j a b hj
          · have hj' : j = lo + x := by (clear b a ex hbig hless hz hq hxn hax hm h1 hn; omega)
            subst hj'
            by_cases hi : i = lo + x
            · subst hi
              (clear b a hj c ex hbig hless hz hq hxn hax hm h1 hn; omega)
            · have := hs' i (lo + x - 1) a (by (clear hj c a ex hbig hless hz hq hxn hax hm h1 hn; omega)) (by (clear hi hj c b a ex hbig hless hz hq hxn hm hn; omega))
              (clear hi hj c b a ex hless hz hq hxn hax hm h1 hn; omega)
        · rw [show lo + (x + 1) - 1 = lo + x by (clear b a ex hbig hless hz hq hxn hax hm h1 hn; omega)]
          by_cases hi : i = lo + x
          · rw [hi]
          · rw [ex]
            exact he i (by (clear hi b ex hbig hless hz hq hxn hax hm h1 hn; omega)) (by (clear a ex hbig hless hz hq hxn hax hm h1 hn; omega))
theorem w_dnPart (L : LtOk M A E s kd S rk) {st : SortSt} {lo m nrem : Nat} {Q : Option Nat → SortSt → Prop} (B : Sane kd S n st) (hn : lo + nrem ≤ n) (hm : m + 1 ≤ nrem) (hs : Dn rk (arrOf st) lo (lo + (m + 1)))
    (h : ∀ k st', Mv lo (lo + nrem) st st' → 1 ≤ k → k ≤ nrem → Up rk (arrOf st') lo (lo + k) → Q (some k) st') : wpS M A E s (dnPart lo m nrem) Q st := by
  unfold dnPart
  refine wpS_bind (wpS_lift (wpAny_rule ⟨rfl, ?_⟩))
  refine wpS_bind (w_dnLoop L B hn (by (clear hm hn; omega)) hm hs fun k q st' v k1 k2 hs' hq he => ?_)
  dsimp only
  have B' := v.sane B
  have hz : lo + k ≤ (arrOf st').size := by rw [B'.size]; (clear hq k1 hm; omega)
  by_cases hq0 : q > 0
  · rw [if_pos hq0]
    have v2 : Mv lo (lo + nrem) st' (setArr st' (mirror (arrOf st') (lo + k - (q + 1)) (lo + k) ((lo + k - (lo + k - (q + 1))) / 2))) := Mv.mirrored (by (clear hq0 hz k2 k1 hm hn; omega)) (by (clear hq0 hz hq k1 hm hn; omega)) hz
    refine wpS_bind (w_reverse (w_upTail L (v2.sane B') hn (by (clear hq0 hz hq k2 hm hn; omega)) k2 ?_ fun j st2 v3 => h j st2 ((v.trans v2).trans v3)))
    intro i j a b c
    show kx rk (mirror (arrOf st') (lo + k - (q + 1)) (lo + k) ((lo + k - (lo + k - (q + 1))) / 2)) j ≤ kx rk (mirror (arrOf st') (lo + k - (q + 1)) (lo + k) ((lo + k - (lo + k - (q + 1))) / 2)) i
    rw [kx_mirror_level rk hz he, kx_mirror_level rk hz he]
    exact hs' i j a b c
  · rw [if_neg hq0]
    exact w_upTail L B' hn (by (clear hq0 hz hq k2 hm hn; omega)) k2 hs' fun j st2 v3 => h j st2 (v.trans v3)
theorem w_countRun (L : LtOk M A E s kd S rk) {st : SortSt} {lo nrem : Nat} {Q : Option Nat → SortSt → Prop} (B : Sane kd S n st) (hn : lo + nrem ≤ n) (h1 : 1 ≤ nrem)
    (h : ∀ k st', Mv lo (lo + nrem) st st' → 1 ≤ k → k ≤ nrem → Up rk (arrOf st') lo (lo + k) → Q (some k) st') : wpS M A E s (countRun' lo nrem) Q st := by
  rw [countRun_at]
  refine wpS_bind (w_upLoop L B hn (Nat.le_refl 1) h1 (fun i j a b c => by rw [show i = j by (clear h1 hn; omega)]; exact Int.le_refl _) fun m m1 m2 hs hor => ?_)
  dsimp only
  by_cases hm : m = nrem
  · rw [if_pos (by simpa using hm)]
    exact wpS_pure (h m st (Mv.refl _ _ _) m1 m2 hs)
  · rw [if_neg (by simpa using hm)]
    have hlt := hor.resolve_left hm
    by_cases hg : m > 1
    · rw [if_pos hg]
      refine wpS_bind (w_ltAt L B (by (clear hg hlt hm hor m2 m1; omega)) (by (clear hg hlt hm hor m1; omega)) ?_)
      by_cases hrose : kx rk (arrOf st) lo < kx rk (arrOf st) (lo + m - 1)
      · simp only [hrose, decide_true, if_true]
        exact wpS_pure (h m st (Mv.refl _ _ _) m1 m2 hs)
      · simp only [hrose, decide_false, Bool.false_eq_true, if_false]
        have hz : lo + m ≤ (arrOf st).size := by rw [B.size]; (clear hrose hg hlt hm hor m1 h1; omega)
        have lev : ∀ k, lo ≤ k → k < lo + m → kx rk (arrOf st) k = kx rk (arrOf st) (lo + m - 1) := by
          intro k a b
          have a1 := hs lo k (Nat.le_refl _) a b
          have a2 := hs k (lo + m - 1) a (by (clear a1 a hz hrose hg hlt hm hor m2 m1 h1 hn; omega)) (by (clear a1 b a hz hrose hg hlt hm hor m2 h1 hn; omega))
          (clear b a hz hg hlt hm hor m2 m1 h1 hn; omega)
        have v : Mv lo (lo + nrem) st (setArr st (mirror (arrOf st) lo (lo + m) ((lo + m - lo) / 2))) := Mv.mirrored (Nat.le_refl _) (by (clear hz hrose hg hlt hm hor m1 h1 hn; omega)) hz
        refine wpS_bind (w_reverse (w_dnPart L (v.sane B) hn (by (clear hz hrose hg hlt hor m1 h1 hn; omega)) ?_ fun j st2 v3 => h j st2 (v.trans v3)))
        intro i j a b c
        show kx rk (mirror (arrOf st) lo (lo + m) ((lo + m - lo) / 2)) j ≤ kx rk (mirror (arrOf st) lo (lo + m) ((lo + m - lo) / 2)) i
        rw [kx_mirror_level rk hz lev, kx_mirror_level rk hz lev]
        by_cases hj : j < lo + m
        · rw [lev i a (by (clear c a hz hrose hg hlt hm hor m2 m1 h1 hn; omega)), lev j (by (clear hj c hz hrose hg hlt hm hor m2 m1 h1 hn; omega)) hj]
          exact Int.le_refl _
        · have hj' : j = lo + m := by (clear b a hz hrose hg hlt hm hor m2 m1 h1 hn; omega)
          subst hj'
          by_cases hi : i = lo + m
          · subst hi
            (clear b a hj c hz hrose hg hlt hm hor m2 m1 h1 hn; omega)
          · rw [lev i a (by (clear hj c a hz hrose hg hlt hm hor m2 m1 h1 hn; omega))]
            (clear hi hj c b a hz hrose hg hlt m2 m1 h1 hn; omega)
    · rw [if_neg hg]
      have hm1 : m = 1 := by (clear hlt hm hor m2 h1 hn; omega)
      subst hm1
      refine w_dnPart L B hn (by (clear hg hlt hor m2 m1 hn; omega)) ?_ h
      intro i j a b c
      by_cases hi : i = j
      · rw [hi]
        exact Int.le_refl _
      · have e1 : i = lo := by (clear hg hlt hm hor m2 m1 h1 hn; omega)
        have e2 : j = lo + 1 := by (clear e1 hg hlt hm hor m2 m1 h1 hn; omega)
        subst e1 e2
        have : i + 1 - 1 = i := by (clear c hi b a hlt hor hn hg hm m2 m1 h1; omega)
        rw [this] at hlt
        (clear this c hi b a hor hn hg hm m2 m1 h1; omega)
theorem w_binarySort (L : LtOk M A E s kd S rk) {st : SortSt} {lo m ok : Nat} {Q : Bool → SortSt → Prop} (B : Sane kd S n st) (hn : lo + m ≤ n) (hok : ok ≤ m) (hs : Up rk (arrOf st) lo (lo + ok))
    (h : ∀ st', Mv lo (lo + m) st st' → Up rk (arrOf st') lo (lo + m) → Q true st') : wpS M A E s (binarySort' lo m ok) Q st := by
  rw [binarySort'_eq]
  refine wpS_bind (wpS_mono (wpS_forRange (I := fun k c st' => c = (none, ()) ∧ Mv lo (lo + m) st st' ∧ Up rk (arrOf st') lo (lo + min k m))
    (Q := fun c st' => c = (none, ()) ∧ Mv lo (lo + m) st st' ∧ Up rk (arrOf st') lo (lo + m)) ?turn ?last ?first) ?after)
  case after =>
    rintro c st' ⟨rfl, v, hs'⟩
    exact wpS_pure (h st' v hs')
  case first =>
    refine ⟨rfl, Mv.refl _ _ _, fun i j a b c => ?_⟩
    by_cases h0 : ok = 0
    · rw [show i = j by (clear hok hn; omega)]
      exact Int.le_refl _
    · exact hs i j a b (by (clear b a hok hn; omega))
  case last =>
    rintro c st' ⟨hc, v, hs'⟩
    refine ⟨hc, v, ?_⟩
    rwa [show min (max (max ok 1) m) m = m by (clear hc hok hn; omega)] at hs'
  case turn =>
    rintro k c st' hak hkm ⟨rfl, v, hs'⟩
    have e0 : min k m = k := by (clear hak hok hn; omega)
    rw [e0] at hs'
    have B' := v.sane B
    refine wpS_bind (wpS_mono (wpS_forRange (I := fun x c st2 => st2 = st' ∧ ∃ l r, c = (none, l, r) ∧ l ≤ r ∧ r ≤ k ∧ r - l ≤ k - x ∧
        (∀ i, i < l → kx rk (arrOf st') (lo + i) ≤ kx rk (arrOf st') (lo + k)) ∧ (∀ i, r ≤ i → i < k → kx rk (arrOf st') (lo + k) < kx rk (arrOf st') (lo + i)))
      (Q := fun c st2 => st2 = st' ∧ ∃ l r, c = (none, l, r) ∧ l ≤ k ∧
        (∀ i, i < l → kx rk (arrOf st') (lo + i) ≤ kx rk (arrOf st') (lo + k)) ∧ (∀ i, l ≤ i → i < k → kx rk (arrOf st') (lo + k) < kx rk (arrOf st') (lo + i))) ?iturn ?ilast ?ifirst) ?iafter)
    case ifirst => exact ⟨rfl, 0, k, rfl, by (clear e0 hkm hak hok hn; omega), by (clear e0 hkm hak hok hn; omega), by (clear e0 hkm hak hok hn; omega), fun i hi => by (clear e0 hkm hak hok hn; omega), fun i a b => by (clear e0 hkm hak hok hn; omega)⟩
    case ilast =>
      rintro c st2 ⟨rfl, l, r, rfl, hlr, hrk, hd, hlo, hhi⟩
      have e : l = r := by (clear hrk e0 hkm hak hok hn; omega)
      subst e
      exact ⟨rfl, l, l, rfl, hrk, hlo, hhi⟩
    case iturn =>
      rintro x c st2 _ hxk ⟨rfl, l, r, rfl, hlr, hrk, hd, hlo, hhi⟩
      dsimp only
      by_cases hge : l ≥ r
      · rw [if_pos hge]
        have e : l = r := by (clear hd hrk hxk e0 hkm hak hok hn; omega)
        subst e
        exact wpS_pure ⟨rfl, l, l, rfl, hrk, hlo, hhi⟩
      · rw [if_neg hge]
        refine wpS_bind (w_ltAt L B' (by (clear hge hd hrk hlr hxk e0 hak hok; omega)) (by (clear hge hd hxk e0 hak hok; omega)) ?_)
        by_cases hless : kx rk (arrOf st2) (lo + k) < kx rk (arrOf st2) (lo + (l + r) / 2)
        · simp only [hless, decide_true, if_true]
          refine wpS_pure ⟨rfl, l, (l + r) / 2, rfl, by (clear hless hge hd hrk hxk e0 hkm hak hok hn; omega), by (clear hless hge hd hxk e0 hkm hak hok hn; omega), by (clear hless hge hrk hlr hxk e0 hkm hak hok hn; omega), hlo, fun i a b => ?_⟩
          have := hs' (lo + (l + r) / 2) (lo + i) (by (clear b a hless hge hd hrk hlr hxk e0 hkm hak hok hn; omega)) (by (clear b hless hge hd hrk hlr hxk e0 hkm hak hok hn; omega)) (by (clear a hless hge hd hrk hlr hxk e0 hkm hak hok hn; omega))
          (clear b a hge hd hrk hlr hxk e0 hkm hak hok hn; omega)
        · simp only [hless, decide_false, Bool.false_eq_true, if_false]
          refine wpS_pure ⟨rfl, (l + r) / 2 + 1, r, rfl, by (clear hless hd hrk hlr hxk e0 hkm hak hok hn; omega), by (clear hless hge hd hlr hxk e0 hkm hak hok hn; omega), by (clear hless hge hrk hlr hxk e0 hkm hak hok hn; omega), fun i a => ?_, hhi⟩
          have := hs' (lo + i) (lo + (l + r) / 2) (by (clear a hless hge hd hrk hlr hxk e0 hkm hak hok hn; omega)) (by (clear hless hge hd hrk hlr hxk e0 hkm hak hok hn; omega)) (by (clear a hless hd hlr hxk e0 hkm hak hok hn; omega))
          (clear a hge hd hrk hlr hxk e0 hkm hak hok hn; omega)
    case iafter =>
      rintro c st2 ⟨rfl, l, r, rfl, hlk, hlo, hhi⟩
      show wpS M A E s (moveDown' (lo + k) (lo + l) >>= fun _ => pure (ForInStep.yield (none, ()))) _ st2
      rw [moveDown'_eq]
      have hz : lo + k < (arrOf st2).size := by rw [B'.size]; (clear hlk e0 hak hok; omega)
      refine wpS_bind (wpS_modify (wpS_pure ⟨rfl, v.trans (Mv.sunk (by (clear hz hlk e0 hkm hak hok hn; omega)) (by (clear hz hlk e0 hak hok hn; omega)) hz), ?_⟩))
      rw [show min (k + 1) m = k + 1 by (clear hz hlk e0 hak hok hn; omega)]
      intro i j a b c
      show kx rk (bubble (arrOf st2) (lo + k) (lo + k - (lo + l))) i ≤ kx rk (bubble (arrOf st2) (lo + k) (lo + k - (lo + l))) j
      rw [kx_bubble rk hz (by (clear c b a hz hlk e0 hkm hak hok hn; omega)), kx_bubble rk hz (by (clear c b a hz hlk e0 hkm hak hok hn; omega)), show lo + k - (lo + k - (lo + l)) = lo + l by (clear c b a hz e0 hkm hak hok hn; omega)]
      have low : ∀ q, lo ≤ q → q < lo + l → kx rk (arrOf st2) q ≤ kx rk (arrOf st2) (lo + k) := fun q a b => by
        have := hlo (q - lo) (by (clear c hz hlk e0 hkm hak hok hn; omega))
        rwa [show lo + (q - lo) = q by (clear this b c hz hlk e0 hkm hak hok hn; omega)] at this
      have high : ∀ q, lo + l ≤ q → q < lo + k → kx rk (arrOf st2) (lo + k) < kx rk (arrOf st2) q := fun q a b => by
        have := hhi (q - lo) (by (clear b c hz hlk e0 hkm hak hok hn; omega)) (by (clear a c hz hlk e0 hkm hok hn; omega))
        rwa [show lo + (q - lo) = q by (clear this b c hz hlk e0 hkm hak hok hn; omega)] at this
      repeat' split
      all_goals first
        | (exfalso; omega)
        | exact Int.le_refl _
        | exact low _ (by (clear c b hz hlk e0 hkm hak hok hn; omega)) (by (clear c a hz hlk e0 hkm hak hok hn; omega))
        | exact Int.le_of_lt (high _ (by (clear c b a hz hlk e0 hkm hak hok hn; omega)) (by (clear c b a hz hlk e0 hkm hak hok hn; omega)))
        | exact hs' _ _ (by omega) (by omega) (by omega)
end
end Tim
namespace Tim
section
variable {α : Type} {rk : α → Int} {as bs out : List α} {ia ib : Nat}
def Asc (rk : α → Int) (l : List α) : Prop := l.Pairwise fun p q => rk p ≤ rk q
structure Jn (rk : α → Int) (as bs out : List α) (ia ib : Nat) : Prop where
  perm : out.Perm (as.take ia ++ bs.take ib)
  asc : Asc rk out
  la : ∀ p ∈ out, ∀ q ∈ as.drop ia, rk p ≤ rk q
  lb : ∀ p ∈ out, ∀ q ∈ bs.drop ib, rk p ≤ rk q
theorem Jn.swap (h : Jn rk as bs out ia ib) : Jn rk bs as out ib ia := ⟨h.perm.trans List.perm_append_comm, h.asc, h.lb, h.la⟩
theorem Jn.start : Jn rk as bs [] 0 0 := ⟨by simp, List.Pairwise.nil, (fun _ z => nomatch z), (fun _ z => nomatch z)⟩
theorem asc_drop (h : Asc rk as) (i : Nat) : Asc rk (as.drop i) := List.Pairwise.sublist (List.drop_sublist i as) h
theorem drop_split (as : List α) (i k : Nat) : as.drop i = (as.drop i).take k ++ as.drop (i + k) := by
  rw [← List.drop_drop, List.take_append_drop]
theorem Jn.moreA (h : Jn rk as bs out ia ib) (ha : Asc rk as) (k : Nat) (hx : ∀ p ∈ (as.drop ia).take k, ∀ q ∈ bs.drop ib, rk p ≤ rk q) : Jn rk as bs (out ++ (as.drop ia).take k) (ia + k) ib := by
  have hd := asc_drop ha ia
  rw [drop_split as ia k] at hd
  obtain ⟨d1, d2, d3⟩ := List.pairwise_append.mp hd
  have sub1 : ∀ q, q ∈ (as.drop ia).take k → q ∈ as.drop ia := fun q hq => (List.take_sublist _ _).mem hq
  have sub2 : ∀ q, q ∈ as.drop (ia + k) → q ∈ as.drop ia := fun q hq => by
    rw [drop_split as ia k]
    exact List.mem_append_right _ hq
  refine ⟨?_, ?_, fun p hp q hq => ?_, fun p hp q hq => ?_⟩
  · rw [List.take_add, List.append_assoc]
    refine (h.perm.append_right _).trans ?_
    rw [List.append_assoc]
    exact List.Perm.append_left _ List.perm_append_comm
  · exact List.pairwise_append.mpr ⟨h.asc, d1, fun p hp q hq => h.la p hp q (sub1 q hq)⟩
  · rcases List.mem_append.mp hp with hp | hp
    · exact h.la p hp q (sub2 q hq)
    · exact d3 p hp q hq
  · rcases List.mem_append.mp hp with hp | hp
    · exact h.lb p hp q hq
    · exact hx p hp q hq
theorem Jn.done (h : Jn rk as bs out ia ib) (ha : Asc rk as) (hb : Asc rk bs) (hx : ∀ p ∈ as.drop ia, ∀ q ∈ bs.drop ib, rk p ≤ rk q) :
    (out ++ as.drop ia ++ bs.drop ib).Perm (as ++ bs) ∧ Asc rk (out ++ as.drop ia ++ bs.drop ib) := by
  constructor
  · refine ((h.perm.append_right _).append_right _).trans ?_
    have e1 : as = as.take ia ++ as.drop ia := (List.take_append_drop ..).symm
    have e2 : bs = bs.take ib ++ bs.drop ib := (List.take_append_drop ..).symm
    refine List.Perm.trans ?_ (List.Perm.of_eq (show (as.take ia ++ as.drop ia) ++ (bs.take ib ++ bs.drop ib) = as ++ bs by rw [← e1, ← e2]))
    simp only [List.append_assoc]
    refine List.Perm.append_left _ ?_
    rw [← List.append_assoc, ← List.append_assoc]
    exact List.Perm.append_right _ List.perm_append_comm
  · refine List.pairwise_append.mpr ⟨List.pairwise_append.mpr ⟨h.asc, asc_drop ha _, h.la⟩, asc_drop hb _, fun p hp q hq => ?_⟩
    rcases List.mem_append.mp hp with hp | hp
    · exact h.lb p hp q hq
    · exact hx p hp q hq
theorem Jn.done2 (h : Jn rk as bs out ia ib) (ha : Asc rk as) (hb : Asc rk bs) (hx : ∀ p ∈ bs.drop ib, ∀ q ∈ as.drop ia, rk p ≤ rk q) :
    (out ++ bs.drop ib ++ as.drop ia).Perm (as ++ bs) ∧ Asc rk (out ++ bs.drop ib ++ as.drop ia) :=
  let ⟨a, b⟩ := h.swap.done hb ha hx
  ⟨a.trans List.perm_append_comm, b⟩
theorem asc_rev (h : Asc rk as) : Asc (fun p => - rk p) as.reverse := by
  unfold Asc
  rw [List.pairwise_reverse]
  exact List.Pairwise.imp (fun {p q} (z : rk p ≤ rk q) => show - rk q ≤ - rk p by omega) h
theorem asc_rev' (h : Asc (fun p => - rk p) as) : Asc rk as.reverse := by
  unfold Asc
  rw [List.pairwise_reverse]
  exact List.Pairwise.imp (fun {p q} (z : - rk p ≤ - rk q) => show rk q ≤ rk p by omega) h
theorem rev_drop (as : List α) (k : Nat) (h : k ≤ as.length) : as.reverse.drop (as.length - k) = (as.take k).reverse := by
  rw [List.drop_reverse]
  congr 1
  congr 1
  omega
theorem rev_cut (as : List α) (i k : Nat) (hi : i ≤ k) (h : k ≤ as.length) : (as.reverse.drop (as.length - k)).take (k - i) = ((as.drop i).take (k - i)).reverse := by
  rw [rev_drop as k h, List.take_reverse, List.length_take, Nat.min_eq_left h]
  congr 1
  rw [List.drop_take]
  congr 1
  · omega
  · congr 1
    omega
theorem drop_ge (ha : Asc rk as) {i : Nat} {x : α} (hx : as[i]? = some x) : ∀ q ∈ as.drop i, rk x ≤ rk q := by
  intro q hq
  obtain ⟨j, hj, e⟩ := List.mem_iff_getElem.mp hq
  rw [List.getElem_drop] at e
  obtain ⟨hi, ex⟩ := List.getElem?_eq_some_iff.mp hx
  subst e ex
  rcases Nat.eq_zero_or_pos j with h | h
  · subst h
    exact Int.le_refl _
  · exact List.pairwise_iff_getElem.mp ha i (i + j) hi (by rw [List.length_drop] at hj; omega) (by omega)
theorem take_le (ha : Asc rk as) {i : Nat} {x : α} (hx : as[i]? = some x) : ∀ q ∈ as.take (i + 1), rk q ≤ rk x := by
  intro q hq
  obtain ⟨j, hj, e⟩ := List.mem_iff_getElem.mp hq
  rw [List.getElem_take] at e
  obtain ⟨hi, ex⟩ := List.getElem?_eq_some_iff.mp hx
  subst e ex
  have hj' : j ≤ i := by rw [List.length_take] at hj; omega
  rcases Nat.lt_or_ge j i with h | h
  · exact List.pairwise_iff_getElem.mp ha j i (by omega) hi h
  · have : j = i := by omega
    subst this
    exact Int.le_refl _
theorem take_one {i : Nat} {x : α} (hx : as[i]? = some x) : (as.drop i).take 1 = [x] := by
  obtain ⟨hi, ex⟩ := List.getElem?_eq_some_iff.mp hx
  rw [List.drop_eq_getElem_cons hi, ex]
  rfl
end
end Tim
namespace Tim
open PySem PyProof.Rows
def gallopS : Bool → Keyed → Array Keyed → Nat → Nat → Nat → StateT SortSt Sem (Option Nat) := sortPriv% PySem.Builtin.gallop
def beyd (left : Bool) (key : Keyed) (arr : Array Keyed) (i : Nat) : StateT SortSt Sem (Option Bool) := do
  let p ← elem' arr i
  if left then lt' p key else return (← lt' key p).map (!·)
theorem gallopS_eq (left : Bool) (key : Keyed) (arr : Array Keyed) (base n hint : Nat) : gallopS left key arr base n hint = (do
  let mut bk := 0
  let mut fw := 1
  let mut lo := 0
  let mut up := 0
  let some rt ← beyd left key arr (base + hint) | return none
  if rt then
    let most := n - hint
    for _ in [0:n] do
      if fw ≥ most then break
      let some mr ← beyd left key arr (base + (hint + fw)) | return none
      if !mr then break
      bk := fw
      fw := 2 * fw + 1
    lo := hint + bk + 1
    up := hint + min fw most
  else
    let most := hint + 1
    for _ in [0:n] do
      if fw ≥ most then break
      let some fd ← beyd left key arr (base + (hint - fw)) | return none
      if fd then break
      bk := fw
      fw := 2 * fw + 1
    lo := hint + 1 - min fw most
    up := hint - bk
  for _ in [0:n] do
    if lo ≥ up then break
    let md := lo + (up - lo) / 2
    let some mr ← beyd left key arr (base + md) | return none
    if mr then lo := md + 1 else up := md
  return some up) := rfl
def ahd (left : Bool) (k v : Int) : Bool := if left then decide (v < k) else decide (v ≤ k)
theorem ahd_mono {left : Bool} {k v u : Int} (h : v ≤ u) (e : ahd left k u = true) : ahd left k v = true := by
  unfold ahd at *
  cases left
  · simp at *
    omega
  · simp at *
    omega
def gBin (left : Bool) (key : Keyed) (arr : Array Keyed) (base n lo0 up0 : Nat) : StateT SortSt Sem (Option Nat) := do
  let mut lo := lo0
  let mut up := up0
  for _ in [0:n] do
    if lo ≥ up then break
    let md := lo + (up - lo) / 2
    let some mr ← beyd left key arr (base + md) | return none
    if mr then lo := md + 1 else up := md
  return some up
section
variable {M : Model} {A : Around} {E : Value → Shared → Prop} {s : Shared} {kd : SortKind} {S : Keyed → Prop} {rk : Keyed → Int}
theorem w_elem {st : SortSt} {arr : Array Keyed} {i : Nat} {p : Keyed} {Q : Keyed → SortSt → Prop} (e : arr[i]? = some p) (h : Q p st) : wpS M A E s (elem' arr i) Q st := by
  rw [elem'_eq, e]
  exact wpS_pure h
theorem w_beyd (L : LtOk M A E s kd S rk) {st : SortSt} {left : Bool} {key : Keyed} {arr : Array Keyed} {i : Nat} {Q : Option Bool → SortSt → Prop} (hk : kindOf st = kd) (hS : S key) (hp : ∃ p, arr[i]? = some p ∧ S p)
    (h : Q (some (ahd left (rk key) (kx rk arr i))) st) : wpS M A E s (beyd left key arr i) Q st := by
  obtain ⟨p, e, sp⟩ := hp
  rw [kx_of e] at h
  unfold beyd
  refine wpS_bind (w_elem e ?_)
  cases left with
  | true => exact L p key st Q sp hS hk h
  | false =>
    refine wpS_bind (L key p st _ hS sp hk (wpS_pure ?_))
    have e2 : (!decide (rk key < rk p)) = ahd false (rk key) (rk p) := by
      unfold ahd
      simp
      rw [← decide_not]
      simp
    show Q (some (!decide (rk key < rk p))) st
    rw [e2]
    exact h
theorem w_gBin (L : LtOk M A E s kd S rk) {st : SortSt} {left : Bool} {key : Keyed} {arr : Array Keyed} {base n lo up : Nat} {Q : Option Nat → SortSt → Prop} (hk : kindOf st = kd) (hS : S key)
    (hp : ∀ i, i < n → ∃ p, arr[base + i]? = some p ∧ S p) (hu : Up rk arr base (base + n)) (hlu : lo ≤ up) (hun : up ≤ n) (h1 : ∀ i, i < lo → ahd left (rk key) (kx rk arr (base + i)) = true)
    (h2 : ∀ i, up ≤ i → i < n → ahd left (rk key) (kx rk arr (base + i)) = false)
    (h : ∀ k, k ≤ n → (∀ i, i < k → ahd left (rk key) (kx rk arr (base + i)) = true) → (∀ i, k ≤ i → i < n → ahd left (rk key) (kx rk arr (base + i)) = false) → Q (some k) st) :
    wpS M A E s (gBin left key arr base n lo up) Q st := by
  unfold gBin
  dsimp only
  refine wpS_bind (wpS_mono (wpS_forRange (I := fun x c st' => st' = st ∧ ∃ lo up, c = (none, lo, up) ∧ lo ≤ up ∧ up ≤ n ∧ up - lo ≤ n - x ∧
      (∀ i, i < lo → ahd left (rk key) (kx rk arr (base + i)) = true) ∧ (∀ i, up ≤ i → i < n → ahd left (rk key) (kx rk arr (base + i)) = false))
    (Q := fun c st' => st' = st ∧ ∃ lo up, c = (none, lo, up) ∧ up ≤ n ∧
      (∀ i, i < up → ahd left (rk key) (kx rk arr (base + i)) = true) ∧ (∀ i, up ≤ i → i < n → ahd left (rk key) (kx rk arr (base + i)) = false)) ?turn ?last ⟨rfl, lo, up, rfl, hlu, hun, by omega, h1, h2⟩) ?after)
  case after =>
    rintro c st' ⟨rfl, lo, up, rfl, a, b, d⟩
    exact wpS_pure (h up a b d)
  case last =>
    rintro c st' ⟨rfl, lo, up, rfl, a, b, d, e1, e2⟩
    have e : lo = up := by omega
    subst e
    exact ⟨rfl, lo, lo, rfl, b, e1, e2⟩
  case turn =>
    rintro x c st' _ hx ⟨rfl, lo, up, rfl, a, b, d, e1, e2⟩
    dsimp only
    by_cases hge : lo ≥ up
    · rw [if_pos hge]
      have e : lo = up := by omega
      subst e
      exact wpS_pure ⟨rfl, lo, lo, rfl, b, e1, e2⟩
    · rw [if_neg hge]
      refine wpS_bind (w_beyd L hk hS (hp _ (by omega)) ?_)
      cases em : ahd left (rk key) (kx rk arr (base + (lo + (up - lo) / 2))) with
      | true =>
        dsimp only
        rw [if_pos rfl]
        refine wpS_pure ⟨rfl, _, _, rfl, by omega, b, by omega, fun i hi => ?_, e2⟩
        exact ahd_mono (hu _ _ (by omega) (by omega) (by omega)) em
      | false =>
        dsimp only
        rw [if_neg Bool.false_ne_true]
        refine wpS_pure ⟨rfl, _, _, rfl, by omega, by omega, by omega, e1, fun i hi hn => ?_⟩
        cases ei : ahd left (rk key) (kx rk arr (base + i)) with
        | false => rfl
        | true =>
          have := ahd_mono (hu (base + (lo + (up - lo) / 2)) (base + i) (by omega) (by omega) (by omega)) ei
          rw [em] at this
          cases this
theorem w_gallop (L : LtOk M A E s kd S rk) {st : SortSt} {left : Bool} {key : Keyed} {arr : Array Keyed} {base n hint : Nat} {Q : Option Nat → SortSt → Prop} (hk : kindOf st = kd) (hS : S key)
    (hp : ∀ i, i < n → ∃ p, arr[base + i]? = some p ∧ S p) (hu : Up rk arr base (base + n)) (hh : hint < n)
    (h : ∀ k, k ≤ n → (∀ i, i < k → ahd left (rk key) (kx rk arr (base + i)) = true) → (∀ i, k ≤ i → i < n → ahd left (rk key) (kx rk arr (base + i)) = false) → Q (some k) st) :
    wpS M A E s (gallopS left key arr base n hint) Q st := by
  have dn : ∀ i j, i ≤ j → j < n → ahd left (rk key) (kx rk arr (base + j)) = true → ahd left (rk key) (kx rk arr (base + i)) = true := fun i j a b e => ahd_mono (hu _ _ (by omega) (by omega) (by omega)) e
  have nu : ∀ i j, i ≤ j → j < n → ahd left (rk key) (kx rk arr (base + i)) = false → ahd left (rk key) (kx rk arr (base + j)) = false := fun i j a b e => by
    cases ej : ahd left (rk key) (kx rk arr (base + j)) with
    | false => rfl
    | true =>
      rw [dn i j a b ej] at e
      cases e
  rw [gallopS_eq]
  dsimp only
  refine wpS_bind (w_beyd L hk hS (hp hint hh) ?_)
  cases e0 : ahd left (rk key) (kx rk arr (base + hint)) with
  | true =>
    dsimp only
    rw [if_pos rfl]
    refine wpS_bind (wpS_mono (wpS_forRange (I := fun x c st' => st' = st ∧ ∃ bk fw, c = (none, bk, fw) ∧ bk < fw ∧ x + 1 ≤ fw ∧ hint + bk < n ∧ ahd left (rk key) (kx rk arr (base + (hint + bk))) = true)
      (Q := fun c st' => st' = st ∧ ∃ bk fw, c = (none, bk, fw) ∧ bk < fw ∧ hint + bk < n ∧ ahd left (rk key) (kx rk arr (base + (hint + bk))) = true ∧ (n - hint ≤ fw ∨ hint + fw < n ∧ ahd left (rk key) (kx rk arr (base + (hint + fw))) = false)) ?turn ?last ⟨rfl, 0, 1, rfl, by omega, by omega, by omega, e0⟩) ?after)
    case last =>
      rintro c st' ⟨rfl, bk, fw, rfl, a, b, d, e⟩
      exact ⟨rfl, bk, fw, rfl, a, d, e, .inl (by omega)⟩
    case turn =>
      rintro x c st' _ hx ⟨rfl, bk, fw, rfl, a, b, d, e⟩
      dsimp only
      by_cases hge : fw ≥ n - hint
      · rw [if_pos hge]
        exact wpS_pure ⟨rfl, bk, fw, rfl, a, d, e, .inl hge⟩
      · rw [if_neg hge]
        refine wpS_bind (w_beyd L hk hS (hp _ (by omega)) ?_)
        cases em : ahd left (rk key) (kx rk arr (base + (hint + fw))) with
        | true =>
          dsimp only
          rw [if_neg (by simp)]
          exact wpS_pure ⟨rfl, fw, _, rfl, by omega, by omega, by omega, em⟩
        | false =>
          dsimp only
          rw [if_pos (by simp)]
          exact wpS_pure ⟨rfl, bk, fw, rfl, a, d, e, .inr ⟨by omega, em⟩⟩
    case after =>
      rintro c st' ⟨rfl, bk, fw, rfl, a, d, e, f⟩
      dsimp only
      refine w_gBin L hk hS hp hu (lo := hint + bk + 1) (up := hint + min fw (n - hint)) (by omega) (by omega) (fun i hi => dn i (hint + bk) (by omega) d e) (fun i hi hn => ?_) h
      rcases f with f | ⟨f1, f2⟩
      · omega
      · exact nu (hint + fw) i (by omega) hn f2
  | false =>
    dsimp only
    rw [if_neg Bool.false_ne_true]
    refine wpS_bind (wpS_mono (wpS_forRange (I := fun x c st' => st' = st ∧ ∃ bk fw, c = (none, bk, fw) ∧ bk < fw ∧ x + 1 ≤ fw ∧ bk ≤ hint ∧ ahd left (rk key) (kx rk arr (base + (hint - bk))) = false)
      (Q := fun c st' => st' = st ∧ ∃ bk fw, c = (none, bk, fw) ∧ bk < fw ∧ bk ≤ hint ∧ ahd left (rk key) (kx rk arr (base + (hint - bk))) = false ∧ (hint + 1 ≤ fw ∨ fw ≤ hint ∧ ahd left (rk key) (kx rk arr (base + (hint - fw))) = true)) ?turn ?last ⟨rfl, 0, 1, rfl, by omega, by omega, by omega, e0⟩) ?after)
    case last =>
      rintro c st' ⟨rfl, bk, fw, rfl, a, b, d, e⟩
      exact ⟨rfl, bk, fw, rfl, a, d, e, .inl (by omega)⟩
    case turn =>
      rintro x c st' _ hx ⟨rfl, bk, fw, rfl, a, b, d, e⟩
      dsimp only
      by_cases hge : fw ≥ hint + 1
      · rw [if_pos hge]
        exact wpS_pure ⟨rfl, bk, fw, rfl, a, d, e, .inl hge⟩
      · rw [if_neg hge]
        refine wpS_bind (w_beyd L hk hS (hp _ (by omega)) ?_)
        cases em : ahd left (rk key) (kx rk arr (base + (hint - fw))) with
        | true =>
          dsimp only
          rw [if_pos rfl]
          exact wpS_pure ⟨rfl, bk, fw, rfl, a, d, e, .inr ⟨by omega, em⟩⟩
        | false =>
          dsimp only
          rw [if_neg Bool.false_ne_true]
          exact wpS_pure ⟨rfl, fw, _, rfl, by omega, by omega, by omega, em⟩
    case after =>
      rintro c st' ⟨rfl, bk, fw, rfl, a, d, e, f⟩
      dsimp only
      refine w_gBin L hk hS hp hu (lo := hint + 1 - min fw (hint + 1)) (up := hint - bk) (by omega) (by omega) (fun i hi => ?_) (fun i hi hn => nu (hint - bk) i hi hn e) h
      rcases f with f | ⟨f1, f2⟩
      · omega
      · exact dn i (hint - fw) (by omega) (by omega) f2
end
end Tim
namespace Tim
open PySem PyProof.Rows
def mergeLoS : Array Keyed → Array Keyed → StateT SortSt Sem (Array Keyed) := sortPriv% PySem.Builtin.mergeLo
abbrev setGal (st : SortSt) (g : Nat) : SortSt := SortSt.mk' (kindOf st) (arrOf st) (pendingOf st) g (failedOf st)
def restA (a b out : Array Keyed) (ia ib : Nat) : Array Keyed := out ++ a.extract ia a.size ++ b.extract ib b.size
def restB (a b out : Array Keyed) (ia ib : Nat) : Array Keyed := out ++ b.extract ib b.size ++ a.extract ia a.size
theorem mergeLoS_eq (a b : Array Keyed) : mergeLoS a b = (do
  rule "list.sort.merge-lo"
  let all := a.size + b.size
  let mut o : Array Keyed := #[← elem' b 0]
  let mut x := 0
  let mut y := 1
  if y == b.size then return restA a b o x y
  if x + 1 == a.size then return restB a b o x y
  let mut g := gallopOf (← get)
  for _ in [0:all] do
    let mut ca := 0
    let mut cb := 0
    for _ in [0:all] do
      let some won ← lt' (← elem' b y) (← elem' a x) | return restA a b o x y
      if won then
        o := o.push (← elem' b y); y := y + 1; cb := cb + 1; ca := 0
        if y == b.size then return restA a b o x y
        if cb ≥ g then break
      else
        o := o.push (← elem' a x); x := x + 1; ca := ca + 1; cb := 0
        if x + 1 == a.size then return restB a b o x y
        if ca ≥ g then break
    rule "list.sort.gallop"
    g := g + 1
    for _ in [0:all] do
      if g > 1 then g := g - 1
      modify fun st => setGal st g
      let some k ← gallopS false (← elem' b y) a x (a.size - x) 0 | return restA a b o x y
      ca := k
      if k > 0 then
        o := o ++ a.extract x (x + k); x := x + k
        if x + 1 == a.size then return restB a b o x y
        if x == a.size then return restA a b o x y
      o := o.push (← elem' b y); y := y + 1
      if y == b.size then return restA a b o x y
      let some k ← gallopS true (← elem' a x) b y (b.size - y) 0 | return restA a b o x y
      cb := k
      if k > 0 then
        o := o ++ b.extract y (y + k); y := y + k
        if y == b.size then return restA a b o x y
      o := o.push (← elem' a x); x := x + 1
      if x + 1 == a.size then return restB a b o x y
      if ca < 7 && cb < 7 then break
    g := g + 1
    modify fun st => setGal st g
  unsupported "internal:list.sort.merge-bound") := rfl
structure Gl (st st' : SortSt) : Prop where
  arr : arrOf st' = arrOf st
  kind : kindOf st' = kindOf st
  pend : pendingOf st' = pendingOf st
  failed : failedOf st' = failedOf st
theorem Gl.refl (st : SortSt) : Gl st st := ⟨rfl, rfl, rfl, rfl⟩
theorem Gl.set {st st' : SortSt} (h : Gl st st') (g : Nat) : Gl st (setGal st' g) := ⟨h.arr, h.kind, h.pend, h.failed⟩
section
variable {rk : Keyed → Int} {a b o : Array Keyed} {x y : Nat}
theorem kx_list (xs : Array Keyed) (i : Nat) {p : Keyed} (h : xs.toList[i]? = some p) : kx rk xs i = rk p := kx_of (by rw [← h, Array.getElem?_toList])
theorem mem_cut {l : List Keyed} {i k : Nat} {p : Keyed} (h : p ∈ (l.drop i).take k) : ∃ j, j < k ∧ l[i + j]? = some p := by
  obtain ⟨j, hj, e⟩ := List.mem_iff_getElem.mp h
  rw [List.length_take] at hj
  refine ⟨j, by (clear e; omega), ?_⟩
  rw [← e, List.getElem_take, List.getElem_drop, List.getElem?_eq_getElem]
theorem mem_rest {l : List Keyed} {i : Nat} {p : Keyed} (h : p ∈ l.drop i) : ∃ j, i ≤ j ∧ j < l.length ∧ l[j]? = some p := by
  obtain ⟨j, hj, e⟩ := List.mem_iff_getElem.mp h
  rw [List.length_drop] at hj
  refine ⟨i + j, by (clear e hj; omega), by (clear e; omega), ?_⟩
  rw [← e, List.getElem_drop, List.getElem?_eq_getElem]
theorem up_asc {xs : Array Keyed} (h : Asc rk xs.toList) (lo hi : Nat) (hh : hi ≤ xs.size) : Up rk xs lo hi := by
  intro i j _ hij hj
  have hi' : i < xs.toList.length := by rw [Array.length_toList]; omega
  have hj' : j < xs.toList.length := by rw [Array.length_toList]; (clear hi' hij; omega)
  rw [kx_list xs i (List.getElem?_eq_getElem hi'), kx_list xs j (List.getElem?_eq_getElem hj')]
  rcases Nat.lt_or_ge i j with q | q
  · exact List.pairwise_iff_getElem.mp h i j hi' hj' q
  · have : i = j := by (clear hj' hi' hj hh; omega)
    subst this
    exact Int.le_refl _
theorem ext_list (xs : Array Keyed) (i k : Nat) : (xs.extract i (i + k)).toList = (xs.toList.drop i).take k := by
  rw [Array.toList_extract, List.extract_eq_take_drop]
  congr 1
  omega
theorem ext_rest (xs : Array Keyed) (i : Nat) : (xs.extract i xs.size).toList = xs.toList.drop i := by
  rw [Array.toList_extract, List.extract_eq_take_drop, List.take_of_length_le]
  rw [List.length_drop, Array.length_toList]
  omega
theorem jn_pushA {p : Keyed} (h : Jn rk a.toList b.toList o.toList x y) (ha : Asc rk a.toList) (e : a[x]? = some p) (hle : ∀ q ∈ b.toList.drop y, rk p ≤ rk q) : Jn rk a.toList b.toList (o.push p).toList (x + 1) y := by
  have e' : a.toList[x]? = some p := by rw [Array.getElem?_toList]; exact e
  have := h.moreA ha 1 (by rw [take_one e']; intro z hz; rw [List.mem_singleton.mp hz]; exact hle)
  rwa [take_one e', ← Array.toList_push] at this
theorem jn_pushB {p : Keyed} (h : Jn rk a.toList b.toList o.toList x y) (hb : Asc rk b.toList) (e : b[y]? = some p) (hle : ∀ q ∈ a.toList.drop x, rk p ≤ rk q) : Jn rk a.toList b.toList (o.push p).toList x (y + 1) :=
  (jn_pushA h.swap hb e hle).swap
theorem jn_cutA (h : Jn rk a.toList b.toList o.toList x y) (ha : Asc rk a.toList) (k : Nat) (hx : ∀ p ∈ (a.toList.drop x).take k, ∀ q ∈ b.toList.drop y, rk p ≤ rk q) : Jn rk a.toList b.toList (o ++ a.extract x (x + k)).toList (x + k) y := by
  rw [Array.toList_append, ext_list]
  exact h.moreA ha k hx
theorem jn_cutB (h : Jn rk a.toList b.toList o.toList x y) (hb : Asc rk b.toList) (k : Nat) (hx : ∀ p ∈ (b.toList.drop y).take k, ∀ q ∈ a.toList.drop x, rk p ≤ rk q) : Jn rk a.toList b.toList (o ++ b.extract y (y + k)).toList x (y + k) :=
  (jn_cutA h.swap hb k hx).swap
def Good (rk : Keyed → Int) (a b r : Array Keyed) : Prop := r.toList.Perm (a.toList ++ b.toList) ∧ Asc rk r.toList
theorem good_restA (h : Jn rk a.toList b.toList o.toList x y) (ha : Asc rk a.toList) (hb : Asc rk b.toList) (hy : y = b.size) : Good rk a b (restA a b o x y) := by
  have hx : ∀ p ∈ a.toList.drop x, ∀ q ∈ b.toList.drop y, rk p ≤ rk q := fun p _ q hq => by
    rw [List.drop_of_length_le (by rw [Array.length_toList]; omega)] at hq
    cases hq
  have := h.done ha hb hx
  unfold Good restA
  rw [Array.toList_append, Array.toList_append, ext_rest, ext_rest]
  exact this
end
structure Mg (S : Keyed → Prop) (rk : Keyed → Int) (a b : Array Keyed) : Prop where
  sa : ∀ p ∈ a.toList, S p
  sb : ∀ p ∈ b.toList, S p
  aa : Asc rk a.toList
  ab : Asc rk b.toList
  na : 0 < a.size
  nb : 0 < b.size
  top : ∃ z, a[a.size - 1]? = some z ∧ ∀ p ∈ b.toList, rk p < rk z
  bot : ∃ z, b[0]? = some z ∧ ∀ p ∈ a.toList, rk z < rk p
section
variable {S : Keyed → Prop} {rk : Keyed → Int} {a b o : Array Keyed} {x y : Nat}
theorem Mg.atA (m : Mg S rk a b) {i : Nat} (h : i < a.size) : ∃ p, a[i]? = some p ∧ S p ∧ p ∈ a.toList :=
  ⟨a[i], getElem?_pos a i h, m.sa _ (by simp), by simp⟩
theorem Mg.atB (m : Mg S rk a b) {i : Nat} (h : i < b.size) : ∃ p, b[i]? = some p ∧ S p ∧ p ∈ b.toList :=
  ⟨b[i], getElem?_pos b i h, m.sb _ (by simp), by simp⟩
theorem good_restB (m : Mg S rk a b) (h : Jn rk a.toList b.toList o.toList x y) (hx : x + 1 = a.size) : Good rk a b (restB a b o x y) := by
  obtain ⟨z, ez, hz⟩ := m.top
  have hq : ∀ p ∈ b.toList.drop y, ∀ q ∈ a.toList.drop x, rk p ≤ rk q := fun p hp q hq => by
    obtain ⟨j, h1, h2, e⟩ := mem_rest hq
    rw [Array.length_toList] at h2
    have ej : j = a.size - 1 := by (clear e ez; omega)
    rw [Array.getElem?_toList, ej, ez] at e
    cases e
    exact Int.le_of_lt (hz p (List.mem_of_mem_drop hp))
  have := h.done2 m.aa m.ab hq
  unfold Good restB
  rw [Array.toList_append, Array.toList_append, ext_rest, ext_rest]
  exact this
theorem dropA_ge (m : Mg S rk a b) {i : Nat} {p : Keyed} (e : a[i]? = some p) : ∀ q ∈ a.toList.drop i, rk p ≤ rk q := drop_ge m.aa (by rw [Array.getElem?_toList]; exact e)
theorem dropB_ge (m : Mg S rk a b) {i : Nat} {p : Keyed} (e : b[i]? = some p) : ∀ q ∈ b.toList.drop i, rk p ≤ rk q := drop_ge m.ab (by rw [Array.getElem?_toList]; exact e)
end
abbrev LoSt := Option (Array Keyed) × Array Keyed × Nat × Nat × Nat × Nat × Nat
def loTail (a b : Array Keyed) (ca cb g : Nat) (o : Array Keyed) (x y : Nat) : StateT SortSt Sem (ForInStep LoSt) := do
  let p ← elem' a x
  if (x + 1 + 1 == a.size) = true then pure (ForInStep.done (some (restB a b (o.push p) (x + 1) y), o.push p, x + 1, y, g, ca, cb))
  else if (decide (ca < 7) && decide (cb < 7)) = true then pure (ForInStep.done (none, o.push p, x + 1, y, g, ca, cb))
  else pure (ForInStep.yield (none, o.push p, x + 1, y, g, ca, cb))
def loMid (a b : Array Keyed) (ca cb g : Nat) (o : Array Keyed) (x y : Nat) : StateT SortSt Sem (ForInStep LoSt) := do
  let p ← elem' b y
  if (y + 1 == b.size) = true then pure (ForInStep.done (some (restA a b (o.push p) x (y + 1)), o.push p, x, y + 1, g, ca, cb))
  else do
    let some k ← gallopS true (← elem' a x) b (y + 1) (b.size - (y + 1)) 0 | pure (ForInStep.done (some (restA a b (o.push p) x (y + 1)), o.push p, x, y + 1, g, ca, cb))
    if k > 0 then
      if (y + 1 + k == b.size) = true then pure (ForInStep.done (some (restA a b (o.push p ++ b.extract (y + 1) (y + 1 + k)) x (y + 1 + k)), o.push p ++ b.extract (y + 1) (y + 1 + k), x, y + 1 + k, g, ca, k))
      else loTail a b ca k g (o.push p ++ b.extract (y + 1) (y + 1 + k)) x (y + 1 + k)
    else loTail a b ca k g (o.push p) x (y + 1)
def loTop (a b : Array Keyed) (ca cb g : Nat) (o : Array Keyed) (x y : Nat) : StateT SortSt Sem (ForInStep LoSt) := do
  modify fun st => setGal st g
  let some k ← gallopS false (← elem' b y) a x (a.size - x) 0 | pure (ForInStep.done (some (restA a b o x y), o, x, y, g, ca, cb))
  if k > 0 then
    if (x + k + 1 == a.size) = true then pure (ForInStep.done (some (restB a b (o ++ a.extract x (x + k)) (x + k) y), o ++ a.extract x (x + k), x + k, y, g, k, cb))
    else if (x + k == a.size) = true then pure (ForInStep.done (some (restA a b (o ++ a.extract x (x + k)) (x + k) y), o ++ a.extract x (x + k), x + k, y, g, k, cb))
    else loMid a b k cb g (o ++ a.extract x (x + k)) (x + k) y
  else loMid a b k cb g o x y
section
variable {M : Model} {A : Around} {E : Value → Shared → Prop} {s : Shared} {kd : SortKind} {S : Keyed → Prop} {rk : Keyed → Int} {a b : Array Keyed} {st : SortSt}
structure Go (rk : Keyed → Int) (a b o : Array Keyed) (x y : Nat) : Prop where
  jn : Jn rk a.toList b.toList o.toList x y
  hx : x + 1 < a.size
  hy : y < b.size
def LoQ (rk : Keyed → Int) (a b : Array Keyed) (st : SortSt) (n : Nat) (r : ForInStep LoSt) (st' : SortSt) : Prop := Gl st st' ∧ match r with
  | .done c => (∃ r, c.1 = some r ∧ Good rk a b r) ∨ (c.1 = none ∧ Go rk a b c.2.1 c.2.2.1 c.2.2.2.1 ∧ n ≤ c.2.2.1 + c.2.2.2.1)
  | .yield c => c.1 = none ∧ Go rk a b c.2.1 c.2.2.1 c.2.2.2.1 ∧ n ≤ c.2.2.1 + c.2.2.2.1
theorem w_loTail (m : Mg S rk a b) {st' : SortSt} {n ca cb g x y : Nat} {o : Array Keyed} (hg : Gl st st') (J : Jn rk a.toList b.toList o.toList x y) (hx : x + 1 < a.size) (hy : y < b.size)
    (hle : ∀ p, a[x]? = some p → ∀ q ∈ b.toList.drop y, rk p ≤ rk q) (hn : n ≤ x + y) : wpS M A E s (loTail a b ca cb g o x y) (LoQ rk a b st (n + 1)) st' := by
  obtain ⟨p, e, _, _⟩ := m.atA (i := x) (by (clear hn hy; omega))
  have J' := jn_pushA J m.aa e (hle p e)
  unfold loTail
  refine wpS_bind (w_elem e ?_)
  by_cases c1 : x + 1 + 1 = a.size
  · rw [if_pos (by simpa using c1)]
    exact wpS_pure ⟨hg, .inl ⟨_, rfl, good_restB m J' c1⟩⟩
  · rw [if_neg (by simpa using c1)]
    by_cases c2 : (decide (ca < 7) && decide (cb < 7)) = true
    · rw [if_pos c2]
      exact wpS_pure ⟨hg, .inr ⟨rfl, ⟨J', by show x + 1 + 1 < a.size; (clear c2 e hn hy; omega), hy⟩, by show n + 1 ≤ x + 1 + y; (clear c2 c1 e hy hx; omega)⟩⟩
    · rw [if_neg c2]
      exact wpS_pure ⟨hg, rfl, ⟨J', by show x + 1 + 1 < a.size; (clear c2 e hn hy; omega), hy⟩, by show n + 1 ≤ x + 1 + y; (clear c2 c1 e hy hx; omega)⟩
theorem w_loMid (L : LtOk M A E s kd S rk) (hk : kindOf st = kd) (m : Mg S rk a b) {st' : SortSt} {n ca cb g x y : Nat} {o : Array Keyed} (hg : Gl st st') (J : Jn rk a.toList b.toList o.toList x y) (hx : x + 1 < a.size) (hy : y < b.size)
    (hle : ∀ p, b[y]? = some p → ∀ q ∈ a.toList.drop x, rk p ≤ rk q) (hn : n ≤ x + y) : wpS M A E s (loMid a b ca cb g o x y) (LoQ rk a b st (n + 1)) st' := by
  obtain ⟨p, e, _, _⟩ := m.atB hy
  have J' := jn_pushB J m.ab e (hle p e)
  unfold loMid
  refine wpS_bind (w_elem e ?_)
  by_cases c1 : y + 1 = b.size
  · rw [if_pos (by simpa using c1)]
    exact wpS_pure ⟨hg, .inl ⟨_, rfl, good_restA J' m.aa m.ab c1⟩⟩
  · rw [if_neg (by simpa using c1)]
    obtain ⟨q, eq, sq, _⟩ := m.atA (i := x) (by (clear c1 e hn hy hk; omega))
    refine wpS_bind (w_elem eq ?_)
    refine wpS_bind (w_gallop L (hg.kind.trans hk) sq (fun i hi => ?_) (up_asc m.ab _ _ (by (clear eq c1 e hn hx hk; omega))) (by (clear eq e hn hx hk; omega)) fun k k1 k2 k3 => ?_)
    · obtain ⟨p, e, sp, _⟩ := m.atB (i := y + 1 + i) (by (clear eq c1 e hn hy hx hk; omega))
      exact ⟨p, e, sp⟩
    dsimp only
    have after : ∀ p', a[x]? = some p' → ∀ z ∈ b.toList.drop (y + 1 + k), rk p' ≤ rk z := fun p' ep z hz => by
      rw [eq] at ep
      cases ep
      obtain ⟨j, h1, h2, ez⟩ := mem_rest hz
      rw [Array.length_toList] at h2
      have := k3 (j - (y + 1)) (by (clear ez h2 k1 eq c1 e hn hy hx hk; omega)) (by (clear ez h1 k1 eq e hn hx hk; omega))
      rw [show y + 1 + (j - (y + 1)) = j by (clear this ez h2 k1 eq c1 e hn hy hx hk; omega), kx_list b j ez] at this
      simp [ahd] at this
      (clear ez h2 h1 k1 eq c1 e hn hy hx hk; omega)
    by_cases c2 : k > 0
    · rw [if_pos c2]
      have J2 := jn_cutB J' m.ab k fun z hz w hw => by
        obtain ⟨j, h1, ez⟩ := mem_cut hz
        have := k2 j h1
        rw [kx_list b _ ez] at this
        simp [ahd] at this
        have := dropA_ge m eq w hw
        (clear ez h1 c2 k1 eq c1 e hn hy hx hk; omega)
      by_cases c3 : y + 1 + k = b.size
      · rw [if_pos (by simpa using c3)]
        exact wpS_pure ⟨hg, .inl ⟨_, rfl, good_restA J2 m.aa m.ab c3⟩⟩
      · rw [if_neg (by simpa using c3)]
        exact w_loTail m hg J2 hx (by (clear c2 eq c1 e hn hx hk; omega)) after (by (clear c3 c2 k1 eq c1 e hy hx hk; omega))
    · rw [if_neg c2]
      have k0 : k = 0 := by (clear k1 eq c1 e hn hy hx hk; omega)
      subst k0
      exact w_loTail m hg J' hx (by (clear c2 k1 eq e hn hx hk; omega)) after (by (clear c2 k1 eq c1 e hy hx hk; omega))
theorem w_loTop (L : LtOk M A E s kd S rk) (hk : kindOf st = kd) (m : Mg S rk a b) {st' : SortSt} {n ca cb g x y : Nat} {o : Array Keyed} (hg : Gl st st') (G : Go rk a b o x y) (hn : n ≤ x + y) :
    wpS M A E s (loTop a b ca cb g o x y) (LoQ rk a b st (n + 1)) st' := by
  obtain ⟨J, hx, hy⟩ := G
  unfold loTop
  refine wpS_bind (wpS_modify ?_)
  have hg' := hg.set g
  obtain ⟨q, eq, sq, mq⟩ := m.atB hy
  refine wpS_bind (w_elem eq ?_)
  refine wpS_bind (w_gallop L (hg'.kind.trans hk) sq (fun i hi => ?_) (up_asc m.aa _ _ (by (clear eq hy hn hk; omega))) (by (clear eq hy hn hk; omega)) fun k k1 k2 k3 => ?_)
  · obtain ⟨p, e, sp, _⟩ := m.atA (i := x + i) (by (clear eq hy hx hn hk; omega))
    exact ⟨p, e, sp⟩
  dsimp only
  have after : ∀ p', b[y]? = some p' → ∀ z ∈ a.toList.drop (x + k), rk p' ≤ rk z := fun p' ep z hz => by
    rw [eq] at ep
    cases ep
    obtain ⟨j, h1, h2, ez⟩ := mem_rest hz
    rw [Array.length_toList] at h2
    have := k3 (j - x) (by (clear ez h2 k1 eq hy hx hn hk; omega)) (by (clear ez h1 k1 eq hy hn hk; omega))
    rw [show x + (j - x) = j by (clear this ez h2 k1 eq hy hx hn hk; omega), kx_list a j ez] at this
    simp [ahd] at this
    (clear ez h2 h1 k1 eq hy hx hn hk; omega)
  by_cases c2 : k > 0
  · rw [if_pos c2]
    have J2 := jn_cutA J m.aa k fun z hz w hw => by
      obtain ⟨j, h1, ez⟩ := mem_cut hz
      have := k2 j h1
      rw [kx_list a _ ez] at this
      simp [ahd] at this
      have := dropB_ge m eq w hw
      (clear ez h1 c2 k1 eq hy hx hn hk; omega)
    by_cases c3 : x + k + 1 = a.size
    · rw [if_pos (by simpa using c3)]
      exact wpS_pure ⟨hg', .inl ⟨_, rfl, good_restB m J2 c3⟩⟩
    · rw [if_neg (by simpa using c3)]
      have c4 : ¬ x + k = a.size := fun c4 => by
        obtain ⟨z, ez, hz⟩ := m.top
        have := k2 (a.size - 1 - x) (by (clear ez c3 c2 k1 eq hy hn hk; omega))
        rw [show x + (a.size - 1 - x) = a.size - 1 by (clear this ez c4 c3 c2 k1 eq hy hn hk; omega), kx_of ez] at this
        simp [ahd] at this
        have := hz q mq
        (clear ez c4 c3 c2 k1 eq hy hx hn hk; omega)
      rw [if_neg (by simpa using c4)]
      exact w_loMid L hk m hg' J2 (by (clear c2 eq hy hn hk; omega)) hy after (by (clear c4 c3 c2 k1 eq hy hx hk; omega))
  · rw [if_neg c2]
    have k0 : k = 0 := by (clear k1 eq hy hx hn hk; omega)
    subst k0
    exact w_loMid L hk m hg' J hx hy after hn
theorem w_mergeLo (L : LtOk M A E s kd S rk) (hk : kindOf st = kd) (m : Mg S rk a b) {Q : Array Keyed → SortSt → Prop} (h : ∀ r st', Gl st st' → Good rk a b r → Q r st') : wpS M A E s (mergeLoS a b) Q st := by
  rw [mergeLoS_eq]
  refine wpS_bind (wpS_lift (wpAny_rule ⟨rfl, ?_⟩))
  obtain ⟨q, eq, sq, mq⟩ := m.atB m.nb
  refine wpS_bind (w_elem eq ?_)
  have J1 : Jn rk a.toList b.toList (#[q] : Array Keyed).toList 0 1 := by
    obtain ⟨z, ez, hz⟩ := m.bot
    rw [eq] at ez
    cases ez
    exact jn_pushB (o := #[]) Jn.start m.ab eq fun w hw => Int.le_of_lt (hz w (List.mem_of_mem_drop hw))
  by_cases c1 : 1 = b.size
  · rw [if_pos (by simpa using c1)]
    exact wpS_pure (h _ _ (Gl.refl _) (good_restA J1 m.aa m.ab c1))
  · rw [if_neg (by simpa using c1)]
    by_cases c2 : 0 + 1 = a.size
    · rw [if_pos (by simpa using c2)]
      exact wpS_pure (h _ _ (Gl.refl _) (good_restB m J1 c2))
    · rw [if_neg (by simpa using c2)]
      refine wpS_bind (wpS_get ?_)
      have na := m.na
      have nb := m.nb
      have G1 : Go rk a b #[q] 0 1 := ⟨J1, by (clear nb c1 eq hk; omega), by (clear na c2 eq hk; omega)⟩
      refine wpS_bind (wpS_mono (wpS_forRange (I := fun i c st' => Gl st st' ∧ ∃ o x y g, c = (none, o, x, y, g) ∧ Go rk a b o x y ∧ i + 1 ≤ x + y)
        (Q := fun c st' => Gl st st' ∧ ∃ r o x y g, c = (some r, o, x, y, g) ∧ Good rk a b r) ?turn ?last ⟨Gl.refl _, #[q], 0, 1, _, rfl, G1, by (clear nb na c2 c1 eq hk; omega)⟩) ?after)
      case after =>
        rintro c st' ⟨hg, r, o, x, y, g, rfl, hr⟩
        exact wpS_pure (h r st' hg hr)
      case last =>
        rintro c st' ⟨hg, o, x, y, g, rfl, G, hi⟩
        have := G.hx
        have := G.hy
        exfalso
        (clear nb na c2 c1 eq hk; omega)
      case turn =>
        rintro i c st' _ hi ⟨hg, o, x, y, g, rfl, G, hxy⟩
        dsimp only
        refine wpS_bind (wpS_mono (wpS_forRange (I := fun j c st2 => Gl st st2 ∧ ∃ o x y ca cb, c = (none, o, x, y, ca, cb) ∧ Go rk a b o x y ∧ i + 1 + j ≤ x + y)
          (Q := fun c st2 => Gl st st2 ∧ ∃ r o x y ca cb, c = (r, o, x, y, ca, cb) ∧ match r with
            | some r => Good rk a b r
            | none => Go rk a b o x y ∧ i + 2 ≤ x + y) ?iturn ?ilast ⟨hg, o, x, y, 0, 0, rfl, G, by (clear hi nb na c2 c1 eq hk; omega)⟩) ?iafter)
        case ilast =>
          rintro c st2 ⟨hg2, o, x, y, ca, cb, rfl, G, hj⟩
          have := G.hx
          have := G.hy
          exfalso
          (clear hxy hi nb na c2 c1 eq hk; omega)
        case iturn =>
          rintro j c st2 _ hj ⟨hg2, o, x, y, ca, cb, rfl, G, hxy2⟩
          dsimp only
          obtain ⟨pb, eb, sb, mb⟩ := m.atB G.hy
          obtain ⟨pa, ea, sa, ma⟩ := m.atA (i := x) (by have := G.hx; (clear eb hxy2 hj hxy hi nb na c2 c1 eq hk; omega))
          refine wpS_bind (w_elem eb (wpS_bind (w_elem ea (wpS_bind (L pb pa st2 _ sb sa (hg2.kind.trans hk) ?_)))))
          by_cases hw : rk pb < rk pa
          · simp only [hw, decide_true, if_true]
            refine wpS_bind (w_elem eb ?_)
            have J2 := jn_pushB G.jn m.ab eb fun z hz => Int.le_trans (Int.le_of_lt hw) (dropA_ge m ea z hz)
            by_cases c3 : y + 1 = b.size
            · rw [if_pos (by simpa using c3)]
              exact wpS_pure ⟨hg2, _, _, _, _, _, _, rfl, good_restA J2 m.aa m.ab c3⟩
            · rw [if_neg (by simpa using c3)]
              have G2 : Go rk a b (o.push pb) x (y + 1) := ⟨J2, G.hx, by have := G.hy; (clear hw ea eb hxy2 hj hxy hi nb na c2 c1 eq hk; omega)⟩
              split
              · exact wpS_pure ⟨hg2, _, _, _, _, _, _, rfl, G2, by (clear c3 hw ea eb hj hxy hi nb na c2 c1 eq hk; omega)⟩
              · exact wpS_pure ⟨hg2, _, _, _, _, _, rfl, G2, by (clear c3 hw ea eb hj hxy hi nb na c2 c1 eq hk; omega)⟩
          · simp only [hw, decide_false, Bool.false_eq_true, if_false]
            refine wpS_bind (w_elem ea ?_)
            have J2 := jn_pushA G.jn m.aa ea fun z hz => Int.le_trans (by (clear ea eb hxy2 hj hxy hi nb na c2 c1 eq hk; omega)) (dropB_ge m eb z hz)
            by_cases c3 : x + 1 + 1 = a.size
            · rw [if_pos (by simpa using c3)]
              exact wpS_pure ⟨hg2, _, _, _, _, _, _, rfl, good_restB m J2 c3⟩
            · rw [if_neg (by simpa using c3)]
              have G2 : Go rk a b (o.push pa) (x + 1) y := ⟨J2, by have := G.hx; (clear hw ea eb hxy2 hj hxy hi nb na c2 c1 eq hk; omega), G.hy⟩
              split
              · exact wpS_pure ⟨hg2, _, _, _, _, _, _, rfl, G2, by (clear c3 hw ea eb hj hxy hi nb na c2 c1 eq hk; omega)⟩
              · exact wpS_pure ⟨hg2, _, _, _, _, _, rfl, G2, by (clear c3 hw ea eb hj hxy hi nb na c2 c1 eq hk; omega)⟩
        case iafter =>
          rintro c st2 ⟨hg2, r, o2, x2, y2, ca, cb, rfl, hr⟩
          cases r with
          | some r => exact wpS_pure ⟨hg2, r, _, _, _, _, rfl, hr⟩
          | none =>
            obtain ⟨G2, hxy2⟩ := hr
            dsimp only
            refine wpS_bind (wpS_lift (wpAny_rule ⟨rfl, ?_⟩))
            refine wpS_bind (wpS_mono (wpS_forRange (I := fun j c st3 => Gl st st3 ∧ ∃ o x y g ca cb, c = (none, o, x, y, g, ca, cb) ∧ Go rk a b o x y ∧ i + 2 + j ≤ x + y)
              (Q := fun c st3 => Gl st st3 ∧ ∃ r o x y g ca cb, c = (r, o, x, y, g, ca, cb) ∧ match r with
                | some r => Good rk a b r
                | none => Go rk a b o x y ∧ i + 2 ≤ x + y) ?gturn ?glast ⟨hg2, o2, x2, y2, _, _, _, rfl, G2, by (clear hxy hi nb na c2 c1 eq hk; omega)⟩) ?gafter)
            case glast =>
              rintro c st3 ⟨hg3, o, x, y, g, ca, cb, rfl, G, hj⟩
              have := G.hx
              have := G.hy
              exfalso
              (clear hxy2 hxy hi nb na c2 c1 eq hk; omega)
            case gturn =>
              rintro j c st3 _ hj ⟨hg3, o, x, y, g, ca, cb, rfl, G, hxy3⟩
              have go : ∀ g', wpS M A E s (loTop a b ca cb g' o x y) (LoQ rk a b st (i + 2 + j + 1)) st3 := fun g' => w_loTop L hk m hg3 G hxy3
              dsimp only
              by_cases hgt : g > 1
              case' pos =>
                rw [if_pos hgt]
                refine wpS_mono (go (g - 1)) ?_
              case' neg =>
                rw [if_neg hgt]
                refine wpS_mono (go g) ?_
              all_goals
                intro r st4 q
                obtain ⟨hg4, q⟩ := q
                cases r with
                | done c' =>
                  obtain ⟨r, o, x, y, g, ca, cb⟩ := c'
                  rcases q with ⟨r', e, q⟩ | ⟨e, q, q'⟩
                  · simp only at e
                    subst e
                    exact ⟨hg4, _, _, _, _, _, _, _, rfl, q⟩
                  · simp only at e q q'
                    subst e
                    exact ⟨hg4, _, _, _, _, _, _, _, rfl, q, by omega⟩
                | yield c' =>
                  obtain ⟨r, o, x, y, g, ca, cb⟩ := c'
                  obtain ⟨e, q, q'⟩ := q
                  simp only at e q q'
                  subst e
                  exact ⟨hg4, _, _, _, _, _, _, rfl, q, by omega⟩
            case gafter =>
              rintro c st3 ⟨hg3, r, o3, x3, y3, g3, ca3, cb3, rfl, hr⟩
              cases r with
              | some r => exact wpS_pure ⟨hg3, r, _, _, _, _, rfl, hr⟩
              | none =>
                obtain ⟨G3, hxy3⟩ := hr
                dsimp only
                exact wpS_bind (wpS_modify (wpS_pure ⟨hg3.set _, _, _, _, _, rfl, G3, by (clear hxy2 hxy hi nb na c2 c1 eq hk; omega)⟩))
end
end Tim
namespace Tim
open PySem PyProof.Rows
def mergeHiS : Array Keyed → Array Keyed → StateT SortSt Sem (Array Keyed) := sortPriv% PySem.Builtin.mergeHi
def headA (a b out : Array Keyed) (na nb : Nat) : Array Keyed := a.extract 0 na ++ b.extract 0 nb ++ out.reverse
def headB (a b out : Array Keyed) (na nb : Nat) : Array Keyed := b.extract 0 nb ++ a.extract 0 na ++ out.reverse
theorem mergeHiS_eq (a b : Array Keyed) : mergeHiS a b = (do
  rule "list.sort.merge-hi"
  let all := a.size + b.size
  let mut x := a.size - 1
  let mut y := b.size
  let mut o : Array Keyed := #[← elem' a x]
  if x == 0 then return headA a b o x y
  if y == 1 then return headB a b o x y
  let mut g := gallopOf (← get)
  for _ in [0:all] do
    let mut ca := 0
    let mut cb := 0
    for _ in [0:all] do
      let some won ← lt' (← elem' b (y - 1)) (← elem' a (x - 1)) | return headA a b o x y
      if won then
        x := x - 1; o := o.push (← elem' a x); ca := ca + 1; cb := 0
        if x == 0 then return headA a b o x y
        if ca ≥ g then break
      else
        y := y - 1; o := o.push (← elem' b y); cb := cb + 1; ca := 0
        if y == 1 then return headB a b o x y
        if cb ≥ g then break
    rule "list.sort.gallop"
    g := g + 1
    for _ in [0:all] do
      if g > 1 then g := g - 1
      modify fun st => setGal st g
      let some j ← gallopS false (← elem' b (y - 1)) a 0 x (x - 1) | return headA a b o x y
      let k := x - j
      ca := k
      if k > 0 then
        o := o ++ (a.extract j x).reverse; x := j
        if x == 0 then return headA a b o x y
      y := y - 1; o := o.push (← elem' b y)
      if y == 1 then return headB a b o x y
      let some j ← gallopS true (← elem' a (x - 1)) b 0 y (y - 1) | return headA a b o x y
      let k := y - j
      cb := k
      if k > 0 then
        o := o ++ (b.extract j y).reverse; y := j
        if y == 1 then return headB a b o x y
        if y == 0 then return headA a b o x y
      x := x - 1; o := o.push (← elem' a x)
      if x == 0 then return headA a b o x y
      if ca < 7 && cb < 7 then break
    g := g + 1
    modify fun st => setGal st g
  unsupported "internal:list.sort.merge-bound") := rfl
section
variable {rk : Keyed → Int} {a b o : Array Keyed} {x y : Nat}
def JH (rk : Keyed → Int) (a b o : Array Keyed) (x y : Nat) : Prop := Jn (fun p => - rk p) a.toList.reverse b.toList.reverse o.toList (a.size - x) (b.size - y) ∧ x ≤ a.size ∧ y ≤ b.size
theorem JH.swap (h : JH rk a b o x y) : JH rk b a o y x := ⟨h.1.swap, h.2.2, h.2.1⟩
theorem rdrop (xs : Array Keyed) {k : Nat} (h : k ≤ xs.size) : xs.toList.reverse.drop (xs.size - k) = (xs.toList.take k).reverse := by
  have := rev_drop xs.toList k (by rw [Array.length_toList]; exact h)
  rwa [Array.length_toList] at this
theorem rcut (xs : Array Keyed) {i k : Nat} (hi : i ≤ k) (h : k ≤ xs.size) : (xs.toList.reverse.drop (xs.size - k)).take (k - i) = ((xs.toList.drop i).take (k - i)).reverse := by
  have := rev_cut xs.toList i k hi (by rw [Array.length_toList]; exact h)
  rwa [Array.length_toList] at this
theorem jh_cutA (h : JH rk a b o x y) (ha : Asc rk a.toList) {j : Nat} (hj : j ≤ x) (hx : ∀ p ∈ (a.toList.drop j).take (x - j), ∀ q ∈ b.toList.take y, rk q ≤ rk p) : JH rk a b (o ++ (a.extract j x).reverse) j y := by
  obtain ⟨J, h1, h2⟩ := h
  refine ⟨?_, by (clear h2; omega), h2⟩
  have := J.moreA (asc_rev ha) (x - j) (fun p hp q hq => by
    rw [rcut a hj h1] at hp
    rw [rdrop b h2] at hq
    have := hx p (List.mem_reverse.mp hp) q (List.mem_reverse.mp hq)
    show - rk p ≤ - rk q
    (clear h2 h1 hj; omega))
  rw [rcut a hj h1, show a.size - x + (x - j) = a.size - j by (clear h2; omega)] at this
  rw [Array.toList_append, Array.toList_reverse, Array.toList_extract, List.extract_eq_take_drop]
  exact this
theorem jh_pushA {p : Keyed} (h : JH rk a b o x y) (ha : Asc rk a.toList) (h1 : 1 ≤ x) (e : a[x - 1]? = some p) (hle : ∀ q ∈ b.toList.take y, rk q ≤ rk p) : JH rk a b (o.push p) (x - 1) y := by
  have e' : a.toList[x - 1]? = some p := by rw [Array.getElem?_toList]; exact e
  have t1 : (a.toList.drop (x - 1)).take (x - (x - 1)) = [p] := by
    rw [show x - (x - 1) = 1 by (clear e' e; omega)]
    exact take_one e'
  have := jh_cutA h ha (j := x - 1) (by (clear t1 e' e h1; omega)) (by rw [t1]; intro z hz; rw [List.mem_singleton.mp hz]; exact hle)
  have e2 : (o ++ (a.extract (x - 1) x).reverse) = o.push p := by
    apply Array.toList_inj.mp
    rw [Array.toList_append, Array.toList_reverse, Array.toList_extract, List.extract_eq_take_drop, t1, Array.toList_push]
    rfl
  rwa [e2] at this
theorem jh_cutB (h : JH rk a b o x y) (hb : Asc rk b.toList) {j : Nat} (hj : j ≤ y) (hx : ∀ p ∈ (b.toList.drop j).take (y - j), ∀ q ∈ a.toList.take x, rk q ≤ rk p) : JH rk a b (o ++ (b.extract j y).reverse) x j := (jh_cutA h.swap hb hj hx).swap
theorem jh_pushB {p : Keyed} (h : JH rk a b o x y) (hb : Asc rk b.toList) (h1 : 1 ≤ y) (e : b[y - 1]? = some p) (hle : ∀ q ∈ a.toList.take x, rk q ≤ rk p) : JH rk a b (o.push p) x (y - 1) := (jh_pushA h.swap hb h1 e hle).swap
theorem ext_head (xs : Array Keyed) (k : Nat) : (xs.extract 0 k).toList = xs.toList.take k := by
  rw [Array.toList_extract, List.extract_eq_take_drop, List.drop_zero, Nat.sub_zero]
theorem good_headB' (h : JH rk a b o x y) (ha : Asc rk a.toList) (hb : Asc rk b.toList) (hq : ∀ p ∈ a.toList.take x, ∀ q ∈ b.toList.take y, rk q ≤ rk p) : Good rk a b (headB a b o x y) := by
  obtain ⟨J, h1, h2⟩ := h
  have := J.done (asc_rev ha) (asc_rev hb) (fun p hp q hq' => by
    rw [rdrop a h1] at hp
    rw [rdrop b h2] at hq'
    have := hq p (List.mem_reverse.mp hp) q (List.mem_reverse.mp hq')
    show - rk p ≤ - rk q
    (clear h2 h1; omega))
  rw [rdrop a h1, rdrop b h2] at this
  have e : (headB a b o x y).toList = (o.toList ++ (a.toList.take x).reverse ++ (b.toList.take y).reverse).reverse := by
    unfold headB
    rw [Array.toList_append, Array.toList_append, ext_head, ext_head, Array.toList_reverse]
    simp
  unfold Good
  rw [e]
  exact ⟨(List.reverse_perm _).trans (this.1.trans ((List.reverse_perm _).append (List.reverse_perm _))), asc_rev' this.2⟩
theorem good_headA' (h : JH rk a b o x y) (ha : Asc rk a.toList) (hb : Asc rk b.toList) (hq : ∀ p ∈ b.toList.take y, ∀ q ∈ a.toList.take x, rk q ≤ rk p) : Good rk a b (headA a b o x y) := by
  obtain ⟨p, q⟩ := good_headB' h.swap hb ha hq
  exact ⟨p.trans List.perm_append_comm, q⟩
theorem good_headA (h : JH rk a b o x y) (ha : Asc rk a.toList) (hb : Asc rk b.toList) (hx : x = 0) : Good rk a b (headA a b o x y) := by
  refine good_headA' h ha hb fun p _ q hq => ?_
  rw [hx, List.take_zero] at hq
  cases hq
end
section
variable {S : Keyed → Prop} {rk : Keyed → Int} {a b o : Array Keyed} {x y : Nat}
theorem good_headB (m : Mg S rk a b) (h : JH rk a b o x y) (hy : y = 1) : Good rk a b (headB a b o x y) := by
  obtain ⟨z, ez, hz⟩ := m.bot
  refine good_headB' h m.aa m.ab fun p hp q hq => ?_
  subst hy
  obtain ⟨j, hj, e⟩ := List.mem_iff_getElem.mp hq
  rw [List.length_take] at hj
  have j0 : j = 0 := by (clear e ez; omega)
  subst j0
  rw [List.getElem_take] at e
  have : b.toList[0]? = some q := by rw [← e, List.getElem?_eq_getElem]
  rw [Array.getElem?_toList, ez] at this
  cases this
  exact Int.le_of_lt (hz p (List.mem_of_mem_take hp))
theorem takeA_le (m : Mg S rk a b) {i : Nat} {p : Keyed} (h1 : 1 ≤ i) (e : a[i - 1]? = some p) : ∀ q ∈ a.toList.take i, rk q ≤ rk p := by
  have := take_le m.aa (i := i - 1) (x := p) (by rw [Array.getElem?_toList]; exact e)
  rwa [show i - 1 + 1 = i by (clear e; omega)] at this
theorem takeB_le (m : Mg S rk a b) {i : Nat} {p : Keyed} (h1 : 1 ≤ i) (e : b[i - 1]? = some p) : ∀ q ∈ b.toList.take i, rk q ≤ rk p := by
  have := take_le m.ab (i := i - 1) (x := p) (by rw [Array.getElem?_toList]; exact e)
  rwa [show i - 1 + 1 = i by (clear e; omega)] at this
theorem mem_head {l : List Keyed} {k : Nat} {p : Keyed} (h : p ∈ l.take k) : ∃ j, j < k ∧ l[j]? = some p := by
  have := mem_cut (l := l) (i := 0) (k := k) (p := p) (by simpa using h)
  obtain ⟨j, a, b⟩ := this
  exact ⟨j, a, by rwa [Nat.zero_add] at b⟩
end
abbrev HiSt := Option (Array Keyed) × Nat × Nat × Array Keyed × Nat × Nat × Nat
def hiTail (a b : Array Keyed) (ca cb g : Nat) (o : Array Keyed) (x y : Nat) : StateT SortSt Sem (ForInStep HiSt) := do
  let p ← elem' a (x - 1)
  if (x - 1 == 0) = true then pure (ForInStep.done (some (headA a b (o.push p) (x - 1) y), x - 1, y, o.push p, g, ca, cb))
  else if (decide (ca < 7) && decide (cb < 7)) = true then pure (ForInStep.done (none, x - 1, y, o.push p, g, ca, cb))
  else pure (ForInStep.yield (none, x - 1, y, o.push p, g, ca, cb))
def hiMid (a b : Array Keyed) (ca cb g : Nat) (o : Array Keyed) (x y : Nat) : StateT SortSt Sem (ForInStep HiSt) := do
  let p ← elem' b (y - 1)
  if (y - 1 == 1) = true then pure (ForInStep.done (some (headB a b (o.push p) x (y - 1)), x, y - 1, o.push p, g, ca, cb))
  else do
    let some j ← gallopS true (← elem' a (x - 1)) b 0 (y - 1) (y - 1 - 1) | pure (ForInStep.done (some (headA a b (o.push p) x (y - 1)), x, y - 1, o.push p, g, ca, cb))
    if y - 1 - j > 0 then
      if (j == 1) = true then pure (ForInStep.done (some (headB a b (o.push p ++ (b.extract j (y - 1)).reverse) x j), x, j, o.push p ++ (b.extract j (y - 1)).reverse, g, ca, y - 1 - j))
      else if (j == 0) = true then pure (ForInStep.done (some (headA a b (o.push p ++ (b.extract j (y - 1)).reverse) x j), x, j, o.push p ++ (b.extract j (y - 1)).reverse, g, ca, y - 1 - j))
      else hiTail a b ca (y - 1 - j) g (o.push p ++ (b.extract j (y - 1)).reverse) x j
    else hiTail a b ca (y - 1 - j) g (o.push p) x (y - 1)
def hiTop (a b : Array Keyed) (ca cb g : Nat) (o : Array Keyed) (x y : Nat) : StateT SortSt Sem (ForInStep HiSt) := do
  modify fun st => setGal st g
  let some j ← gallopS false (← elem' b (y - 1)) a 0 x (x - 1) | pure (ForInStep.done (some (headA a b o x y), x, y, o, g, ca, cb))
  if x - j > 0 then
    if (j == 0) = true then pure (ForInStep.done (some (headA a b (o ++ (a.extract j x).reverse) j y), j, y, o ++ (a.extract j x).reverse, g, x - j, cb))
    else hiMid a b (x - j) cb g (o ++ (a.extract j x).reverse) j y
  else hiMid a b (x - j) cb g o x y
section
variable {M : Model} {A : Around} {E : Value → Shared → Prop} {s : Shared} {kd : SortKind} {S : Keyed → Prop} {rk : Keyed → Int} {a b : Array Keyed} {st : SortSt}
structure GoH (rk : Keyed → Int) (a b o : Array Keyed) (x y : Nat) : Prop where
  jn : JH rk a b o x y
  hx : 1 ≤ x
  hy : 2 ≤ y
def HiQ (rk : Keyed → Int) (a b : Array Keyed) (st : SortSt) (n : Nat) (r : ForInStep HiSt) (st' : SortSt) : Prop := Gl st st' ∧ match r with
  | .done c => (∃ r, c.1 = some r ∧ Good rk a b r) ∨ (c.1 = none ∧ GoH rk a b c.2.2.2.1 c.2.1 c.2.2.1 ∧ c.2.1 + c.2.2.1 ≤ n)
  | .yield c => c.1 = none ∧ GoH rk a b c.2.2.2.1 c.2.1 c.2.2.1 ∧ c.2.1 + c.2.2.1 ≤ n
theorem w_hiTail (m : Mg S rk a b) {st' : SortSt} {n ca cb g x y : Nat} {o : Array Keyed} (hg : Gl st st') (J : JH rk a b o x y) (hx : 1 ≤ x) (hy : 2 ≤ y)
    (hle : ∀ p, a[x - 1]? = some p → ∀ q ∈ b.toList.take y, rk q ≤ rk p) (hn : x + y ≤ n + 1) : wpS M A E s (hiTail a b ca cb g o x y) (HiQ rk a b st n) st' := by
  have hz := J.2.1
  obtain ⟨p, e, _, _⟩ := m.atA (i := x - 1) (by (clear hn hy; omega))
  have J' := jh_pushA J m.aa hx e (hle p e)
  unfold hiTail
  refine wpS_bind (w_elem e ?_)
  by_cases c1 : x - 1 = 0
  · rw [if_pos (by simpa using c1)]
    exact wpS_pure ⟨hg, .inl ⟨_, rfl, good_headA J' m.aa m.ab c1⟩⟩
  · rw [if_neg (by simpa using c1)]
    by_cases c2 : (decide (ca < 7) && decide (cb < 7)) = true
    · rw [if_pos c2]
      exact wpS_pure ⟨hg, .inr ⟨rfl, ⟨J', by show 1 ≤ x - 1; (clear c2 e hz hn hy hx; omega), hy⟩, by show x - 1 + y ≤ n; (clear c2 c1 e hz hy; omega)⟩⟩
    · rw [if_neg c2]
      exact wpS_pure ⟨hg, rfl, ⟨J', by show 1 ≤ x - 1; (clear c2 e hz hn hy hx; omega), hy⟩, by show x - 1 + y ≤ n; (clear c2 c1 e hz hy; omega)⟩
theorem w_hiMid (L : LtOk M A E s kd S rk) (hk : kindOf st = kd) (m : Mg S rk a b) {st' : SortSt} {n ca cb g x y : Nat} {o : Array Keyed} (hg : Gl st st') (J : JH rk a b o x y) (hx : 1 ≤ x) (hy : 2 ≤ y)
    (hle : ∀ p, b[y - 1]? = some p → ∀ q ∈ a.toList.take x, rk q ≤ rk p) (hn : x + y ≤ n + 1) : wpS M A E s (hiMid a b ca cb g o x y) (HiQ rk a b st n) st' := by
  have hz1 := J.2.1
  have hz2 := J.2.2
  obtain ⟨p, e, _, _⟩ := m.atB (i := y - 1) (by (clear hz1 hn hx hk; omega))
  have J' := jh_pushB J m.ab (by (clear e hz2 hz1 hn hx hk; omega)) e (hle p e)
  unfold hiMid
  refine wpS_bind (w_elem e ?_)
  by_cases c1 : y - 1 = 1
  · rw [if_pos (by simpa using c1)]
    exact wpS_pure ⟨hg, .inl ⟨_, rfl, good_headB m J' c1⟩⟩
  · rw [if_neg (by simpa using c1)]
    obtain ⟨q, eq, sq, mq⟩ := m.atA (i := x - 1) (by (clear c1 e hz2 hn hy hk; omega))
    refine wpS_bind (w_elem eq ?_)
    refine wpS_bind (w_gallop L (hg.kind.trans hk) sq (fun i hi => ?_) (up_asc m.ab _ _ (by (clear eq c1 e hz1 hn hy hx hk; omega))) (by (clear eq c1 e hz2 hz1 hn hx hk; omega)) fun j j1 j2 j3 => ?_)
    · obtain ⟨p, e, sp, _⟩ := m.atB (i := 0 + i) (by (clear eq c1 e hz1 hn hy hx hk; omega))
      exact ⟨p, e, sp⟩
    dsimp only
    have after : ∀ p', a[x - 1]? = some p' → ∀ z ∈ b.toList.take j, rk z ≤ rk p' := fun p' ep z hz => by
      rw [eq] at ep
      cases ep
      obtain ⟨i, h1, ez⟩ := mem_head hz
      have := j2 i h1
      rw [Nat.zero_add, kx_list b i ez] at this
      simp [ahd] at this
      (clear ez h1 j1 eq c1 e hz2 hz1 hn hy hx hk; omega)
    by_cases c2 : y - 1 - j > 0
    · rw [if_pos c2]
      have J2 := jh_cutB J' m.ab (j := j) (by (clear c2 eq c1 e hz2 hz1 hn hy hx hk; omega)) fun z hz w hw => by
        obtain ⟨i, h1, ez⟩ := mem_cut hz
        have := j3 (j + i) (by (clear ez h1 c2 j1 eq c1 e hz2 hz1 hn hy hx hk; omega)) (by (clear ez c2 j1 eq c1 e hz2 hz1 hn hy hx hk; omega))
        rw [Nat.zero_add, kx_list b _ ez] at this
        simp [ahd] at this
        have := takeA_le m hx eq w hw
        (clear ez h1 c2 j1 eq c1 e hz2 hz1 hn hy hx hk; omega)
      by_cases c3 : j = 1
      · rw [if_pos (by simpa using c3)]
        exact wpS_pure ⟨hg, .inl ⟨_, rfl, good_headB m J2 c3⟩⟩
      · rw [if_neg (by simpa using c3)]
        have c4 : ¬ j = 0 := fun c4 => by
          obtain ⟨z, ez, hz⟩ := m.bot
          have := j3 0 (by (clear ez c3 c2 j1 eq c1 e hz2 hz1 hn hy hx hk; omega)) (by (clear ez c4 c3 c2 j1 eq c1 e hz2 hz1 hn hx hk; omega))
          rw [Nat.zero_add, kx_of ez] at this
          simp [ahd] at this
          have := hz q mq
          (clear ez c4 c3 c2 j1 eq c1 e hz2 hz1 hn hy hx hk; omega)
        rw [if_neg (by simpa using c4)]
        exact w_hiTail m hg J2 hx (by (clear c2 j1 eq c1 e hz2 hz1 hn hy hx hk; omega)) after (by (clear c4 c3 c2 eq c1 e hz2 hz1 hy hx hk; omega))
    · rw [if_neg c2]
      have ej : j = y - 1 := by (clear eq c1 e hz2 hz1 hn hy hx hk; omega)
      subst ej
      exact w_hiTail m hg J' hx (by (clear c2 j1 eq e hz2 hz1 hn hx hk; omega)) after (by (clear c2 j1 eq c1 e hz2 hz1 hy hx hk; omega))
theorem w_hiTop (L : LtOk M A E s kd S rk) (hk : kindOf st = kd) (m : Mg S rk a b) {st' : SortSt} {n ca cb g x y : Nat} {o : Array Keyed} (hg : Gl st st') (G : GoH rk a b o x y) (hn : x + y ≤ n + 1) :
    wpS M A E s (hiTop a b ca cb g o x y) (HiQ rk a b st n) st' := by
  obtain ⟨J, hx, hy⟩ := G
  have hz1 := J.2.1
  have hz2 := J.2.2
  unfold hiTop
  refine wpS_bind (wpS_modify ?_)
  have hg' := hg.set g
  obtain ⟨q, eq, sq, mq⟩ := m.atB (i := y - 1) (by (clear hz1 hx hn hk; omega))
  refine wpS_bind (w_elem eq ?_)
  refine wpS_bind (w_gallop L (hg'.kind.trans hk) sq (fun i hi => ?_) (up_asc m.aa _ _ (by (clear eq hz2 hy hx hn hk; omega))) (by (clear eq hz2 hz1 hy hn hk; omega)) fun j j1 j2 j3 => ?_)
  · obtain ⟨p, e, sp, _⟩ := m.atA (i := 0 + i) (by (clear eq hz2 hy hx hn hk; omega))
    exact ⟨p, e, sp⟩
  dsimp only
  have after : ∀ p', b[y - 1]? = some p' → ∀ z ∈ a.toList.take j, rk z ≤ rk p' := fun p' ep z hz => by
    rw [eq] at ep
    cases ep
    obtain ⟨i, h1, ez⟩ := mem_head hz
    have := j2 i h1
    rw [Nat.zero_add, kx_list a i ez] at this
    simp [ahd] at this
    (clear ez h1 j1 eq hz2 hz1 hy hx hn hk; omega)
  by_cases c2 : x - j > 0
  · rw [if_pos c2]
    have J2 := jh_cutA J m.aa (j := j) (by (clear c2 eq hz2 hz1 hy hx hn hk; omega)) fun z hz w hw => by
      obtain ⟨i, h1, ez⟩ := mem_cut hz
      have := j3 (j + i) (by (clear ez h1 c2 j1 eq hz2 hz1 hy hx hn hk; omega)) (by (clear ez c2 j1 eq hz2 hz1 hy hx hn hk; omega))
      rw [Nat.zero_add, kx_list a _ ez] at this
      simp [ahd] at this
      have := takeB_le m (by (clear this ez h1 c2 j1 eq hz2 hz1 hx hn hk; omega)) eq w hw
      (clear ez h1 c2 j1 eq hz2 hz1 hy hx hn hk; omega)
    by_cases c3 : j = 0
    · rw [if_pos (by simpa using c3)]
      exact wpS_pure ⟨hg', .inl ⟨_, rfl, good_headA J2 m.aa m.ab c3⟩⟩
    · rw [if_neg (by simpa using c3)]
      exact w_hiMid L hk m hg' J2 (by (clear c2 j1 eq hz2 hz1 hy hx hn hk; omega)) hy after (by (clear c3 c2 eq hz2 hz1 hy hx hk; omega))
  · rw [if_neg c2]
    have ej : j = x := by (clear eq hz2 hz1 hy hx hn hk; omega)
    subst ej
    exact w_hiMid L hk m hg' J hx hy after hn
theorem w_mergeHi (L : LtOk M A E s kd S rk) (hk : kindOf st = kd) (m : Mg S rk a b) {Q : Array Keyed → SortSt → Prop} (h : ∀ r st', Gl st st' → Good rk a b r → Q r st') : wpS M A E s (mergeHiS a b) Q st := by
  rw [mergeHiS_eq]
  refine wpS_bind (wpS_lift (wpAny_rule ⟨rfl, ?_⟩))
  have na := m.na
  have nb := m.nb
  obtain ⟨q, eq, sq, mq⟩ := m.atA (i := a.size - 1) (by (clear nb hk; omega))
  refine wpS_bind (w_elem eq ?_)
  have J1 : JH rk a b #[q] (a.size - 1) b.size := by
    obtain ⟨z, ez, hz⟩ := m.top
    rw [eq] at ez
    cases ez
    have J0 : JH rk a b #[] a.size b.size := ⟨by rw [Nat.sub_self, Nat.sub_self]; exact Jn.start, Nat.le_refl _, Nat.le_refl _⟩
    exact jh_pushA (o := #[]) J0 m.aa na eq fun w hw => Int.le_of_lt (hz w (List.mem_of_mem_take hw))
  by_cases c1 : a.size - 1 = 0
  · rw [if_pos (by simpa using c1)]
    exact wpS_pure (h _ _ (Gl.refl _) (good_headA J1 m.aa m.ab c1))
  · rw [if_neg (by simpa using c1)]
    by_cases c2 : b.size = 1
    · rw [if_pos (by simpa using c2)]
      exact wpS_pure (h _ _ (Gl.refl _) (good_headB m J1 c2))
    · rw [if_neg (by simpa using c2)]
      refine wpS_bind (wpS_get ?_)
      have G1 : GoH rk a b #[q] (a.size - 1) b.size := ⟨J1, by (clear c2 eq nb na hk; omega), by (clear c1 eq na hk; omega)⟩
      refine wpS_bind (wpS_mono (wpS_forRange (I := fun i c st' => Gl st st' ∧ ∃ x y o g, c = (none, x, y, o, g) ∧ GoH rk a b o x y ∧ x + y + i + 1 ≤ a.size + b.size)
        (Q := fun c st' => Gl st st' ∧ ∃ r x y o g, c = (some r, x, y, o, g) ∧ Good rk a b r) ?turn ?last ⟨Gl.refl _, _, _, #[q], _, rfl, G1, by (clear c2 c1 eq nb hk; omega)⟩) ?after)
      case after =>
        rintro c st' ⟨hg, r, x, y, o, g, rfl, hr⟩
        exact wpS_pure (h r st' hg hr)
      case last =>
        rintro c st' ⟨hg, x, y, o, g, rfl, G, hi⟩
        have := G.hx
        have := G.hy
        exfalso
        (clear this c2 c1 eq nb na hk; omega)
      case turn =>
        rintro i c st' _ hi ⟨hg, x, y, o, g, rfl, G, hxy⟩
        dsimp only
        refine wpS_bind (wpS_mono (wpS_forRange (I := fun j c st2 => Gl st st2 ∧ ∃ x y o ca cb, c = (none, x, y, o, ca, cb) ∧ GoH rk a b o x y ∧ x + y + i + 1 + j ≤ a.size + b.size)
          (Q := fun c st2 => Gl st st2 ∧ ∃ r x y o ca cb, c = (r, x, y, o, ca, cb) ∧ match r with
            | some r => Good rk a b r
            | none => GoH rk a b o x y ∧ x + y + i + 2 ≤ a.size + b.size) ?iturn ?ilast ⟨hg, x, y, o, 0, 0, rfl, G, by (clear hi c2 c1 eq nb na hk; omega)⟩) ?iafter)
        case ilast =>
          rintro c st2 ⟨hg2, x, y, o, ca, cb, rfl, G, hj⟩
          have := G.hx
          have := G.hy
          exfalso
          (clear this hxy hi c2 c1 eq nb na hk; omega)
        case iturn =>
          rintro j c st2 _ hj ⟨hg2, x, y, o, ca, cb, rfl, G, hxy2⟩
          dsimp only
          have g1 := G.hx
          have g2 := G.hy
          have z1 := G.jn.2.1
          have z2 := G.jn.2.2
          obtain ⟨pb, eb, sb, mb⟩ := m.atB (i := y - 1) (by (clear z1 g2 g1 hxy2 hj hxy hi c2 c1 eq na hk; omega))
          obtain ⟨pa, ea, sa, ma⟩ := m.atA (i := x - 1) (by (clear eb z2 g2 g1 hxy2 hj hxy hi c2 c1 eq nb hk; omega))
          refine wpS_bind (w_elem eb (wpS_bind (w_elem ea (wpS_bind (L pb pa st2 _ sb sa (hg2.kind.trans hk) ?_)))))
          by_cases hw : rk pb < rk pa
          · simp only [hw, decide_true, if_true]
            refine wpS_bind (w_elem ea ?_)
            have J2 := jh_pushA G.jn m.aa g1 ea fun z hz => Int.le_trans (takeB_le m (by (clear hw ea eb z2 z1 g1 hxy2 hj hxy hi c2 c1 eq nb na hk; omega)) eb z hz) (Int.le_of_lt hw)
            by_cases c3 : x - 1 = 0
            · rw [if_pos (by simpa using c3)]
              exact wpS_pure ⟨hg2, _, _, _, _, _, _, rfl, good_headA J2 m.aa m.ab c3⟩
            · rw [if_neg (by simpa using c3)]
              have G2 : GoH rk a b (o.push pa) (x - 1) y := ⟨J2, by (clear hw ea eb z2 z1 g2 g1 hxy2 hj hxy hi c2 c1 eq nb na hk; omega), g2⟩
              split
              · exact wpS_pure ⟨hg2, _, _, _, _, _, _, rfl, G2, by (clear c3 hw ea eb z2 z1 g2 hj hxy hi c2 c1 eq nb na hk; omega)⟩
              · exact wpS_pure ⟨hg2, _, _, _, _, _, rfl, G2, by (clear c3 hw ea eb z2 z1 g2 hj hxy hi c2 c1 eq nb na hk; omega)⟩
          · simp only [hw, decide_false, Bool.false_eq_true, if_false]
            refine wpS_bind (w_elem eb ?_)
            have J2 := jh_pushB G.jn m.ab (by (clear hw ea eb z2 z1 g1 hxy2 hj hxy hi c2 c1 eq nb na hk; omega)) eb fun z hz => Int.le_trans (takeA_le m g1 ea z hz) (by (clear ea eb z2 z1 g2 g1 hxy2 hj hxy hi c2 c1 eq nb na hk; omega))
            by_cases c3 : y - 1 = 1
            · rw [if_pos (by simpa using c3)]
              exact wpS_pure ⟨hg2, _, _, _, _, _, _, rfl, good_headB m J2 c3⟩
            · rw [if_neg (by simpa using c3)]
              have G2 : GoH rk a b (o.push pb) x (y - 1) := ⟨J2, g1, by (clear hw ea eb z2 z1 g1 hxy2 hj hxy hi c2 c1 eq nb na hk; omega)⟩
              split
              · exact wpS_pure ⟨hg2, _, _, _, _, _, _, rfl, G2, by (clear c3 hw ea eb z2 z1 g1 hj hxy hi c2 c1 eq nb na hk; omega)⟩
              · exact wpS_pure ⟨hg2, _, _, _, _, _, rfl, G2, by (clear c3 hw ea eb z2 z1 g1 hj hxy hi c2 c1 eq nb na hk; omega)⟩
        case iafter =>
          rintro c st2 ⟨hg2, r, x2, y2, o2, ca, cb, rfl, hr⟩
          cases r with
          | some r => exact wpS_pure ⟨hg2, r, _, _, _, _, rfl, hr⟩
          | none =>
            obtain ⟨G2, hxy2⟩ := hr
            dsimp only
            refine wpS_bind (wpS_lift (wpAny_rule ⟨rfl, ?_⟩))
            refine wpS_bind (wpS_mono (wpS_forRange (I := fun j c st3 => Gl st st3 ∧ ∃ x y o g ca cb, c = (none, x, y, o, g, ca, cb) ∧ GoH rk a b o x y ∧ x + y + i + 2 + j ≤ a.size + b.size)
              (Q := fun c st3 => Gl st st3 ∧ ∃ r x y o g ca cb, c = (r, x, y, o, g, ca, cb) ∧ match r with
                | some r => Good rk a b r
                | none => GoH rk a b o x y ∧ x + y + i + 2 ≤ a.size + b.size) ?gturn ?glast ⟨hg2, x2, y2, o2, _, _, _, rfl, G2, by (clear hxy hi c2 c1 eq nb na hk; omega)⟩) ?gafter)
            case glast =>
              rintro c st3 ⟨hg3, x, y, o, g, ca, cb, rfl, G, hj⟩
              have := G.hx
              have := G.hy
              exfalso
              (clear this hxy2 hxy hi c2 c1 eq nb na hk; omega)
            case gturn =>
              rintro j c st3 _ hj ⟨hg3, x, y, o, g, ca, cb, rfl, G, hxy3⟩
              have go : ∀ g', wpS M A E s (hiTop a b ca cb g' o x y) (HiQ rk a b st (x + y - 1)) st3 := fun g' => w_hiTop L hk m hg3 G (by (clear hxy3 hj hxy2 hxy hi c2 c1 eq nb na hk; omega))
              have g1 := G.hx
              dsimp only
              by_cases hgt : g > 1
              case' pos =>
                rw [if_pos hgt]
                refine wpS_mono (go (g - 1)) ?_
              case' neg =>
                rw [if_neg hgt]
                refine wpS_mono (go g) ?_
              all_goals
                intro r st4 q
                obtain ⟨hg4, q⟩ := q
                cases r with
                | done c' =>
                  obtain ⟨r, x', y', o', g', ca', cb'⟩ := c'
                  rcases q with ⟨r', e, q⟩ | ⟨e, q, q'⟩
                  · simp only at e
                    subst e
                    exact ⟨hg4, _, _, _, _, _, _, _, rfl, q⟩
                  · simp only at e q q'
                    subst e
                    exact ⟨hg4, _, _, _, _, _, _, _, rfl, q, by omega⟩
                | yield c' =>
                  obtain ⟨r, x', y', o', g', ca', cb'⟩ := c'
                  obtain ⟨e, q, q'⟩ := q
                  simp only at e q q'
                  subst e
                  exact ⟨hg4, _, _, _, _, _, _, rfl, q, by omega⟩
            case gafter =>
              rintro c st3 ⟨hg3, r, x3, y3, o3, g3, ca3, cb3, rfl, hr⟩
              cases r with
              | some r => exact wpS_pure ⟨hg3, r, _, _, _, _, rfl, hr⟩
              | none =>
                obtain ⟨G3, hxy3⟩ := hr
                dsimp only
                exact wpS_bind (wpS_modify (wpS_pure ⟨hg3.set _, _, _, _, _, rfl, G3, by (clear hxy2 hxy hi c2 c1 eq nb na hk; omega)⟩))
end
end Tim
namespace Tim
open PySem PyProof.Rows
theorem wpS_set {M : Model} {A : Around} {E : Value → Shared → Prop} {s : Shared} {σ : Type} {v : σ} {Q : PUnit → σ → Prop} {st : σ} (h : Q ⟨⟩ v) : wpS M A E s (set v : StateT σ Sem PUnit) Q st := by
  unfold wpS
  rw [StateT.run_set]
  exact wpAny_pure ⟨rfl, h⟩
def wrt (base : Nat) (l : List (Keyed × Nat)) (xs : Array Keyed) : Array Keyed := l.foldl (fun a q => a.setIfInBounds (base + q.2) q.1) xs
theorem mergeAt_eq (i : Nat) : mergeAt' i = (do
  let c ← get
  let (some (sa, na, pw), some (sb, nb, _)) := ((pendingOf c)[i]?, (pendingOf c)[i + 1]?) | unsupported "internal:list.sort.pending"
  set (setPending c (((pendingOf c).setIfInBounds i (sa, na + nb, pw)).eraseIdxIfInBounds (i + 1)))
  let some k ← gallopS false (← elem' (arrOf c) sb) (arrOf c) sa na 0 | return false
  let (sa, na) := (sa + k, na - k)
  if na == 0 then return true
  let some nb ← gallopS true (← elem' (arrOf c) (sa + na - 1)) (arrOf c) sb nb (nb - 1) | return false
  if nb == 0 then return true
  let x := (arrOf c).extract sa sb
  let y := (arrOf c).extract sb (sb + nb)
  let r ← if na ≤ nb then mergeLoS x y else mergeHiS x y
  modify fun c => setArr c (wrt sa r.toList.zipIdx (arrOf c))
  return (failedOf (← get)).isNone) := rfl
theorem wrt_at (base : Nat) : ∀ (l : List Keyed) (k : Nat) (xs : Array Keyed), base + k + l.length ≤ xs.size → ∀ j, (wrt base (l.zipIdx k) xs)[j]? = if base + k ≤ j ∧ j < base + k + l.length then l[j - (base + k)]? else xs[j]?
  | [], k, xs, _, j => by
    rw [if_neg (by simp)]
    rfl
  | p :: r, k, xs, h, j => by
    have h' : base + k + (r.length + 1) ≤ xs.size := h
    have ih := wrt_at base r (k + 1) (xs.setIfInBounds (base + k) p) (by rw [Array.size_setIfInBounds]; (clear h; omega)) j
    rw [List.zipIdx_cons]
    show (wrt base (r.zipIdx (k + 1)) (xs.setIfInBounds (base + k) p))[j]? = _
    rw [ih, List.length_cons]
    by_cases c1 : base + (k + 1) ≤ j ∧ j < base + (k + 1) + r.length
    · rw [if_pos c1, if_pos (by (clear ih h' h; omega)), show j - (base + k) = j - (base + (k + 1)) + 1 by (clear ih h' h; omega), List.getElem?_cons_succ]
    · rw [if_neg c1, Array.getElem?_setIfInBounds]
      by_cases c2 : base + k = j
      · rw [if_pos c2, if_pos (by (clear c2 c1 ih h; omega)), if_pos (by (clear c1 ih h' h; omega)), show j - (base + k) = 0 by (clear c1 ih h' h; omega)]
        rfl
      · rw [if_neg c2, if_neg (by (clear ih h' h; omega))]
theorem wrt_list (base : Nat) (l : List Keyed) (xs : Array Keyed) (h : base + l.length ≤ xs.size) : (wrt base l.zipIdx xs).toList = xs.toList.take base ++ l ++ xs.toList.drop (base + l.length) := by
  apply List.ext_getElem?
  intro j
  have := wrt_at base l 0 xs (by omega) j
  rw [Array.getElem?_toList]
  rw [this]
  have e1 : (xs.toList.take base).length = base := by rw [List.length_take, Array.length_toList]; (clear this; omega)
  by_cases c1 : j < base
  · rw [if_neg (by (clear e1 this h; omega)), List.append_assoc, List.getElem?_append_left (by (clear this h; omega)), List.getElem?_take_of_lt c1, Array.getElem?_toList]
  · rw [List.append_assoc, List.getElem?_append_right (by (clear this h; omega)), e1]
    by_cases c2 : j < base + l.length
    · rw [if_pos (by (clear e1 this h; omega)), List.getElem?_append_left (by (clear e1 this h; omega))]
      rfl
    · rw [if_neg (by (clear c1 e1 this h; omega)), List.getElem?_append_right (by (clear c1 e1 this h; omega)), List.getElem?_drop, ← Array.getElem?_toList]
      congr 1
      (clear c1 e1 this h; omega)
def Runs (rk : Keyed → Int) (xs : Array Keyed) : Nat → List (Nat × Nat × Nat) → Nat → Prop
  | u, [], v => u = v
  | u, r :: l, v => r.1 = u ∧ 1 ≤ r.2.1 ∧ Up rk xs u (u + r.2.1) ∧ Runs rk xs (u + r.2.1) l v
section
variable {rk : Keyed → Int} {xs ys : Array Keyed}
theorem Runs.split : ∀ {l1 l2 : List (Nat × Nat × Nat)} {u v : Nat}, Runs rk xs u (l1 ++ l2) v ↔ ∃ w, Runs rk xs u l1 w ∧ Runs rk xs w l2 v
  | [], l2, u, v => ⟨fun h => ⟨u, rfl, h⟩, fun ⟨w, e, h⟩ => by cases e; exact h⟩
  | r :: l1, l2, u, v => by
    constructor
    · rintro ⟨a, b, c, d⟩
      obtain ⟨w, h1, h2⟩ := Runs.split.mp d
      exact ⟨w, ⟨a, b, c, h1⟩, h2⟩
    · rintro ⟨w, ⟨a, b, c, d⟩, h2⟩
      exact ⟨a, b, c, Runs.split.mpr ⟨w, d, h2⟩⟩
theorem Runs.le : ∀ {l : List (Nat × Nat × Nat)} {u v : Nat}, Runs rk xs u l v → u + l.length ≤ v
  | [], u, v, h => by cases h; simp
  | r :: l, u, v, ⟨_, b, _, d⟩ => by
    have := Runs.le d
    rw [List.length_cons]
    omega
theorem Up.same {lo hi : Nat} (h : Up rk xs lo hi) (e : ∀ k, lo ≤ k → k < hi → ys[k]? = xs[k]?) : Up rk ys lo hi := fun i j a b c => by
  rw [kx_same (e i a (by (clear a; omega))), kx_same (e j (by (clear c; omega)) c)]
  exact h i j a b c
theorem Runs.same : ∀ {l : List (Nat × Nat × Nat)} {u v : Nat}, Runs rk xs u l v → (∀ k, u ≤ k → k < v → ys[k]? = xs[k]?) → Runs rk ys u l v
  | [], u, v, h, _ => h
  | r :: l, u, v, ⟨a, b, c, d⟩, e => by
    have := Runs.le d
    exact ⟨a, b, c.same fun k h1 h2 => e k h1 (by (clear h1 b a; omega)), d.same fun k h1 h2 => e k (by (clear h2 this b a; omega)) h2⟩
theorem Runs.pow : ∀ {l l' : List (Nat × Nat × Nat)} {u v : Nat}, Runs rk xs u l v → l'.map (fun r => (r.1, r.2.1)) = l.map (fun r => (r.1, r.2.1)) → Runs rk xs u l' v
  | [], l', u, v, h, e => by
    have : l' = [] := by simpa using e
    subst this
    exact h
  | r :: l, l', u, v, ⟨a, b, c, d⟩, e => by
    cases l' with
    | nil => simp at e
    | cons r' l' =>
      simp only [List.map_cons, List.cons.injEq, Prod.mk.injEq] at e
      obtain ⟨⟨e1, e2⟩, e3⟩ := e
      exact ⟨e1.trans a, by (clear e1 e3 a; omega), by rw [e2]; exact c, by rw [e2]; exact d.pow e3⟩
end
section
variable {M : Model} {A : Around} {E : Value → Shared → Prop} {s : Shared} {kd : SortKind} {S : Keyed → Prop} {rk : Keyed → Int} {n : Nat}
theorem asc_cut {xs : Array Keyed} {i j : Nat} (hj : j ≤ xs.size) (h : Up rk xs i j) : Asc rk (xs.extract i j).toList := by
  unfold Asc
  rw [List.pairwise_iff_getElem]
  intro p q hp hq hpq
  have hl : (xs.extract i j).toList.length = j - i := by rw [Array.length_toList, Array.size_extract]; (clear hpq hq hp; omega)
  have e : ∀ p (hp : p < (xs.extract i j).toList.length), rk (xs.extract i j).toList[p] = kx rk xs (i + p) := fun p hp => by
    refine (kx_of ?_).symm
    have h1 : (xs.extract i j)[p]? = some (xs.extract i j).toList[p] := by rw [← Array.getElem?_toList, List.getElem?_eq_getElem]
    rw [← h1, Array.getElem?_extract, if_pos (by (clear h1 hpq hq; omega))]
  rw [e p hp, e q hq]
  exact h _ _ (by (clear hl hpq hq hp hj; omega)) (by (clear hl hq hp hj; omega)) (by (clear hpq hp hj; omega))
theorem mem_ext {xs : Array Keyed} {i j : Nat} (hj : j ≤ xs.size) {p : Keyed} (h : p ∈ (xs.extract i j).toList) : ∃ k, i ≤ k ∧ k < j ∧ xs[k]? = some p := by
  obtain ⟨q, hq, e⟩ := List.mem_iff_getElem.mp h
  have hl : (xs.extract i j).toList.length = j - i := by rw [Array.length_toList, Array.size_extract]; (clear e hq; omega)
  refine ⟨i + q, by (clear hl e hq hj; omega), by (clear e hj; omega), ?_⟩
  have h1 : (xs.extract i j)[q]? = some p := by rw [← Array.getElem?_toList, List.getElem?_eq_getElem hq, e]
  rw [← h1, Array.getElem?_extract, if_pos (by (clear h1 e; omega))]
theorem cut_at {xs : Array Keyed} {i j k : Nat} (h : i + k < j) (hj : j ≤ xs.size) : (xs.extract i j)[k]? = xs[i + k]? := by
  rw [Array.getElem?_extract, if_pos (by omega)]
theorem Mv.wrote {st : SortSt} {a m b : Nat} {r : Array Keyed} (h1 : a ≤ m) (h2 : m ≤ b) (hb : b ≤ (arrOf st).size) (hr : r.toList.Perm (((arrOf st).extract a m).toList ++ ((arrOf st).extract m b).toList)) :
    Mv a b st (setArr st (wrt a r.toList.zipIdx (arrOf st))) ∧ (∀ j, a ≤ j → j < b → ∃ p, (wrt a r.toList.zipIdx (arrOf st))[j]? = some p ∧ p ∈ r.toList ∧ r.toList[j - a]? = some p) := by
  have hl : r.toList.length = b - a := by
    rw [hr.length_eq, List.length_append, Array.length_toList, Array.length_toList, Array.size_extract, Array.size_extract]
    omega
  have hw := wrt_list a r.toList (arrOf st) (by omega)
  have hat := wrt_at a r.toList 0 (arrOf st) (by (clear hw; omega))
  refine ⟨⟨?_, fun k hk => ?_, rfl, rfl, rfl⟩, fun j ha hb' => ?_⟩
  · rw [Array.perm_iff_toList_perm]
    show (wrt a r.toList.zipIdx (arrOf st)).toList.Perm (arrOf st).toList
    rw [hw, hl, show a + (b - a) = b by (clear hw hl hb; omega)]
    have e : (arrOf st).toList = (arrOf st).toList.take a ++ (((arrOf st).extract a m).toList ++ ((arrOf st).extract m b).toList) ++ (arrOf st).toList.drop b := by
      rw [Array.toList_extract, Array.toList_extract, List.extract_eq_take_drop, List.extract_eq_take_drop]
      have e1 : (arrOf st).toList.drop a = ((arrOf st).toList.drop a).take (m - a) ++ (arrOf st).toList.drop m := by
        have := drop_split (arrOf st).toList a (m - a)
        rwa [show a + (m - a) = m by (clear this hw hl hb h2; omega)] at this
      have e2 : (arrOf st).toList.drop m = ((arrOf st).toList.drop m).take (b - m) ++ (arrOf st).toList.drop b := by
        have := drop_split (arrOf st).toList m (b - m)
        rwa [show m + (b - m) = b by (clear this e1 hw hl hb h1; omega)] at this
      rw [List.append_assoc, List.append_assoc, ← e2, ← e1, List.take_append_drop]
    refine List.Perm.trans ?_ (List.Perm.of_eq e.symm)
    exact (hr.append_left _).append_right _
  · show (wrt a r.toList.zipIdx (arrOf st))[k]? = _
    rw [hat k, if_neg (by (clear hw hb h2 h1; omega))]
  · have hlt : j - a < r.toList.length := by (clear hw hb h2 h1; omega)
    refine ⟨r.toList[j - a], ?_, by simp, List.getElem?_eq_getElem hlt⟩
    rw [hat j, if_pos (by (clear hlt hw hb h2 h1; omega)), Nat.add_zero, List.getElem?_eq_getElem hlt]
structure Merged (rk : Keyed → Int) (lo hi : Nat) (p : Array (Nat × Nat × Nat)) (st st' : SortSt) : Prop where
  perm : (arrOf st').Perm (arrOf st)
  out : ∀ k, k < lo ∨ hi ≤ k → (arrOf st')[k]? = (arrOf st)[k]?
  kind : kindOf st' = kindOf st
  failed : failedOf st' = failedOf st
  pend : pendingOf st' = p
  up : Up rk (arrOf st') lo hi
theorem w_mergeAt (L : LtOk M A E s kd S rk) {st : SortSt} (B : Sane kd S n st) {i sa na pw nb p2 : Nat} (e1 : (pendingOf st)[i]? = some (sa, na, pw)) (e2 : (pendingOf st)[i + 1]? = some (sa + na, nb, p2)) (ha : 1 ≤ na) (hb : 1 ≤ nb) (hn : sa + na + nb ≤ n)
    (u1 : Up rk (arrOf st) sa (sa + na)) (u2 : Up rk (arrOf st) (sa + na) (sa + na + nb)) {Q : Bool → SortSt → Prop}
    (h : ∀ st', Merged rk sa (sa + na + nb) (((pendingOf st).setIfInBounds i (sa, na + nb, pw)).eraseIdxIfInBounds (i + 1)) st st' → Q true st') : wpS M A E s (mergeAt' i) Q st := by
  rw [mergeAt_eq]
  refine wpS_bind (wpS_get ?_)
  rw [e1, e2]
  dsimp only
  refine wpS_bind (wpS_set ?_)
  have hall : ∀ j, j < n → ∃ p, (arrOf st)[j]? = some p ∧ S p := fun j hj => by
    obtain ⟨p, a, b, _⟩ := B.at rk hj
    exact ⟨p, a, b⟩
  have hz := B.size
  obtain ⟨q, eq, sq⟩ := hall (sa + na) (by (clear hz ha e2 e1; omega))
  have kq : kx rk (arrOf st) (sa + na) = rk q := kx_of eq
  refine wpS_bind (w_elem eq ?_)
  refine wpS_bind (w_gallop L B.kind sq (fun j hj => hall (sa + j) (by (clear kq eq hz hb ha e2 e1; omega))) u1 (by (clear kq eq hz hn hb e2 e1; omega)) fun k k1 k2 k3 => ?_)
  dsimp only
  have low : ∀ j, sa ≤ j → j < sa + k → kx rk (arrOf st) j ≤ kx rk (arrOf st) (sa + na) := fun j a b => by
    have := k2 (j - sa) (by (clear k1 kq eq hz hn hb ha e2 e1; omega))
    rw [show sa + (j - sa) = j by (clear this b k1 kq eq hz hn hb ha e2 e1; omega)] at this
    simp [ahd] at this
    rw [kq]
    exact this
  have high : ∀ j, sa + k ≤ j → j < sa + na → kx rk (arrOf st) (sa + na) < kx rk (arrOf st) j := fun j a b => by
    have := k3 (j - sa) (by (clear b k1 kq eq hz hn hb ha e2 e1; omega)) (by (clear a k1 kq eq hz hn hb e2 e1; omega))
    rw [show sa + (j - sa) = j by (clear this b k1 kq eq hz hn hb ha e2 e1; omega)] at this
    simp [ahd] at this
    rw [kq]
    (clear b a k1 kq eq hz hn hb ha e2 e1; omega)
  have joined : kx rk (arrOf st) (sa + na - 1) ≤ kx rk (arrOf st) (sa + na) → Up rk (arrOf st) sa (sa + na + nb) := fun hle i j a b c => by
    by_cases c1 : j < sa + na
    · exact u1 i j a b c1
    · by_cases c2 : sa + na ≤ i
      · exact u2 i j c2 b c
      · have h1 := u1 i (sa + na - 1) a (by (clear c1 c b a hle k1 kq eq hz hn hb ha e2 e1; omega)) (by (clear c2 c1 c b a hle k1 kq eq hz hn hb e2 e1; omega))
        have h2 := u2 (sa + na) j (Nat.le_refl _) (by (clear h1 c2 c b a hle k1 kq eq hz hn hb ha e2 e1; omega)) c
        (clear c2 c1 c b a k1 kq eq hz hn hb ha e2 e1; omega)
  by_cases c0 : na - k = 0
  · rw [if_pos (by simpa using c0)]
    exact wpS_pure (h _ ⟨Array.Perm.refl _, fun _ _ => rfl, rfl, rfl, rfl, joined (low _ (by (clear c0 joined k1 kq eq hz hn hb e2 e1; omega)) (by (clear joined k1 kq eq hz hn hb e2 e1; omega)))⟩)
  · rw [if_neg (by simpa using c0)]
    have el : sa + k + (na - k) - 1 = sa + na - 1 := by (clear c0 joined kq eq hz hn hb ha e2 e1; omega)
    rw [el]
    obtain ⟨z, ez, sz⟩ := hall (sa + na - 1) (by (clear el c0 joined k1 kq eq hz hb e2 e1; omega))
    have kz : kx rk (arrOf st) (sa + na - 1) = rk z := kx_of ez
    refine wpS_bind (w_elem ez ?_)
    refine wpS_bind (w_gallop L B.kind sz (fun j hj => hall (sa + na + j) (by (clear kz ez el c0 joined k1 kq eq hz hb ha e2 e1; omega))) u2 (by (clear kz ez el c0 joined k1 kq eq hz hn ha e2 e1; omega)) fun k' k1' k2' k3' => ?_)
    dsimp only
    have low' : ∀ j, sa + na ≤ j → j < sa + na + k' → kx rk (arrOf st) j < kx rk (arrOf st) (sa + na - 1) := fun j a b => by
      have := k2' (j - (sa + na)) (by (clear k1' kz ez el c0 joined k1 kq eq hz hn hb ha e2 e1; omega))
      rw [show sa + na + (j - (sa + na)) = j by (clear this b k1' kz ez el c0 joined k1 kq eq hz hn hb ha e2 e1; omega)] at this
      simp [ahd] at this
      rw [kz]
      exact this
    have high' : ∀ j, sa + na + k' ≤ j → j < sa + na + nb → kx rk (arrOf st) (sa + na - 1) ≤ kx rk (arrOf st) j := fun j a b => by
      have := k3' (j - (sa + na)) (by (clear b k1' kz ez el c0 joined k1 kq eq hz hn hb ha e2 e1; omega)) (by (clear a k1' kz ez el c0 joined k1 kq eq hz hn ha e2 e1; omega))
      rw [show sa + na + (j - (sa + na)) = j by (clear this b k1' kz ez el c0 joined k1 kq eq hz hn hb ha e2 e1; omega)] at this
      simp [ahd] at this
      rw [kz]
      (clear b a k1' kz ez el c0 joined k1 kq eq hz hn hb ha e2 e1; omega)
    by_cases c1 : k' = 0
    · rw [if_pos (by simpa using c1)]
      exact wpS_pure (h _ ⟨Array.Perm.refl _, fun _ _ => rfl, rfl, rfl, rfl, joined (high' _ (by (clear k1' kz ez el c0 joined k1 kq eq hz hn hb ha e2 e1; omega)) (by (clear c1 k1' kz ez el c0 joined k1 kq eq hz hn ha e2 e1; omega)))⟩)
    · rw [if_neg (by simpa using c1)]
      have m : Mg S rk ((arrOf st).extract (sa + k) (sa + na)) ((arrOf st).extract (sa + na) (sa + na + k')) := by
        refine ⟨fun p hp => ?_, fun p hp => ?_, asc_cut (by (clear c1 k1' kz ez el c0 joined k1 kq eq hb ha e2 e1; omega)) fun i j a b c => u1 i j (by (clear c b c1 k1' kz ez el c0 joined k1 kq eq hz hn hb ha e2 e1; omega)) b c, asc_cut (by (clear c1 kz ez el c0 joined k1 kq eq hb ha e2 e1; omega)) fun i j a b c => u2 i j a b (by (clear b a c1 kz ez el c0 joined k1 kq eq hz hn hb ha e2 e1; omega)), by rw [Array.size_extract]; (clear c1 k1' kz ez el joined k1 kq eq hb ha e2 e1; omega), by rw [Array.size_extract]; (clear k1' kz ez el c0 joined k1 kq eq ha e2 e1; omega), ⟨z, ?_, fun p hp => ?_⟩, ⟨q, ?_, fun p hp => ?_⟩⟩
        · obtain ⟨j, h1, h2, e⟩ := mem_ext (by (clear c1 k1' kz ez el c0 joined k1 kq eq hb ha e2 e1; omega)) hp
          obtain ⟨p', e', sp⟩ := hall j (by (clear e h1 c1 k1' kz ez el c0 joined k1 kq eq hz hb ha e2 e1; omega))
          rw [e] at e'
          cases e'
          exact sp
        · obtain ⟨j, h1, h2, e⟩ := mem_ext (by (clear c1 kz ez el c0 joined k1 kq eq hb ha e2 e1; omega)) hp
          obtain ⟨p', e', sp⟩ := hall j (by (clear e h1 c1 kz ez el c0 joined k1 kq eq hz hb ha e2 e1; omega))
          rw [e] at e'
          cases e'
          exact sp
        · rw [Array.size_extract, cut_at (by (clear c1 k1' kz ez el joined k1 kq eq hz hn hb ha e2 e1; omega)) (by (clear c1 k1' kz ez el c0 joined k1 kq eq hb ha e2 e1; omega)), ← ez]
          congr 1
          (clear c1 k1' kz ez el joined k1 kq eq hb ha e2 e1; omega)
        · obtain ⟨j, h1, h2, e⟩ := mem_ext (by (clear c1 kz ez el c0 joined k1 kq eq hb ha e2 e1; omega)) hp
          have := low' j h1 h2
          rwa [kz, kx_of e] at this
        · rw [cut_at (by (clear k1' kz ez el c0 joined k1 kq eq hz hn hb ha e2 e1; omega)) (by (clear c1 kz ez el c0 joined k1 kq eq hb ha e2 e1; omega)), ← eq]
          rfl
        · obtain ⟨j, h1, h2, e⟩ := mem_ext (by (clear c1 k1' kz ez el c0 joined k1 kq eq hb ha e2 e1; omega)) hp
          have := high j h1 h2
          rwa [kq, kx_of e] at this
      have fin : ∀ (r : Array Keyed) (st' : SortSt), Gl (setPending st (((pendingOf st).setIfInBounds i (sa, na + nb, pw)).eraseIdxIfInBounds (i + 1))) st' → Good rk ((arrOf st).extract (sa + k) (sa + na)) ((arrOf st).extract (sa + na) (sa + na + k')) r →
          wpS M A E s ((modify fun c => setArr c (wrt (sa + k) r.toList.zipIdx (arrOf c)) : StateT SortSt Sem PUnit) >>= fun _ => get >>= fun c => pure (failedOf c).isNone) Q st' := by
        intro r st' hg hr
        have ha' : arrOf st' = arrOf st := hg.arr
        refine wpS_bind (wpS_modify (wpS_bind (wpS_get (wpS_pure ?_))))
        have hf : failedOf st' = none := hg.failed.trans B.failed
        show Q (failedOf st').isNone _
        rw [hf]
        have hw := Mv.wrote (st := st) (a := sa + k) (m := sa + na) (b := sa + na + k') (r := r) (by (clear hf ha' c1 k1' kz ez el c0 joined kq eq hz hn hb ha e2 e1; omega)) (by (clear hf ha' c1 k1' kz ez el c0 joined k1 kq eq hz hn hb ha e2 e1; omega)) (by (clear hf ha' c1 kz ez el c0 joined k1 kq eq hb ha e2 e1; omega)) hr.1
        obtain ⟨v, at'⟩ := hw
        have ascr := List.pairwise_iff_getElem.mp hr.2
        have mid : ∀ j, sa + k ≤ j → j < sa + na + k' → kx rk (arrOf st) (sa + na) ≤ kx rk (wrt (sa + k) r.toList.zipIdx (arrOf st)) j ∧ kx rk (wrt (sa + k) r.toList.zipIdx (arrOf st)) j ≤ kx rk (arrOf st) (sa + na - 1) := fun j a b => by
          obtain ⟨p, e, hp, _⟩ := at' j a b
          rw [kx_of e]
          rcases List.mem_append.mp (hr.1.mem_iff.mp hp) with hp | hp
          · obtain ⟨j', h1, h2, e'⟩ := mem_ext (by (clear e b a hf ha' c1 k1' kz ez el c0 joined k1 kq eq hb ha e2 e1; omega)) hp
            rw [← kx_of (rk := rk) e']
            exact ⟨Int.le_of_lt (high j' h1 h2), u1 j' (sa + na - 1) (by (clear e' h2 e b a hf ha' c1 k1' kz ez el c0 joined k1 kq eq hz hn hb ha e2 e1; omega)) (by (clear e' h1 e b a hf ha' c1 k1' kz ez el c0 joined k1 kq eq hz hn hb ha e2 e1; omega)) (by (clear e' h2 h1 e b a hf ha' c1 k1' kz ez el c0 joined k1 kq eq hz hn hb e2 e1; omega))⟩
          · obtain ⟨j', h1, h2, e'⟩ := mem_ext (by (clear e b a hf ha' c1 kz ez el c0 joined k1 kq eq hb ha e2 e1; omega)) hp
            rw [← kx_of (rk := rk) e']
            exact ⟨u2 _ j' (Nat.le_refl _) h1 (by (clear e' h1 e b a hf ha' c1 kz ez el c0 joined k1 kq eq hz hn hb ha e2 e1; omega)), Int.le_of_lt (low' j' h1 h2)⟩
        have out : ∀ j, j < sa + k ∨ sa + na + k' ≤ j → kx rk (wrt (sa + k) r.toList.zipIdx (arrOf st)) j = kx rk (arrOf st) j := fun j hj => kx_same (v.out j hj)
        rw [show (setArr st' (wrt (sa + k) r.toList.zipIdx (arrOf st'))) = setArr st' (wrt (sa + k) r.toList.zipIdx (arrOf st)) by rw [ha']]
        refine h _ ⟨v.perm, fun j hj => v.out j (by (clear hf ha' c1 kz ez el c0 joined k1 kq eq hz hn hb ha e2 e1; omega)), hg.kind, hg.failed, hg.pend, fun i j a b c => ?_⟩
        show kx rk (wrt (sa + k) r.toList.zipIdx (arrOf st)) i ≤ kx rk (wrt (sa + k) r.toList.zipIdx (arrOf st)) j
        by_cases i1 : i < sa + k
        · rw [out i (.inl i1)]
          have li := low i a i1
          by_cases j1 : j < sa + k
          · rw [out j (.inl j1)]
            exact u1 i j a b (by (clear li i1 c b a hf ha' c1 k1' kz ez el c0 joined kq eq hz hn hb ha e2 e1; omega))
          · by_cases j2 : j < sa + na + k'
            · have := (mid j (by (clear j2 li i1 c b a hf ha' c1 k1' kz ez el c0 joined k1 kq eq hz hn hb ha e2 e1; omega)) j2).1
              (clear j2 j1 i1 c b a hf ha' c1 k1' kz ez el c0 joined k1 kq eq hz hn hb ha e2 e1; omega)
            · rw [out j (.inr (by (clear j1 li i1 c b a hf ha' c1 k1' kz ez el c0 joined k1 kq eq hz hn hb ha e2 e1; omega)))]
              have := u2 (sa + na) j (Nat.le_refl _) (by (clear j1 li i1 c b a hf ha' c1 k1' kz ez el c0 joined k1 kq eq hz hn hb ha e2 e1; omega)) c
              (clear j2 j1 i1 c b a hf ha' c1 k1' kz ez el c0 joined k1 kq eq hz hn hb ha e2 e1; omega)
        · by_cases i2 : i < sa + na + k'
          · by_cases j2 : j < sa + na + k'
            · obtain ⟨p, ep, _, gp⟩ := at' i (by (clear j2 i2 c b a hf ha' c1 k1' kz ez el c0 joined k1 kq eq hz hn hb ha e2 e1; omega)) i2
              obtain ⟨p', ep', _, gp'⟩ := at' j (by (clear gp ep j2 i2 c a hf ha' c1 k1' kz ez el c0 joined k1 kq eq hz hn hb ha e2 e1; omega)) j2
              rw [kx_of ep, kx_of ep']
              obtain ⟨l1, x1⟩ := List.getElem?_eq_some_iff.mp gp
              obtain ⟨l2, x2⟩ := List.getElem?_eq_some_iff.mp gp'
              rcases Nat.lt_or_ge i j with hij | hij
              · have := ascr (i - (sa + k)) (j - (sa + k)) l1 l2 (by omega)
                rwa [x1, x2] at this
              · have eij : i = j := by omega
                subst eij
                rw [gp] at gp'
                cases gp'
                exact Int.le_refl _
            · rw [out j (.inr (by omega))]
              have h1 := (mid i (by omega) i2).2
              have h2 := high' j (by omega) c
              omega
          · rw [out i (.inr (by omega)), out j (.inr (by omega))]
            exact u2 i j (by omega) b c
      by_cases c2 : na - k ≤ k'
      · rw [if_pos c2]
        exact wpS_bind (w_mergeLo (st := setPending st (((pendingOf st).setIfInBounds i (sa, na + nb, pw)).eraseIdxIfInBounds (i + 1))) L B.kind m fun r st' hg hr => fin r st' hg hr)
      · rw [if_neg c2]
        exact wpS_bind (w_mergeHi (st := setPending st (((pendingOf st).setIfInBounds i (sa, na + nb, pw)).eraseIdxIfInBounds (i + 1))) L B.kind m fun r st' hg hr => fin r st' hg hr)
end
end Tim
namespace Tim
open PySem PyProof.Rows
theorem pend_list {p : Array (Nat × Nat × Nat)} {l1 l2 : List (Nat × Nat × Nat)} {r1 r2 r : Nat × Nat × Nat} {i : Nat} (h : p.toList = l1 ++ r1 :: r2 :: l2) (hi : l1.length = i) :
    ((p.setIfInBounds i r).eraseIdxIfInBounds (i + 1)).toList = l1 ++ r :: l2 := by
  have hs : i + 1 < (p.setIfInBounds i r).size := by
    rw [Array.size_setIfInBounds, ← Array.length_toList, h]
    simp
    omega
  rw [Array.eraseIdxIfInBounds, dif_pos hs, Array.toList_eraseIdx, Array.toList_setIfInBounds, h, ← hi, List.set_append_right _ _ (Nat.le_refl _), Nat.sub_self, List.set_cons_zero,
    List.eraseIdx_append_of_length_le (by omega)]
  congr 1
  rw [show l1.length + 1 - l1.length = 1 by omega]
  rfl
theorem list_two {α : Type} {l : List α} {i : Nat} (h : i + 1 < l.length) : ∃ l1 r1 r2 l2, l = l1 ++ r1 :: r2 :: l2 ∧ l1.length = i := by
  refine ⟨l.take i, l[i], l[i + 1], l.drop (i + 2), ?_, by rw [List.length_take]; omega⟩
  rw [← List.drop_eq_getElem_cons h, ← List.drop_eq_getElem_cons (by omega), List.take_append_drop]
section
variable {M : Model} {A : Around} {E : Value → Shared → Prop} {s : Shared} {kd : SortKind} {S : Keyed → Prop} {rk : Keyed → Int} {n : Nat}
structure Sr (rk : Keyed → Int) (kd : SortKind) (S : Keyed → Prop) (n : Nat) (st : SortSt) (lo : Nat) (st' : SortSt) : Prop where
  perm : (arrOf st').Perm (arrOf st)
  sane : Sane kd S n st'
  runs : Runs rk (arrOf st') 0 (pendingOf st').toList lo
theorem Sr.merge {st st' : SortSt} {lo i : Nat} (h : Sr rk kd S n st lo st') (hi : i + 1 < (pendingOf st').size) :
    ∃ sa na pw nb p2, (pendingOf st')[i]? = some (sa, na, pw) ∧ (pendingOf st')[i + 1]? = some (sa + na, nb, p2) ∧ 1 ≤ na ∧ 1 ≤ nb ∧ sa + na + nb ≤ lo ∧ Up rk (arrOf st') sa (sa + na) ∧ Up rk (arrOf st') (sa + na) (sa + na + nb) ∧
      ∀ st4, Merged rk sa (sa + na + nb) (((pendingOf st').setIfInBounds i (sa, na + nb, pw)).eraseIdxIfInBounds (i + 1)) st' st4 →
        Sr rk kd S n st lo st4 ∧ (pendingOf st4).size + 1 = (pendingOf st').size ∧ ∀ k, lo ≤ k → (arrOf st4)[k]? = (arrOf st')[k]? := by
  obtain ⟨l1, ⟨a1, n1, q1⟩, ⟨a2, n2, q2⟩, l2, e, el⟩ := list_two (l := (pendingOf st').toList) (i := i) (by rw [Array.length_toList]; exact hi)
  have R := h.runs
  rw [e] at R
  obtain ⟨w, R1, R2⟩ := Runs.split.mp R
  obtain ⟨x1, x2, x3, x4, x5, x6, x7⟩ := R2
  simp only at x1 x2 x3 x4 x5 x6 x7
  subst x1 x4
  have le := Runs.le x7
  have g1 : (pendingOf st')[i]? = some (a1, n1, q1) := by
    rw [← Array.getElem?_toList, e, List.getElem?_append_right (by omega), ← el, Nat.sub_self]
    rfl
  have g2 : (pendingOf st')[i + 1]? = some (a1 + n1, n2, q2) := by
    rw [← Array.getElem?_toList, e, List.getElem?_append_right (by omega), show i + 1 - l1.length = 1 by omega]
    rfl
  refine ⟨a1, n1, q1, n2, q2, g1, g2, x2, x5, by omega, x3, x6, fun st4 m => ⟨⟨m.perm.trans h.perm, ?_, ?_⟩, ?_, fun k hk => m.out k (by omega)⟩⟩
  · exact ⟨m.perm.size_eq.trans h.sane.size, fun p hp => h.sane.all p ((Array.perm_iff_toList_perm.mp m.perm).mem_iff.mp hp), m.kind.trans h.sane.kind, m.failed.trans h.sane.failed⟩
  · rw [m.pend, pend_list e el]
    refine Runs.split.mpr ⟨a1, R1.same fun k _ hk => m.out k (.inl hk), rfl, by show 1 ≤ n1 + n2; omega, ?_, ?_⟩
    · show Up rk (arrOf st4) a1 (a1 + (n1 + n2))
      rw [← Nat.add_assoc]
      exact m.up
    · show Runs rk (arrOf st4) (a1 + (n1 + n2)) l2 lo
      rw [← Nat.add_assoc]
      exact x7.same fun k hk _ => m.out k (.inr hk)
  · rw [m.pend, ← Array.length_toList, pend_list e el, ← Array.length_toList, e]
    simp
    omega
theorem Sr.mv {st st' st2 : SortSt} {lo hi : Nat} (h : Sr rk kd S n st lo st') (v : Mv lo hi st' st2) : Sr rk kd S n st lo st2 :=
  ⟨v.perm.trans h.perm, v.sane h.sane, by rw [v.pend]; exact h.runs.same fun k _ hk => v.out k (.inl hk)⟩
theorem Sr.setP {st st' : SortSt} {lo hi : Nat} {p : Array (Nat × Nat × Nat)} (h : Sr rk kd S n st lo st') (r : Runs rk (arrOf st') 0 p.toList hi) : Sr rk kd S n st hi (setPending st' p) :=
  ⟨h.perm, ⟨h.sane.size, h.sane.all, h.sane.kind, h.sane.failed⟩, r⟩
theorem mod_last (p : Array (Nat × Nat × Nat)) (pw : Nat) : (p.modify (p.size - 1) fun (x : Nat × Nat × Nat) => (x.1, x.2.1, pw)).toList.map (fun r => (r.1, r.2.1)) = p.toList.map (fun r => (r.1, r.2.1)) := by
  apply List.ext_getElem?
  intro j
  rw [List.getElem?_map, List.getElem?_map, Array.getElem?_toList, Array.getElem?_toList, Array.getElem?_modify]
  split
  · cases p[j]? <;> rfl
  · rfl
theorem w_sortRuns (L : LtOk M A E s kd S rk) {st : SortSt} (B : Sane kd S n st) (h2 : 2 ≤ n) (hp : pendingOf st = #[]) {Q : Unit → SortSt → Prop}
    (h : ∀ st', (arrOf st').Perm (arrOf st) → failedOf st' = none → Up rk (arrOf st') 0 n → Q () st') : wpS M A E s sortRuns' Q st := by
  rw [sortRuns'_eq]
  refine wpS_bind (wpS_get ?_)
  dsimp only
  simp only [B.size]
  have start : Sr rk kd S n st 0 st := ⟨Array.Perm.refl _, B, by rw [hp]; rfl⟩
  refine wpS_bind (wpS_mono (wpS_forRange (I := fun x c st' => ∃ lo, c = (none, lo) ∧ Sr rk kd S n st lo st' ∧ lo ≤ n ∧ min x n ≤ lo)
    (Q := fun c st' => c = (none, n) ∧ Sr rk kd S n st n st') ?turn ?last ⟨0, rfl, start, by omega, by omega⟩) ?after)
  case last =>
    rintro c st' ⟨lo, rfl, R, h1, h3⟩
    have e : lo = n := by omega
    subst e
    exact ⟨rfl, R⟩
  case turn =>
    rintro x c st' _ hx ⟨lo, rfl, R, hlo, hxl⟩
    dsimp only
    by_cases hge : lo ≥ n
    · rw [if_pos hge]
      have e : lo = n := by omega
      subst e
      exact wpS_pure ⟨rfl, R⟩
    rw [if_neg hge]
    refine wpS_bind (w_countRun L R.sane (by omega) (by omega) fun k st2 v2 k1 k2 u2 => ?_)
    have R2 := R.mv v2
    dsimp only
    by_cases hlt : k < minRun' n n 0
    case' pos =>
      rw [if_pos hlt]
      refine wpS_bind (wpS_lift (wpAny_rule ⟨rfl, ?_⟩))
      refine wpS_bind (w_binarySort L R2.sane (by omega) (by omega) u2 fun st3 v3 u3 => ?_)
      have R3 := R2.mv v3
      simp only [Bool.not_true, Bool.false_eq_true, if_false]
      have m1 : 1 ≤ min (n - lo) (minRun' n n 0) := by omega
      have m2 : min (n - lo) (minRun' n n 0) ≤ n - lo := by omega
      clear hlt v3
      generalize min (n - lo) (minRun' n n 0) = m at *
    case' neg =>
      rw [if_neg hlt]
      have R3 := R2
      have u3 := u2
      have m1 := k1
      have m2 := k2
      clear hlt
      generalize st2 = st3 at *
      generalize k = m at *
    all_goals
      refine wpS_bind (wpS_get ?_)
      have fin : ∀ (st5 : SortSt) (p : Array (Nat × Nat × Nat)), Sr rk kd S n st lo st5 → Up rk (arrOf st5) lo (lo + m) → Runs rk (arrOf st5) 0 p.toList lo →
          Sr rk kd S n st (lo + m) (setPending (setPending st5 p) ((pendingOf (setPending st5 p)).push (lo, m, 0))) := fun st5 p R5 u5 rp => by
        refine (R5.setP rp).setP ?_
        show Runs rk (arrOf st5) 0 (p.push (lo, m, 0)).toList (lo + m)
        rw [Array.toList_push]
        exact Runs.split.mpr ⟨lo, rp, rfl, m1, u5, rfl⟩
      cases hb : (pendingOf st3).back? with
      | none =>
        dsimp only
        exact wpS_bind (wpS_modify (wpS_pure ⟨lo + m, rfl, fin st3 (pendingOf st3) R3 u3 R3.runs, by omega, by omega⟩))
      | some q =>
        obtain ⟨s1, n1, q1⟩ := q
        dsimp only
        refine wpS_bind (wpS_mono (wpS_forRange (I := fun _ c st4 => c = (none, ()) ∧ Sr rk kd S n st lo st4 ∧ Up rk (arrOf st4) lo (lo + m))
          (Q := fun c st4 => c = (none, ()) ∧ Sr rk kd S n st lo st4 ∧ Up rk (arrOf st4) lo (lo + m)) ?mturn (fun _ _ z => z) ⟨rfl, R3, u3⟩) ?mafter)
        case mturn =>
          rintro j c st4 _ hj ⟨rfl, R4, u4⟩
          refine wpS_bind (wpS_get ?_)
          by_cases c1 : (pendingOf st4).size > 1
          · obtain ⟨sa, na, pw, nb, p2, g1, g2, a1, a2, a3, a4, a5, a6⟩ := R4.merge (i := (pendingOf st4).size - 2) (by omega)
            rw [if_pos c1, g1]
            dsimp only
            split
            · exact wpS_pure ⟨rfl, R4, u4⟩
            · refine wpS_bind (w_mergeAt L R4.sane g1 g2 a1 a2 (by omega) a4 a5 fun st5 mm => ?_)
              obtain ⟨R5, _, o5⟩ := a6 st5 mm
              simp only [Bool.not_true, Bool.false_eq_true, if_false]
              exact wpS_pure ⟨rfl, R5, u4.same fun k hk _ => o5 k hk⟩
          · rw [if_neg c1]
            exact wpS_pure ⟨rfl, R4, u4⟩
        case mafter =>
          rintro c st4 ⟨rfl, R4, u4⟩
          dsimp only
          refine wpS_bind (wpS_modify (wpS_bind (wpS_modify (wpS_pure ⟨lo + m, rfl, ?_, by omega, by omega⟩))))
          exact fin st4 _ R4 u4 (R4.runs.pow (mod_last _ _))
  case after =>
    rintro c st' ⟨rfl, R⟩
    dsimp only
    refine wpS_bind (wpS_mono (wpS_forRange (I := fun x c st4 => c = (none, ()) ∧ Sr rk kd S n st n st4 ∧ (pendingOf st4).size ≤ max 1 (n - x))
      (Q := fun c st4 => c = (none, ()) ∧ Sr rk kd S n st n st4 ∧ (pendingOf st4).size ≤ 1) ?fturn ?flast ⟨rfl, R, ?ffirst⟩) ?fafter)
    case ffirst =>
      have := Runs.le R.runs
      rw [Array.length_toList] at this
      omega
    case flast =>
      rintro c st4 ⟨hc, R4, h4⟩
      exact ⟨hc, R4, by omega⟩
    case fturn =>
      rintro j c st4 _ hj ⟨rfl, R4, h4⟩
      refine wpS_bind (wpS_get ?_)
      by_cases c1 : (pendingOf st4).size ≤ 1
      · rw [if_pos c1]
        exact wpS_pure ⟨rfl, R4, c1⟩
      · rw [if_neg c1]
        have go : ∀ i, i + 1 < (pendingOf st4).size → wpS M A E s (mergeAt' i) (fun b st5 => b = true ∧ Sr rk kd S n st n st5 ∧ (pendingOf st5).size ≤ max 1 (n - (j + 1))) st4 := fun i hi => by
          obtain ⟨sa, na, pw, nb, p2, g1, g2, a1, a2, a3, a4, a5, a6⟩ := R4.merge hi
          refine w_mergeAt L R4.sane g1 g2 a1 a2 (by omega) a4 a5 fun st5 mm => ?_
          obtain ⟨R5, z5, _⟩ := a6 st5 mm
          exact ⟨rfl, R5, by omega⟩
        refine wpS_bind (wpS_mono (go _ ?_) ?_)
        · repeat' split
          all_goals omega
        · rintro b st5 ⟨rfl, R5, z5⟩
          simp only [Bool.not_true, Bool.false_eq_true, if_false]
          exact wpS_pure ⟨rfl, R5, z5⟩
    case fafter =>
      rintro c st4 ⟨rfl, R4, h4⟩
      refine wpS_pure (h st4 R4.perm R4.sane.failed ?_)
      have hr := R4.runs
      have hl : (pendingOf st4).toList.length ≤ 1 := by rw [Array.length_toList]; exact h4
      cases e : (pendingOf st4).toList with
      | nil =>
        rw [e] at hr
        have : 0 = n := hr
        omega
      | cons r l =>
        rw [e] at hr hl
        have : l = [] := by simpa using hl
        subst this
        obtain ⟨_, _, u, z⟩ := hr
        have z' : 0 + r.2.1 = n := z
        rwa [z'] at u
end
end Tim
namespace Tim
open PySem PyProof.Rows
def KLt (prog : Program) (w : World) (A : Around) (s : Shared) (kd : SortKind) (x y : Value) (r : Bool) : Prop :=
  ∀ (E : Value → Shared → Prop) (Q : Bool → Shared → Prop), Q r s → wpAny (model prog w) A (keyLt' kd x y) Q E s
theorem ltOk_of {prog : Program} {w : World} {A : Around} {E : Value → Shared → Prop} {s : Shared} {kd : SortKind} {S : Keyed → Prop} {rk : Keyed → Int} (h : ∀ x y, S x → S y → KLt prog w A s kd x.1 y.1 (decide (rk x < rk y))) :
    LtOk (model prog w) A E s kd S rk := by
  intro x y st Q sx sy hk q
  rw [lt'_eq]
  refine wpS_bind (wpS_get ?_)
  rw [hk]
  refine wpS_bind (wpS_lift (wpAny_attempt (h x y sx sy _ _ ⟨rfl, ?_⟩)))
  exact wpS_pure q
section
variable {α : Type}
theorem count_le {p q : α → Bool} : ∀ (l : List α), (∀ z ∈ l, p z = true → q z = true) → (l.filter p).length ≤ (l.filter q).length
  | [], _ => Nat.le_refl _
  | z :: l, h => by
    have ih := count_le (p := p) (q := q) l fun y hy => h y (List.mem_cons_of_mem _ hy)
    rw [List.filter_cons, List.filter_cons]
    cases e : p z with
    | true =>
      rw [h z (List.mem_cons_self ..) e]
      simp only [if_true, List.length_cons]
      omega
    | false =>
      cases q z with
      | true => simp only [Bool.false_eq_true, if_false, if_true, List.length_cons]; omega
      | false => simpa using ih
theorem count_lt {p q : α → Bool} {y : α} : ∀ (l : List α), (∀ z ∈ l, p z = true → q z = true) → y ∈ l → p y = false → q y = true → (l.filter p).length < (l.filter q).length
  | [], _, hy, _, _ => nomatch hy
  | z :: l, h, hy, h1, h2 => by
    have hl : ∀ w ∈ l, p w = true → q w = true := fun w hw => h w (List.mem_cons_of_mem _ hw)
    rw [List.filter_cons, List.filter_cons]
    rcases List.mem_cons.mp hy with rfl | hy
    · rw [h1, h2]
      have := count_le l hl
      simp only [Bool.false_eq_true, if_false, if_true, List.length_cons]
      omega
    · have ih := count_lt l hl hy h1 h2
      cases e : p z with
      | true =>
        rw [h z (List.mem_cons_self ..) e]
        simp only [if_true, List.length_cons]
        omega
      | false =>
        cases q z with
        | true => simp only [Bool.false_eq_true, if_false, if_true, List.length_cons]; omega
        | false => simpa using ih
def rank (lt : α → α → Bool) (l : List α) (x : α) : Int := ((l.filter fun y => lt y x).length : Nat)
theorem rank_lt {lt : α → α → Bool} {l : List α} (irr : ∀ x ∈ l, lt x x = false) (tr : ∀ x ∈ l, ∀ y ∈ l, ∀ z ∈ l, lt x y = true → lt y z = true → lt x z = true)
    (nt : ∀ x ∈ l, ∀ y ∈ l, ∀ z ∈ l, lt x z = true → lt x y = true ∨ lt y z = true) {x y : α} (hx : x ∈ l) (hy : y ∈ l) : lt x y = decide (rank lt l x < rank lt l y) := by
  unfold rank
  cases e : lt x y with
  | true =>
    have := count_lt (p := fun z => lt z x) (q := fun z => lt z y) l (fun z hz h => tr z hz x hx y hy h e) hx (irr x hx) e
    exact (decide_eq_true (by omega)).symm
  | false =>
    have := count_le (p := fun z => lt z y) (q := fun z => lt z x) l (fun z hz h => (nt z hz x hx y hy h).resolve_right (by rw [e]; exact Bool.false_ne_true))
    exact (decide_eq_false (by omega)).symm
end
structure Sorted (rk : Value → Int) (vs out : List Value) : Prop where
  perm : out.Perm vs
  asc : out.Pairwise fun x y => rk x ≤ rk y
theorem sorted_pairs {rk : Value → Int} {vs : List Value} {xs : Array Keyed} (hp : xs.Perm (pairsOf vs)) (hu : Up (fun p => rk p.1) xs 0 vs.length) : Sorted rk vs (xs.map (·.2)).toList := by
  have hl : xs.toList.Perm (vs.zip vs) := by
    rw [← pairsOf_toList]
    exact Array.perm_iff_toList_perm.mp hp
  have hsz : xs.size = vs.length := by
    rw [hp.size_eq, pairsOf_size]
  have same : ∀ p, p ∈ xs.toList → p.1 = p.2 := fun p h => (mem_zip_self (hl.mem_iff.mp h)).1
  refine ⟨?_, ?_⟩
  · rw [Array.toList_map]
    have := hl.map Prod.snd
    rwa [List.map_snd_zip (Nat.le_refl _)] at this
  · rw [Array.toList_map, List.pairwise_iff_getElem]
    intro i j hi hj hij
    rw [List.getElem_map, List.getElem_map]
    have hi' : i < xs.toList.length := by simpa using hi
    have hj' : j < xs.toList.length := by simpa using hj
    have := hu i j (Nat.zero_le _) (Nat.le_of_lt hij) (by rw [Array.length_toList] at hj'; omega)
    rw [kx_list xs i (List.getElem?_eq_getElem hi'), kx_list xs j (List.getElem?_eq_getElem hj')] at this
    rw [← same _ (List.getElem_mem hi'), ← same _ (List.getElem_mem hj')]
    exact this
section
variable {prog : Program} {w : World} {A : Around} {E : Value → Shared → Prop} {s : Shared}
def Keys (prog : Program) (w : World) (A : Around) (s : Shared) (a : Addr) (vs : List Value) (rk : Value → Int) : Prop := 2 ≤ vs.length → ∀ s' : Shared, (∀ b o, b ≠ a → s.heap.get? b = some o → s'.heap.get? b = some o) →
  ∃ kd : SortKind, (∀ (E : Value → Shared → Prop) (Q : SortKind → Shared → Prop), Q kd s' → wpAny (model prog w) A (keyKind' vs.toArray) Q E s') ∧ ∀ x ∈ vs, ∀ y ∈ vs, KLt prog w A s' kd x y (decide (rk x < rk y))
theorem list_sort_any {a : Addr} {vs : List Value} {n : Nat} {rk : Value → Int} {P : PySem.Fin → Shared → Prop} (ho : s.heap.get? a = some (seqObj "list" vs.toArray n)) (hz : vs.length ≤ sizeLine) (hk : Keys prog w A s a vs rk)
    (h : ∀ out : Array Value, Sorted rk vs out.toList → P (.done (.ret .none)) { s with heap := sortedHeap s.heap a vs out }) : wpAny (model prog w) A (Builtin.«list.sort» ⟨[.ref a], []⟩) P E s := by
  rw [list_sort_plain]
  have ha : a < s.heap.objs.size := Heap.lt_size ho
  have hvs : vs.toArray.size = vs.length := List.size_toArray
  refine wpAny_bind (listItems_at ho rfl (wpAny_bind (listUpdate_at ho rfl ?_ (by rw [hvs]; exact hz) (Nat.zero_le _))))
  obtain ⟨e1, ho1⟩ : ∃ e1, (s.heap.update a (Obj.mapSeq fun _ => #[])).get? a = some (seqObj "list" #[] e1) := ⟨_, get?_update_seq ho (fun _ => #[])⟩
  refine wpAny_bind (seqEpoch_at ho1 rfl (wpAny_bind (wpAny_newTuple (wpAny_bind (wpAny_newList (wpAny_holding ?_))))))
  have s1 := Heap.SameBut.update s.heap a (Obj.mapSeq fun _ => (#[] : Array Value))
  have keep : ∀ b o, (s.heap.update a (Obj.mapSeq fun _ => #[])).get? b = some o → (((s.heap.update a (Obj.mapSeq fun _ => #[])).push (seqObj "tuple" vs.toArray 0)).push (seqObj "list" #[] 0)).get? b = some o :=
    fun b o e => Heap.get?_push_of_some _ (Heap.get?_push_of_some _ e)
  have ho6 := keep a _ ho1
  have others : ∀ b o, b ≠ a → s.heap.get? b = some o → (((s.heap.update a (Obj.mapSeq fun _ => #[])).push (seqObj "tuple" vs.toArray 0)).push (seqObj "list" #[] 0)).get? b = some o :=
    fun b o hb e => keep b o ((s1.2 b hb).trans e)
  show wpAny (model prog w) A _ P E { s with heap := ((s.heap.update a (Obj.mapSeq fun _ => #[])).push (seqObj "tuple" vs.toArray 0)).push (seqObj "list" #[] 0) }
  dsimp only
  by_cases h2 : vs.toArray.size < 2
  · rw [if_pos h2, if_pos h2]
    refine wpAny_bind (wpAny_pure ?_)
    rw [StateT.run_pure]
    refine wpAny_bind (wpAny_pure ?_)
    dsimp only
    have es : ((vs.toArray.zip vs.toArray).map (·.2)).toList = vs := by
      rw [Array.toList_map]
      show (pairsOf vs).toList.map _ = _
      rw [pairsOf_toList, List.map_snd_zip (Nat.le_refl _)]
    refine wpAny_bind (seqEpoch_at ho6 rfl (wpAny_bind (listUpdate_at ho6 rfl ?_ (Nat.zero_le _) (by rw [← Array.length_toList, es]; omega))))
    simp only [bne_self_eq_false, Bool.false_eq_true, if_false]
    refine wpAny_pure (h _ ?_)
    rw [es]
    refine ⟨List.Perm.refl _, ?_⟩
    rw [hvs] at h2
    match vs, h2 with
    | [], _ => exact .nil
    | [_], _ => exact List.pairwise_singleton ..
  · rw [if_neg h2, if_neg h2]
    obtain ⟨kd, kk, kl⟩ := hk (by omega) { s with heap := ((s.heap.update a (Obj.mapSeq fun _ => #[])).push (seqObj "tuple" vs.toArray 0)).push (seqObj "list" #[] 0) } others
    refine wpAny_bind (kk _ _ ?_)
    have hS : ∀ p ∈ (vs.toArray.zip vs.toArray).toList, p.1 ∈ vs := fun p hp => by
      have hp' : p ∈ (pairsOf vs).toList := hp
      rw [pairsOf_toList] at hp'
      exact (mem_zip_self hp').2
    refine wpAny_bind (wpAny_mono (w_sortRuns (S := fun p => p.1 ∈ vs) (rk := fun p => rk p.1) (n := vs.length) (st := SortSt.mk' kd (vs.toArray.zip vs.toArray) #[] 7 none)
      (Q := fun _ st' => (arrOf st').Perm (pairsOf vs) ∧ failedOf st' = none ∧ Up (fun p => rk p.1) (arrOf st') 0 vs.length)
      (ltOk_of fun x y hx hy => kl x.1 hx y.1 hy) ⟨pairsOf_size vs, hS, rfl, rfl⟩ (by omega) rfl fun st' a1 a2 a3 => ⟨a1, a2, a3⟩) ?_ fun _ _ e => e)
    rintro ⟨⟨⟩, st'⟩ s' ⟨rfl, hp, hf, hu⟩
    dsimp only
    have so := sorted_pairs hp hu
    refine wpAny_bind (seqEpoch_at ho6 rfl (wpAny_bind (listUpdate_at ho6 rfl ?_ (Nat.zero_le _) (by rw [← Array.length_toList, so.perm.length_eq]; omega))))
    rw [hf]
    simp only [bne_self_eq_false, Bool.false_eq_true, if_false]
    exact wpAny_pure (h _ so)
end
end Tim
namespace Tim
structure STO {α : Type} (lt : α → α → Bool) : Prop where
  irr : ∀ a, lt a a = false
  tr : ∀ a b c, lt a b = true → lt b c = true → lt a c = true
  tri : ∀ a b, lt a b = false → lt b a = false → a = b
section
variable {α β : Type}
theorem STO.asym {lt : α → α → Bool} (h : STO lt) {a b : α} (x : lt a b = true) : lt b a = false := by
  cases e : lt b a with
  | false => rfl
  | true =>
    have := h.tr a b a x e
    rw [h.irr] at this
    cases this
theorem STO.nt {lt : α → α → Bool} (h : STO lt) {a c : α} (b : α) (x : lt a c = true) : lt a b = true ∨ lt b c = true := by
  cases e : lt a b with
  | true => exact .inl rfl
  | false =>
    cases f : lt b a with
    | true => exact .inr (h.tr b a c f x)
    | false =>
      have := h.tri a b e f
      subst this
      exact .inr x
theorem STO.map {lt : α → α → Bool} (h : STO lt) (f : β → α) (inj : ∀ a b, f a = f b → a = b) : STO fun a b => lt (f a) (f b) :=
  ⟨fun a => h.irr _, fun a b c => h.tr _ _ _, fun a b x y => inj a b (h.tri _ _ x y)⟩
def lexB [DecidableEq α] (lt : α → α → Bool) : List α → List α → Bool
  | [], [] => false
  | [], _ :: _ => true
  | _ :: _, [] => false
  | a :: as, b :: bs => if a = b then lexB lt as bs else lt a b
theorem STO.lex [DecidableEq α] {lt : α → α → Bool} (h : STO lt) : STO (lexB lt) := by
  refine ⟨fun a => ?_, fun a => ?_, fun a => ?_⟩
  · induction a with
    | nil => rfl
    | cons x a ih => rw [lexB, if_pos rfl]; exact ih
  · induction a with
    | nil =>
      intro b c h1 h2
      cases c with
      | nil => cases b with
        | nil => exact h1
        | cons y b => cases h2
      | cons z c => rfl
    | cons x a ih =>
      intro b c h1 h2
      cases b with
      | nil => cases h1
      | cons y b =>
        cases c with
        | nil => cases h2
        | cons z c =>
          rw [lexB] at h1 h2 ⊢
          by_cases xy : x = y
          · subst xy
            rw [if_pos rfl] at h1
            by_cases xz : x = z
            · subst xz
              rw [if_pos rfl] at h2 ⊢
              exact ih b c h1 h2
            · rw [if_neg xz] at h2 ⊢
              exact h2
          · rw [if_neg xy] at h1
            by_cases yz : y = z
            · subst yz
              rw [if_neg xy]
              exact h1
            · rw [if_neg yz] at h2
              have hxz := h.tr x y z h1 h2
              have : ¬ x = z := fun e => by
                subst e
                rw [h.irr] at hxz
                cases hxz
              rw [if_neg this]
              exact hxz
  · induction a with
    | nil =>
      intro b h1 h2
      cases b with
      | nil => rfl
      | cons y b => cases h1
    | cons x a ih =>
      intro b h1 h2
      cases b with
      | nil => cases h2
      | cons y b =>
        rw [lexB] at h1 h2
        by_cases xy : x = y
        · subst xy
          rw [if_pos rfl] at h1 h2
          rw [ih b h1 h2]
        · rw [if_neg xy] at h1
          rw [if_neg (Ne.symm xy)] at h2
          exact absurd (h.tri x y h1 h2) xy
theorem sto_nat : STO (fun a b : Nat => decide (a < b)) :=
  ⟨fun a => by simp, fun a b c h1 h2 => by simp at *; omega, fun a b h1 h2 => by simp at *; omega⟩
theorem lex_nat : ∀ (a b : List Nat), decide (a < b) = lexB (fun x y : Nat => decide (x < y)) a b
  | [], [] => rfl
  | [], _ :: _ => by simp [lexB]
  | _ :: _, [] => by simp [lexB]
  | x :: a, y :: b => by
    rw [lexB, ← lex_nat a b]
    by_cases e : x = y
    · subst e
      rw [if_pos rfl]
      simp
    · rw [if_neg e]
      have : (x :: a < y :: b) ↔ x < y := by
        rw [List.cons_lt_cons_iff]
        constructor
        · rintro (h | h)
          · exact h
          · exact absurd h.1 e
        · exact .inl
      simp [this]
theorem STO.uniq {lt : α → α → Bool} (h : STO lt) : ∀ {a b : List α}, a.Perm b → a.Pairwise (fun x y => lt y x = false) → b.Pairwise (fun x y => lt y x = false) → a = b
  | [], b, p, _, _ => (List.nil_perm.mp p).symm ▸ rfl
  | x :: a, [], p, _, _ => by have := p.length_eq; simp at this
  | x :: a, y :: b, p, pa, pb => by
    obtain ⟨pa1, pa2⟩ := List.pairwise_cons.mp pa
    obtain ⟨pb1, pb2⟩ := List.pairwise_cons.mp pb
    have e : x = y := by
      have hx : x ∈ y :: b := p.mem_iff.mp (List.mem_cons_self ..)
      have hy : y ∈ x :: a := p.mem_iff.mpr (List.mem_cons_self ..)
      rcases List.mem_cons.mp hx with e | hx
      · exact e
      · rcases List.mem_cons.mp hy with e | hy
        · exact e.symm
        · exact h.tri x y (pb1 x hx) (pa1 y hy)
    subst e
    rw [h.uniq (List.Perm.cons_inv p) pa2 pb2]
end
end Tim
namespace L2
open PySem PySem.Spec PyProof.Rows
abbrev Key := Sum Int Str
def keyIs : Key → Value → Bool
  | .inl k, v => Value.isInt k v
  | .inr x, v => Value.isStrOf x v
def keyH (w : World) : Key → Int
  | .inl k => hashInt k
  | .inr x => hashStr w x
theorem keyIs_shape : ∀ {k : Key} {v : Value}, keyIs k v = true → (∃ i t, k = Sum.inl i ∧ v = Value.int i t) ∨ (∃ x t, k = Sum.inr x ∧ v = Value.str x t)
  | .inl i, v, h => by
    obtain ⟨t, e⟩ := Value.isInt_shape (k := i) (v := v) h
    exact .inl ⟨i, t, rfl, e⟩
  | .inr x, v, h => by
    obtain ⟨t, e⟩ := Value.isStrOf_shape (x := x) (v := v) h
    exact .inr ⟨x, t, rfl, e⟩
theorem keyIs_int (i : Int) (t : Tok) : keyIs (.inl i) (.int i t) = true := by simp [keyIs, Value.isInt]
theorem keyIs_str (x : Str) (t : Tok) : keyIs (.inr x) (.str x t) = true := by simp [keyIs, Value.isStrOf]
theorem key_ll (a b : Int) : decide ((Sum.inl a : Key) = Sum.inl b) = (a == b) := by
  by_cases e : a = b
  · subst e; simp
  · have h : ¬ (Sum.inl a : Key) = Sum.inl b := fun q => e (Sum.inl.inj q)
    rw [decide_eq_false h]
    exact (beq_eq_false_iff_ne.mpr e).symm
theorem key_rr (a b : Str) : decide ((Sum.inr a : Key) = Sum.inr b) = decide (a = b) := by
  by_cases e : a = b
  · subst e; simp
  · have h : ¬ (Sum.inr a : Key) = Sum.inr b := fun q => e (Sum.inr.inj q)
    rw [decide_eq_false h, decide_eq_false e]
theorem key_lr (a : Int) (b : Str) : decide ((Sum.inl a : Key) = Sum.inr b) = false := decide_eq_false (fun q => nomatch q)
theorem key_rl (a : Str) (b : Int) : decide ((Sum.inr a : Key) = Sum.inl b) = false := decide_eq_false (fun q => nomatch q)
def mixKind (prog : Program) (w : World) : PySem.KeyKind prog w Key where
  is := keyIs
  hash := keyH w
  inj := fun v a b ha hb => by
    rcases keyIs_shape ha with ⟨i, t, rfl, rfl⟩ | ⟨x, t, rfl, rfl⟩
    · rcases keyIs_shape hb with ⟨j, u, rfl, e⟩ | ⟨y, u, rfl, e⟩
      · injection e with e1 _; rw [e1]
      · exact nomatch e
    · rcases keyIs_shape hb with ⟨j, u, rfl, e⟩ | ⟨y, u, rfl, e⟩
      · exact nomatch e
      · injection e with e1 _; rw [e1]
  byValue := fun k v h => by
    rcases keyIs_shape h with ⟨i, t, rfl, rfl⟩ | ⟨x, t, rfl, rfl⟩ <;> rfl
  pyHash := fun hv h => by
    rcases keyIs_shape hv with ⟨i, t, rfl, rfl⟩ | ⟨x, t, rfl, rfl⟩
    · exact wpAny_pyHash_int h
    · exact wpAny_pyHash_str h
  eqBool := fun hu hv h => by
    rcases keyIs_shape hu with ⟨i, t, rfl, rfl⟩ | ⟨x, t, rfl, rfl⟩
    · rcases keyIs_shape hv with ⟨j, u, rfl, rfl⟩ | ⟨y, u, rfl, rfl⟩
      · rw [key_ll] at h; exact wpAny_eqBool_int h
      · rw [key_lr] at h; exact SeqAt.EqAt.int_str i t y u _ _ _ _ h
    · rcases keyIs_shape hv with ⟨j, u, rfl, rfl⟩ | ⟨y, u, rfl, rfl⟩
      · rw [key_rl] at h; exact SeqAt.EqAt.str_int x t j u _ _ _ _ h
      · rw [key_rr] at h; exact wpAny_eqBool_str h
  «strs» := fun k x t v h => by
    rcases keyIs_shape h with ⟨i, u, rfl, e⟩ | ⟨y, u, rfl, e⟩
    · exact nomatch e
    · injection e with e1 _
      subst e1
      cases v <;> rfl
theorem mixKind_int (prog : Program) (w : World) (i : Int) (t : Tok) : (mixKind prog w).is (.inl i) (.int i t) = true := keyIs_int i t
theorem mixKind_str (prog : Program) (w : World) (x : Str) (t : Tok) : (mixKind prog w).is (.inr x) (.str x t) = true := keyIs_str x t
end L2
namespace L2
open PySem PySem.Spec PyProof.Rows
inductive V where
  | non | bl (b : Bool) | int (i : Int) | str (x : Str) | byt (b : Array UInt8) | flt (b : UInt64) | ref (a : Addr) | ty (n : String)
  deriving DecidableEq
def RelV : V → Value → Prop
  | .non, u => u = Value.none
  | .bl b, u => u = Value.bool b
  | .int i, u => ∃ t, u = Value.int i t
  | .str x, u => ∃ t, u = Value.str x t
  | .byt b, u => ∃ t, u = Value.bytes b t
  | .flt b, u => ∃ t, u = Value.float b t
  | .ref a, u => u = Value.ref a
  | .ty n, u => u = Value.type n
abbrev Vals : List V → List Value → Prop := Paired RelV
theorem Vals.length {xs : List V} {us : List Value} (r : Vals xs us) : xs.length = us.length := Paired.length r
theorem Vals.get : ∀ {xs : List V} {us : List Value} {i : Nat} {x : V}, Vals xs us → xs[i]? = some x → ∃ u, us[i]? = some u ∧ RelV x u
  | _, _, _, _, .nil, e => by simp at e
  | _, _, 0, _, .cons r _, e => by simp at e; subst e; exact ⟨_, rfl, r⟩
  | _, _, i + 1, x, .cons _ t, e => by
    obtain ⟨u, h1, h2⟩ := Vals.get (i := i) (x := x) t (by simpa using e)
    exact ⟨u, by simpa using h1, h2⟩
theorem Vals.set {x : V} {u : Value} (r : RelV x u) : ∀ {xs : List V} {us : List Value} (i : Nat), Vals xs us → Vals (xs.set i x) (us.set i u)
  | _, _, _, .nil => .nil
  | _, _, 0, .cons _ t => .cons r t
  | _, _, i + 1, .cons q t => .cons q (Vals.set r i t)
theorem Vals.append : ∀ {xs ys : List V} {us ws : List Value}, Vals xs us → Vals ys ws → Vals (xs ++ ys) (us ++ ws)
  | _, _, _, _, .nil, s => s
  | _, _, _, _, .cons r t, s => .cons r (Vals.append t s)
theorem Vals.take : ∀ {xs : List V} {us : List Value} (n : Nat), Vals xs us → Vals (xs.take n) (us.take n)
  | _, _, 0, _ => .nil
  | _, _, _ + 1, .nil => .nil
  | _, _, n + 1, .cons r t => .cons r (Vals.take n t)
theorem Vals.drop : ∀ {xs : List V} {us : List Value} (n : Nat), Vals xs us → Vals (xs.drop n) (us.drop n)
  | _, _, 0, r => r
  | _, _, _ + 1, .nil => .nil
  | _, _, n + 1, .cons _ t => Vals.drop n t
theorem Vals.none_of : ∀ {xs : List V} {us : List Value} {i : Nat}, Vals xs us → xs[i]? = none → us[i]? = none := fun {xs us i} r e => by
  have h1 := r.length
  have h2 : xs.length ≤ i := List.getElem?_eq_none_iff.mp e
  exact List.getElem?_eq_none_iff.mpr (by omega)
def RelO : Option V → Option Value → Prop
  | some v, some u => RelV v u
  | none, none => True
  | _, _ => False
def KV {κ : Type} : List (κ × V) → List (κ × Value) → Prop := Paired fun (p : κ × V) (q : κ × Value) => p.1 = q.1 ∧ RelV p.2 q.2
def kV : Key → V
  | .inl i => .int i
  | .inr x => .str x
inductive HO where
  /-- a list -/
  | lst (xs : List V)
  /-- a tuple (never changes) -/
  | tup (xs : List V)
  /-- a dict whose keys are ints and texts; one whose keys are tuples of ints and texts (the empty one is both) -/
  | dK (kvs : List (Key × V)) | dT (kvs : List (List Key × V))
  /-- a set of ints: its members, its size -/
  | set (S : Int → Bool) (n : Nat)
  /-- an instance of the class at C, its dict at dx, its attributes -/
  | ins (C dx : Addr) (fs : List (Str × V))
  /-- the dict of the instance at x -/
  | own (x : Addr)
  /-- the dict of an exception -/
  | xd (fs : List (Str × V))
  /-- a bound method, f of x -/
  | met (f x : Addr)
  /-- a range object lo, lo + 1, .. below hi -/
  | rng (lo hi : Int)
  /-- a thing that is known to the object (the script; a dict while a loop walks it): read, never written while it is so -/
  | frz (o : Obj) (u : HO)
  /-- a code object's table -/
  | tbl (ps : Array Value)
  /-- any other thing, by what is true of its one object (a def of one's own: SetO a S n := HO.ext fun h => ..) -/
  | ext (φ : Heap → Prop)
abbrev Hp := Addr → Option HO
def upd (H : Hp) (a : Addr) (o : HO) : Hp := fun b => if b = a then some o else H b
theorem upd_same {H : Hp} {a : Addr} {o : HO} : upd H a o a = some o := by unfold upd; rw [if_pos rfl]
theorem upd_ne {H : Hp} {a b : Addr} {o : HO} (h : b ≠ a) : upd H a o b = H b := by unfold upd; rw [if_neg h]
theorem upd_upd {H : Hp} {a : Addr} {o u : HO} : upd (upd H a o) a u = upd H a u := by
  funext b; unfold upd; split <;> rfl
theorem ne_of {H : Hp} {a b : Addr} {o u : HO} (h : H a = some o) (h' : H b = some u) (d : o ≠ u) : a ≠ b := by
  intro e; subst e; rw [h] at h'; exact d (Option.some.inj h')
theorem ne_of_none {H : Hp} {a b : Addr} {o : HO} (h : H a = some o) (h' : H b = none) : a ≠ b := by
  intro e; subst e; rw [h] at h'; cases h'
section
variable (P : Program) (w : World)
def ObjOk (H : Hp) (h : Heap) (a : Addr) : HO → Prop
  | .lst xs => xs.length ≤ sizeLine ∧ ∃ (its : List Value) (n : Nat), Vals xs its ∧ h.get? a = some { cls := .type "list", data := .seq its.toArray n }
  | .tup xs => xs.length ≤ sizeLine ∧ ∃ its : List Value, Vals xs its ∧ IsTup h a its.toArray
  | .dK kvs => kvs.length ≤ sizeLine ∧ (a == sysModules) = false ∧ ∃ vs, KV kvs vs ∧ h.DictOf (mixKind P w) a vs
  | .dT kvs => kvs.length ≤ sizeLine ∧ (a == sysModules) = false ∧ ∃ xs : List (List Key × Addr × Value),
      Paired (fun (p : List Key × V) (q : List Key × Addr × Value) => p.1 = q.1 ∧ H q.2.1 = some (.tup (p.1.map kV)) ∧ RelV p.2 q.2.2) kvs xs ∧
      ∃ o es ep, h.get? a = some o ∧ o.ExactDict ∧ o.data = .dict es ep ∧ es.toList = xs.map (entryOfKey (tupleKind (mixKind P w))) ∧ (xs.map (·.1)).Nodup
  | .set S n => h.SetOf (intKind P w) a S n
  | .ins C dx fs => H dx = some (.own a) ∧ fs.length ≤ 1000 ∧ dx ≠ a ∧ h.get? a = some (PySem.W.instObj C dx) ∧
      ∃ mA, h.Ns1 dx mA ∧ (∀ f, RelO (fs.lookup f) (mA f)) ∧ PySem.Within mA (fs.map (·.1))
  | .own _ => ∃ o, h.get? a = some o
  | .xd fs => ∃ mA, h.Ns1 a mA ∧ ∀ f, RelO (fs.lookup f) (mA f)
  | .rng lo hi => ∃ t u v, h.get? a = some { cls := .type "range", data := .fields #[.int lo t, .int hi u, .int 1 v] }
  | .frz o u => h.get? a = some o ∧ ObjOk H h a u
  | .tbl ps => h.get? a = some { cls := .none, data := .fields ps }
  | .met f x => h.get? a = some (PySem.W.methodObj (.ref f) (.ref x))
  | .ext φ => φ h ∧ (∃ o, h.get? a = some o) ∧ ∀ h1 h2 : Heap, φ h1 → (∀ o, h1.get? a = some o → h2.get? a = some o) → φ h2
def HOk (H : Hp) (h : Heap) : Prop := ∀ a o, H a = some o → ObjOk P w H h a o
end
section
variable {P : Program} {w : World} {H H' : Hp} {h h' : Heap} {a : Addr} {o : HO}
theorem ObjOk.lt (x : ObjOk P w H h a o) : a < h.objs.size := by
  cases o with
  | lst xs => obtain ⟨_, _, _, _, e⟩ := x; exact Heap.lt_size e
  | tup xs => obtain ⟨_, _, _, p⟩ := x; exact p.lt
  | dK kvs => obtain ⟨_, _, _, _, o, _, _, e, _⟩ := x; exact Heap.lt_size e
  | dT kvs => obtain ⟨_, _, _, _, o, _, _, e, _⟩ := x; exact Heap.lt_size e
  | set S n => obtain ⟨o, _, _, _, e, _⟩ := x; exact Heap.lt_size e
  | ins C dx fs => obtain ⟨_, _, _, e, _⟩ := x; exact Heap.lt_size e
  | own y => obtain ⟨_, e⟩ := x; exact Heap.lt_size e
  | xd fs => obtain ⟨_, ⟨_, _, _, e, _⟩, _⟩ := x; exact Heap.lt_size e
  | rng lo hi => obtain ⟨_, _, _, e⟩ := x; exact Heap.lt_size e
  | frz ob u => obtain ⟨e, _⟩ := x; exact Heap.lt_size e
  | tbl ps => exact Heap.lt_size (show h.get? a = some _ from x)
  | met f y => exact Heap.lt_size (show h.get? a = some _ from x)
  | ext φ => obtain ⟨_, ⟨_, e⟩, _⟩ := x; exact Heap.lt_size e
theorem Paired.mapP {α β : Type} {F G : α → β → Prop} : ∀ {l₁ : List α} {l₂ : List β}, Paired F l₁ l₂ → (∀ a b, F a b → G a b) → Paired G l₁ l₂
  | _, _, .nil, _ => .nil
  | _, _, .cons r t, f => .cons (f _ _ r) (Paired.mapP t f)
theorem ObjOk.stay (x : ObjOk P w H h a o) (k : ∀ b u, (b = a ∨ H b = some (.own a)) → h.get? b = some u → h'.get? b = some u)
    (ho : ∀ b, H b = some (.own a) → H' b = some (.own a)) (ht : ∀ b xs, H b = some (.tup xs) → H' b = some (.tup xs)) : ObjOk P w H' h' a o := by
  induction o with
  | lst xs => obtain ⟨z, its, n, r, e⟩ := x; exact ⟨z, its, n, r, k _ _ (.inl rfl) e⟩
  | tup xs => obtain ⟨z, its, r, ob, e, c⟩ := x; exact ⟨z, its, r, ob, k _ _ (.inl rfl) e, c⟩
  | dK kvs => obtain ⟨z, y, vs, r, ob, es, ep, e, c⟩ := x; exact ⟨z, y, vs, r, ob, es, ep, k _ _ (.inl rfl) e, c⟩
  | dT kvs =>
    obtain ⟨z, y, xs, r, ob, es, ep, e, c⟩ := x
    exact ⟨z, y, xs, Paired.mapP r fun p q z => ⟨z.1, ht _ _ z.2.1, z.2.2⟩, ob, es, ep, k _ _ (.inl rfl) e, c⟩
  | set S n => obtain ⟨ob, es, ep, t, e, c⟩ := x; exact ⟨ob, es, ep, t, k _ _ (.inl rfl) e, c⟩
  | ins C dx fs =>
    obtain ⟨d, z, ne, e, mA, ⟨od, es, ep, e2, c⟩, r⟩ := x
    exact ⟨ho _ d, z, ne, k _ _ (.inl rfl) e, mA, ⟨od, es, ep, k _ _ (.inr d) e2, c⟩, r⟩
  | own y => obtain ⟨ob, e⟩ := x; exact ⟨ob, k _ _ (.inl rfl) e⟩
  | xd fs => obtain ⟨mA, ⟨od, es, ep, e, c⟩, r⟩ := x; exact ⟨mA, ⟨od, es, ep, k _ _ (.inl rfl) e, c⟩, r⟩
  | rng lo hi => obtain ⟨t, u, v, e⟩ := x; exact ⟨t, u, v, k _ _ (.inl rfl) e⟩
  | frz ob u ih => obtain ⟨e, q⟩ := x; exact ⟨k _ _ (.inl rfl) e, ih q⟩
  | tbl ps =>
    have e : h.get? a = some { cls := .none, data := .fields ps } := x
    show h'.get? a = some { cls := .none, data := .fields ps }
    exact k a _ (.inl rfl) e
  | met f y =>
    have e : h.get? a = some (PySem.W.methodObj (.ref f) (.ref y)) := x
    show h'.get? a = some (PySem.W.methodObj (.ref f) (.ref y))
    exact k a _ (.inl rfl) e
  | ext φ => obtain ⟨p, ⟨o, e⟩, st⟩ := x; exact ⟨st _ _ p fun o q => k _ _ (.inl rfl) q, ⟨o, k _ _ (.inl rfl) e⟩, st⟩
theorem HOk.lt (x : HOk P w H h) (e : H a = some o) : a < h.objs.size := (x a o e).lt
theorem HOk.fresh (x : HOk P w H h) (e : h.objs.size ≤ a) : H a = none := by
  cases q : H a with
  | none => rfl
  | some u => exact absurd (Nat.lt_of_lt_of_le (x.lt q) e) (Nat.lt_irrefl _)
theorem HOk.kept (x : HOk P w H h) (k : ∀ b u, h.get? b = some u → h'.get? b = some u) : HOk P w H h' := fun a o e =>
  (x a o e).stay (fun b u _ q => k b u q) (fun _ q => q) fun _ _ q => q
theorem HOk.laid (x : HOk P w H h) (k : ∀ b u, h.get? b = some u → h'.get? b = some u) (hp : h.objs.size ≤ a) (new : ObjOk P w (upd H a o) h' a o) : HOk P w (upd H a o) h' := fun b u e => by
  have hn := x.fresh hp
  by_cases hb : b = a
  · subst hb; rw [upd_same] at e; cases e; exact new
  · rw [upd_ne hb] at e
    exact (x b u e).stay (fun c v _ q => k c v q) (fun c q => by rw [upd_ne (ne_of_none q hn)]; exact q) fun c xs q => by rw [upd_ne (ne_of_none q hn)]; exact q
end
def Rd (H : Hp) (a : Addr) (u : HO) : Prop := H a = some u ∨ ∃ o, H a = some (.frz o u)
theorem Rd.of {H : Hp} {a : Addr} {u : HO} (h : H a = some u) : Rd H a u := .inl h
theorem Rd.ok {P : Program} {w : World} {H : Hp} {h : Heap} {a : Addr} {u : HO} (r : Rd H a u) (x : HOk P w H h) : ObjOk P w H h a u := by
  rcases r with r | ⟨o, r⟩
  · exact x a u r
  · obtain ⟨_, q⟩ := x a _ r
    exact q
def Mut : Option HO → Prop
  | some (.lst _) => True
  | some (.dK _) => True
  | some (.dT _) => True
  | some (.set _ _) => True
  | some (.ins _ _ _) => True
  | some (.ext _) => True
  | _ => False
section
variable {P : Program} {w : World} {H : Hp} {h h' : Heap} {x e : Addr} {o' : HO}
theorem HOk.write (ok : HOk P w H h) (mu : Mut (H x)) (he : e = x ∨ H e = some (.own x)) (k : ∀ b u, b ≠ e → h.get? b = some u → h'.get? b = some u) (heo : ∃ u, h'.get? e = some u)
    (new : ObjOk P w (upd H x o') h' x o') : HOk P w (upd H x o') h' := fun b u q => by
  have nown : ∀ c y, H c = some (.own y) → c ≠ x := fun c y r z => by subst z; rw [r] at mu; exact mu
  have ntup : ∀ c xs, H c = some (.tup xs) → c ≠ x := fun c xs r z => by subst z; rw [r] at mu; exact mu
  by_cases hb : b = x
  · subst hb; rw [upd_same] at q; cases q; exact new
  · rw [upd_ne hb] at q
    by_cases hbe : b = e
    · have q' : H b = some (.own x) := by
        rcases he with z | z
        · exact absurd (hbe.trans z) hb
        · rw [hbe]; exact z
      rw [q] at q'; cases q'
      obtain ⟨v, hv⟩ := heo
      exact ⟨v, by rw [hbe]; exact hv⟩
    · refine (ok b u q).stay (fun c v hc r => k c v ?_ r) (fun c r => by rw [upd_ne (nown c b r)]; exact r) fun c xs r => by rw [upd_ne (ntup c xs r)]; exact r
      rcases hc with rfl | hc
      · exact hbe
      · rintro rfl
        rcases he with z | z
        · exact nown c b hc z
        · rw [hc] at z; cases z; exact hb rfl
end
structure Un (fs ex : List Addr) (H H' : Hp) (h h' : Heap) : Prop where
  keep : ∀ b o, h.get? b = some o → H b = none → b ∉ fs → b ∉ ex → h'.get? b = some o
  slot : ∀ b o, h.get? b = some o → H b = none → b ∈ fs → b ∉ ex → ∃ sl, h'.get? b = some { o with slots := sl }
  free : ∀ b o, h.get? b = some o → H b = none → b ∉ ex → H' b = none
  there : ∀ b o, h.get? b = some o → b ∉ ex → ∃ o', h'.get? b = some o'
  tups : ∀ b xs, H b = some (.tup xs) → H' b = some (.tup xs)
  frzs : ∀ b o u, H b = some (.frz o u) → H' b = some (.frz o u)
  tbls : ∀ b ps, H b = some (.tbl ps) → ∃ more, H' b = some (.tbl (ps ++ more))
section
variable {fs fs' ex ex' : List Addr} {H H1 H2 : Hp} {h h1 h2 h' : Heap} {a x e : Addr} {o : HO}
theorem Un.any (u : Un fs ex H H1 h h1) {b : Addr} {ob : Obj} (q : h.get? b = some ob) (n : H b = none) (hx : b ∉ ex) : ∃ sl, h1.get? b = some { ob with slots := sl } := by
  by_cases hb : b ∈ fs
  · exact u.slot b ob q n hb hx
  · exact ⟨ob.slots, u.keep b ob q n hb hx⟩
theorem Un.trans (a : Un fs ex H H1 h h1) (b : Un fs ex H1 H2 h1 h2) : Un fs ex H H2 h h2 where
  keep := fun c ob q n hc hx => b.keep c ob (a.keep c ob q n hc hx) (a.free c ob q n hx) hc hx
  slot := fun c ob q n hc hx => by
    obtain ⟨sl, e1⟩ := a.slot c ob q n hc hx
    obtain ⟨sl', e2⟩ := b.slot c _ e1 (a.free c ob q n hx) hc hx
    exact ⟨sl', e2⟩
  free := fun c ob q n hx => by
    obtain ⟨o', e1⟩ := a.there c ob q hx
    exact b.free c o' e1 (a.free c ob q n hx) hx
  there := fun c ob q hx => by
    obtain ⟨o', e1⟩ := a.there c ob q hx
    exact b.there c o' e1 hx
  tups := fun c xs q => b.tups c xs (a.tups c xs q)
  frzs := fun c ob xs q => b.frzs c ob xs (a.frzs c ob xs q)
  tbls := fun c ps q => by
    obtain ⟨m1, e1⟩ := a.tbls c ps q
    obtain ⟨m2, e2⟩ := b.tbls c _ e1
    exact ⟨m1 ++ m2, by rw [e2, Array.append_assoc]⟩
theorem Un.kept (k : ∀ b u, h.get? b = some u → h'.get? b = some u) : Un fs ex H H h h' :=
  ⟨fun b ob q _ _ _ => k b ob q, fun b ob q _ _ _ => ⟨ob.slots, k b ob q⟩, fun _ _ _ n _ => n, fun b ob q _ => ⟨ob, k b ob q⟩, fun _ _ q => q, fun _ _ _ q => q, fun _ ps q => ⟨#[], by rw [q]; simp⟩⟩
theorem Un.refl : Un fs ex H H h h := Un.kept fun _ _ q => q
theorem Un.laid (k : ∀ b u, h.get? b = some u → h'.get? b = some u) (hp : h.objs.size ≤ a) (hn : H a = none) : Un fs ex H (upd H a o) h h' where
  keep := fun b u q _ _ _ => k b u q
  slot := fun b u q _ _ _ => ⟨u.slots, k b u q⟩
  free := fun b u q n _ => by rw [upd_ne (Nat.ne_of_lt (Nat.lt_of_lt_of_le (Heap.lt_size q) hp))]; exact n
  there := fun b u q _ => ⟨u, k b u q⟩
  tups := fun b xs q => by rw [upd_ne (ne_of_none q hn)]; exact q
  frzs := fun b u xs q => by rw [upd_ne (ne_of_none q hn)]; exact q
  tbls := fun b ps q => ⟨#[], by rw [upd_ne (ne_of_none q hn), q]; simp⟩
theorem Un.write (mu : Mut (H x)) (he : e = x ∨ H e = some (.own x)) (k : ∀ b u, b ≠ e → h.get? b = some u → h'.get? b = some u) (heo : ∃ u, h'.get? e = some u) : Un fs ex H (upd H x o) h h' := by
  have hx : ∀ b, H b = none → b ≠ x := fun b n z => by subst z; rw [n] at mu; exact mu
  have hb : ∀ b, H b = none → b ≠ e := fun b n z => by
    subst z
    rcases he with r | r
    · exact hx b n r
    · rw [n] at r; cases r
  have hm : ∀ b u, H b = some u → ¬ Mut (some u) → b ≠ x := fun b u q nm z => by subst z; rw [q] at mu; exact nm mu
  refine ⟨fun b u q n _ _ => k b u (hb b n) q, fun b u q n _ _ => ⟨u.slots, k b u (hb b n) q⟩, fun b u q n _ => by rw [upd_ne (hx b n)]; exact n, fun b u q _ => ?_,
    fun b xs q => by rw [upd_ne (hm b _ q fun z => z)]; exact q, fun b u xs q => by rw [upd_ne (hm b _ q fun z => z)]; exact q, fun b ps q => ⟨#[], by rw [upd_ne (hm b _ q fun z => z), q]; simp⟩⟩
  by_cases hbe : b = e
  · subst hbe; exact heo
  · exact ⟨u, k b u hbe q⟩
theorem Un.mono (u : Un fs ex H H1 h h1) (hs : ∀ b ∈ fs, b ∈ fs') (hx : ∀ b ∈ ex, b ∈ ex') : Un fs' ex' H H1 h h1 :=
  ⟨fun b ob q n hb he => u.keep b ob q n (fun z => hb (hs b z)) fun z => he (hx b z), fun _ _ q n _ he => u.any q n fun z => he (hx _ z), fun b ob q n he => u.free b ob q n fun z => he (hx b z), fun b ob q he => u.there b ob q fun z => he (hx b z), u.tups, u.frzs, u.tbls⟩
end
def trk (h : Heap) (H : Hp) : List Addr := (List.range h.objs.size).filter fun a => (H a).isSome
def hidT (h : Heap) (H : Hp) : Heap := PySem.W.hideAll h (trk h H)
theorem hidT_size (h : Heap) (H : Hp) : (hidT h H).objs.size = h.objs.size := PySem.W.hideAll_size _ _
theorem hidT_get {h : Heap} {H : Hp} {b : Addr} {o : Obj} (e : h.get? b = some o) (n : H b = none) : (hidT h H).get? b = some o :=
  PySem.W.hideAll_get _ e fun hm => by
    have q : (H b).isSome = true := (List.mem_filter.mp hm).2
    rw [n] at q; simp at q
theorem of_hidT {h : Heap} {H : Hp} {b : Addr} {o : Obj} (e : (hidT h H).get? b = some o) : h.get? b = some o ∧ H b = none := by
  have e' : h.get? b = some o := PySem.W.of_hideAll (trk h H) e
  refine ⟨e', ?_⟩
  cases q : H b with
  | none => rfl
  | some x =>
    have hm : b ∈ trk h H := List.mem_filter.mpr ⟨List.mem_range.mpr (Heap.lt_size e'), by simp [q]⟩
    have z : (hidT h H).get? b = none := PySem.W.hideAll_none (trk h H) hm
    rw [z] at e; cases e
def allNews (g h : Heap) (L : Addr) : List (Addr × Obj) := (List.range h.objs.size).filterMap fun a => if a = L ∨ (g.get? a).isSome = true then none else (h.get? a).map fun o => (a, o)
theorem mem_allNews {g h : Heap} {L a : Addr} {o : Obj} (h1 : a ≠ L) (h2 : g.get? a = none) (h3 : h.get? a = some o) : (a, o) ∈ allNews g h L :=
  List.mem_filterMap.mpr ⟨a, List.mem_range.mpr (Heap.lt_size h3), by simp [h1, h2, h3]⟩
def rest (g h : Heap) (L d : Addr) : List (Addr × Obj) := (allNews g h L).filter fun p => decide (p.1 ≠ d)
theorem mem_rest {g h : Heap} {L d a : Addr} {o : Obj} (h1 : a ≠ L) (h2 : g.get? a = none) (h3 : h.get? a = some o) (h4 : a ≠ d) : (a, o) ∈ rest g h L d :=
  List.mem_filter.mpr ⟨mem_allNews h1 h2 h3, decide_eq_true h4⟩
end L2
namespace L2
open PySem PySem.Spec PyProof.Rows
structure Mod (K : PySem.W.Frag) (mg : Str → Option Value) (base : Heap) : Prop where
  kin : K.In base
  glob : base.Ns mainGlobals mg
  blt : ∃ mb, base.Ns builtinsNs mb ∧ ∀ x : Str, x ≠ "__name__" → mb x = bootBuiltins x
  nolimit : base.NoLimit
structure Cx where
  prog : Program
  w : World
  K : PySem.W.Frag
  mg : Str → Option Value
  base : Heap
  A : Around
  N : List Str
  s₀ : Shared
  H₀ : Hp
  env : Env
  outer : List Env
  stack : List Env
  ex : List Addr
  fn : Str → Bool
  calm : Bool
  pn : List (Addr × Obj)
  xe : Value → Shared → Prop
def frs (l : List Env) : List Addr := l.filterMap (·.frame)
abbrev Cx.fs (X : Cx) : List Addr := frs X.outer
def Vis (sc : Scope) (x : Str) : Prop := sc.names.lookup x = some .local ∨ sc.names.lookup x = some .cell ∨ sc.names.lookup x = some .free
def Loc (sc : Scope) (x : Str) : Prop := sc.names.lookup x = some .local ∨ sc.names.lookup x = some .cell
def Look (env : Env) (h : Heap) (m : Str → Option Value) (x : Str) (u : Value) : Prop :=
  (env.kindOf x = some .local ∧ m x = some u) ∨ ((env.kindOf x = some .cell ∨ env.kindOf x = some .free) ∧ ∃ c, env.cells.lookup x = some c ∧ h.IsCell c (some u))
structure Cx.Ok (X : Cx) : Prop where
  mod : Mod X.K X.mg X.base
  kind : X.env.scope.kind = .function
  glob : X.env.globals = mainGlobals
  blt : X.env.builtins = builtinsNs
  above : X.s₀.heap.objs.size ≤ X.env.locals
  inj : ∀ x y c, X.env.cells.lookup x = some c → X.env.cells.lookup y = some c → x = y
  has : ∀ x, (X.env.kindOf x = some .cell ∨ X.env.kindOf x = some .free) → ∃ c, X.env.cells.lookup x = some c
  cab : ∀ x c, X.fn x = true → X.env.cells.lookup x = some c → X.s₀.heap.objs.size ≤ c
  hd : X.calm = true → X.A.handled = none
  frames : X.A.frames = some X.stack
  stk : X.stack = X.outer ∨ (X.stack = X.env :: X.outer ∧ X.env.frame = some X.env.locals)
  exf : ∀ b ∈ X.ex, b ≠ X.env.locals ∧ ∀ x c, X.env.cells.lookup x = some c → c ≠ b
  bs : ∀ b o, X.base.get? b = some o → X.s₀.heap.get? b = some o ∧ X.H₀ b = none
  bsz : X.base.objs.size ≤ X.s₀.heap.objs.size
  noex : ∀ b o, X.base.get? b = some o → b ∉ X.ex
  exfs : ∀ b ∈ X.ex, b ∉ X.fs
  funs : X.s₀.heap.FunFrames X.base X.outer
  frf : ∀ b ∈ X.fs, X.H₀ b = none
structure Inv (X : Cx) (pins : List (Addr × Obj)) (σ : List (Option V)) (H : Hp) (s : Shared) : Prop where
  ok : X.Ok
  os : s.os = X.s₀.os
  bare : AllBare s.gens
  base : Un X.fs X.ex X.H₀ H X.s₀.heap s.heap
  loc : ∃ m, s.heap.Ns X.env.locals m ∧ ∀ (i : Nat) (x : Str) (v : V), X.N[i]? = some x → σ[i]? = some (some v) → Vis X.env.scope x → ∃ u, RelV v u ∧ Look X.env s.heap m x u
  cell : ∀ x c, X.env.cells.lookup x = some c → ∃ v, s.heap.IsCell c v
  free : H X.env.locals = none
  freeC : ∀ x c, X.env.cells.lookup x = some c → H c = none
  pin : ∀ p ∈ X.pn ++ pins, s.heap.get? p.1 = some p.2 ∧ H p.1 = none ∧ p.1 ≠ X.env.locals ∧ p.1 ∉ X.fs ∧ ∀ v, p.2.data ≠ .cell v
  hok : HOk X.prog X.w H s.heap
  len : σ.length = X.N.length
section
variable {X : Cx} {pins : List (Addr × Obj)} {σ : List (Option V)} {H H' : Hp} {s : Shared} {h' : Heap}
theorem Cx.Ok.nofr (ok : X.Ok) {b : Addr} {o : Obj} (e : X.base.get? b = some o) : b ∉ X.fs := fun hb => by
  have := (ok.funs.mem hb).1
  rw [e] at this; cases this
theorem Inv.bs (I : Inv X pins σ H s) : ∀ b o, X.base.get? b = some o → s.heap.get? b = some o ∧ H b = none := fun b o e =>
  ⟨I.base.keep b o (I.ok.bs b o e).1 (I.ok.bs b o e).2 (I.ok.nofr e) (I.ok.noex b o e), I.base.free b o (I.ok.bs b o e).1 (I.ok.bs b o e).2 (I.ok.noex b o e)⟩
theorem Inv.bk (I : Inv X pins σ H s) : ∀ b o, X.base.get? b = some o → s.heap.get? b = some o := fun b o e => (I.bs b o e).1
theorem Inv.mod (I : Inv X pins σ H s) : Mod X.K X.mg X.base := I.ok.mod
theorem Inv.kIn (I : Inv X pins σ H s) : X.K.In s.heap := I.ok.mod.kin.keeps I.bk
theorem Inv.nolimit (I : Inv X pins σ H s) : s.heap.NoLimit := I.ok.mod.nolimit.keeps I.bk
theorem Inv.fr (I : Inv X pins σ H s) : ∃ m, Fr X.base X.env.locals s.heap m :=
  let ⟨m, hn, _⟩ := I.loc
  ⟨m, hn, I.bk, Nat.le_trans I.ok.bsz I.ok.above⟩
theorem Inv.lt (I : Inv X pins σ H s) : X.env.locals < s.heap.objs.size := let ⟨_, hn, _⟩ := I.loc; hn.lt
theorem Inv.sz (I : Inv X pins σ H s) : X.s₀.heap.objs.size ≤ s.heap.objs.size := Nat.le_trans I.ok.above (Nat.le_of_lt I.lt)
theorem Inv.nofs (I : Inv X pins σ H s) {a : Addr} (h : s.heap.objs.size ≤ a) : a ∉ X.fs := fun hb => by
  obtain ⟨_, o, ho, _⟩ := I.ok.funs.mem hb
  exact absurd (Nat.lt_of_lt_of_le (Heap.lt_size ho) (Nat.le_trans I.sz h)) (Nat.lt_irrefl _)
theorem Inv.cne (I : Inv X pins σ H s) : ∀ x c, X.env.cells.lookup x = some c → c ≠ X.env.locals := fun x c e z => by
  obtain ⟨v, o, ho, hd⟩ := I.cell x c e
  obtain ⟨m, ⟨o', es, ep, ho', hd', _⟩, _⟩ := I.loc
  rw [z, ho'] at ho; cases ho; rw [hd'] at hd; cases hd
theorem Inv.funs (I : Inv X pins σ H s) : s.heap.FunFrames X.base X.outer := by
  have all : ∀ (l : List Env), (∀ b ∈ frs l, b ∈ X.fs) → X.s₀.heap.FunFrames X.base l → s.heap.FunFrames X.base l := by
    intro l
    induction l with
    | nil => intro _ _; trivial
    | cons env r ih =>
      intro hs hl
      obtain ⟨hk, ⟨L, o, hf, hn, ho, hd⟩, hr⟩ := hl
      have hL : L ∈ X.fs := hs L (by unfold frs; rw [List.filterMap_cons, hf]; exact List.mem_cons_self)
      obtain ⟨sl, e⟩ := I.base.slot L o ho (I.ok.frf L hL) hL fun z => I.ok.exfs L z hL
      exact ⟨hk, ⟨L, _, hf, hn, e, hd⟩, ih (fun b hb => hs b (by unfold frs; rw [List.filterMap_cons, hf]; exact List.mem_cons_of_mem _ hb)) hr⟩
  exact all X.outer (fun _ hb => hb) I.ok.funs
theorem Inv.stack (I : Inv X pins σ H s) : s.heap.FunFrames X.base X.stack := by
  rcases I.ok.stk with e | ⟨e, hf⟩
  · rw [e]; exact I.funs
  · rw [e]
    obtain ⟨m, hn, _⟩ := I.loc
    refine .cons (by rw [I.ok.kind]; decide) hf hn ?_ I.funs
    exact Heap.get?_none_of_le (Nat.le_trans I.ok.bsz I.ok.above)
theorem Inv.stkSub (I : Inv X pins σ H s) : ∀ b ∈ frs X.stack, b ∈ X.env.locals :: X.fs := fun b hb => by
  rcases I.ok.stk with e | ⟨e, hf⟩
  · rw [e] at hb; exact List.mem_cons_of_mem _ hb
  · rw [e] at hb
    unfold frs at hb
    rw [List.filterMap_cons, hf] at hb
    exact hb
theorem Inv.stkFree (I : Inv X pins σ H s) : ∀ b ∈ frs X.stack, H b = none := fun b hb => by
  rcases List.mem_cons.mp (I.stkSub b hb) with e | hb
  · rw [e]; exact I.free
  · obtain ⟨_, o, ho, _⟩ := I.ok.funs.mem hb
    exact I.base.free b o ho (I.ok.frf b hb) fun z => I.ok.exfs b z hb
theorem Inv.step {g' : Array GenState} {t' : Nat} {d' : Drawn} {ch : List Addr} (I : Inv X pins σ H s)
    (hch : ∀ b ∈ ch, (b ∈ X.ex ∨ X.s₀.heap.objs.size ≤ b) ∧ b ≠ X.env.locals ∧ (∀ x c, X.env.cells.lookup x = some c → c ≠ b) ∧ ∀ p ∈ X.pn ++ pins, p.1 ≠ b)
    (keep : ∀ b o, b ≠ X.env.locals → b ∉ X.fs → b ∉ ch → s.heap.get? b = some o → H b = none → h'.get? b = some o)
    (slot : ∀ b o, b ≠ X.env.locals → b ∈ X.fs → b ∉ ch → s.heap.get? b = some o → H b = none → ∃ sl, h'.get? b = some { o with slots := sl }) (free : ∀ b o, b ∉ ch → s.heap.get? b = some o → H b = none → H' b = none)
    (there : ∀ b o, b ∉ ch → s.heap.get? b = some o → ∃ o', h'.get? b = some o')
    (tups : ∀ b xs, H b = some (.tup xs) → H' b = some (.tup xs)) (frzs : ∀ b o u, H b = some (.frz o u) → H' b = some (.frz o u)) (tbls : ∀ b ps, H b = some (.tbl ps) → ∃ more, H' b = some (.tbl (ps ++ more)))
    (ns : ∀ m, s.heap.Ns X.env.locals m → h'.Ns X.env.locals m) (hok : HOk X.prog X.w H' h') (hg : AllBare g') :
    Inv X pins σ H' { s with heap := h', gens := g', drawn := d', toks := t' } := by
  have neL : ∀ b o, X.s₀.heap.get? b = some o → b ≠ X.env.locals := fun b o e => Nat.ne_of_lt (Nat.lt_of_lt_of_le (Heap.lt_size e) I.ok.above)
  have neC : ∀ b o, X.s₀.heap.get? b = some o → b ∉ X.ex → b ∉ ch := fun b o e hx hb => by
    rcases (hch b hb).1 with z | z
    · exact hx z
    · exact absurd (Nat.lt_of_lt_of_le (Heap.lt_size e) z) (Nat.lt_irrefl _)
  have cellK : ∀ x c, X.env.cells.lookup x = some c → ∀ v, s.heap.IsCell c v → h'.IsCell c v := fun x c e v ⟨o, ho, hd⟩ => by
    have nch : c ∉ ch := fun z => (hch c z).2.2.1 x c e rfl
    by_cases hc : c ∈ X.fs
    · obtain ⟨sl, q⟩ := slot c o (I.cne x c e) hc nch ho (I.freeC x c e)
      exact ⟨_, q, hd⟩
    · exact ⟨o, keep c o (I.cne x c e) hc nch ho (I.freeC x c e), hd⟩
  refine ⟨I.ok, I.os, hg, ⟨fun b o e n hb hx => ?_, fun b o e n hb hx => ?_, fun b o e n hx => ?_, fun b o e hx => ?_, fun b xs e => tups b xs (I.base.tups b xs e), fun b o xs e => frzs b o xs (I.base.frzs b o xs e), fun b ps e => ?_⟩, ?_, fun x c e => ?_, ?_, fun x c e => ?_, fun p hp => ?_, hok, I.len⟩
  · exact keep b o (neL b o e) hb (neC b o e hx) (I.base.keep b o e n hb hx) (I.base.free b o e n hx)
  · obtain ⟨sl, e1⟩ := I.base.slot b o e n hb hx
    obtain ⟨sl', e2⟩ := slot b _ (neL b o e) hb (neC b o e hx) e1 (I.base.free b o e n hx)
    exact ⟨sl', e2⟩
  · obtain ⟨o', e1⟩ := I.base.there b o e hx
    exact free b o' (neC b o e hx) e1 (I.base.free b o e n hx)
  · obtain ⟨o', e1⟩ := I.base.there b o e hx
    exact there b o' (neC b o e hx) e1
  · obtain ⟨m1, e1⟩ := I.base.tbls b ps e
    obtain ⟨m2, e2⟩ := tbls b _ e1
    exact ⟨m1 ++ m2, by rw [e2, Array.append_assoc]⟩
  · obtain ⟨m, hn, hl⟩ := I.loc
    refine ⟨m, ns m hn, fun i x v e1 e2 e3 => ?_⟩
    obtain ⟨u, r, l⟩ := hl i x v e1 e2 e3
    refine ⟨u, r, ?_⟩
    rcases l with l | ⟨k, c, e, z⟩
    · exact .inl l
    · exact .inr ⟨k, c, e, cellK x c e _ z⟩
  · obtain ⟨v, z⟩ := I.cell x c e
    exact ⟨v, cellK x c e v z⟩
  · obtain ⟨m, ⟨o, _, _, ho, _⟩, _⟩ := I.loc
    exact free _ o (fun z => (hch _ z).2.1 rfl) ho I.free
  · obtain ⟨v, o, ho, hd⟩ := I.cell x c e
    exact free c o (fun z => (hch c z).2.2.1 x c e rfl) ho (I.freeC x c e)
  · obtain ⟨e, n, ne, nf, d⟩ := I.pin p hp
    have nch : p.1 ∉ ch := fun z => (hch p.1 z).2.2.2 p hp rfl
    exact ⟨keep p.1 p.2 ne nf nch e n, free p.1 p.2 nch e n, ne, nf, d⟩
theorem Inv.un {t' : Nat} (I : Inv X pins σ H s) (u : Un X.fs [] H H' s.heap h') (hok : HOk X.prog X.w H' h') : Inv X pins σ H' { s with heap := h', toks := t' } := by
  obtain ⟨m, ⟨o, es, ep, ho, r⟩, _⟩ := id I.loc
  obtain ⟨sl, hL⟩ := u.any ho I.free (by simp)
  exact I.step (g' := s.gens) (d' := s.drawn) (ch := []) (fun _ z => nomatch z) (fun b o _ hb _ e n => u.keep b o e n hb (by simp)) (fun b o _ hb _ e n => u.slot b o e n hb (by simp)) (fun b o _ e n => u.free b o e n (by simp)) (fun b o _ e => u.there b o e (by simp)) u.tups u.frzs u.tbls (fun m' hm => by
    obtain ⟨o', es', ep', ho', r'⟩ := hm
    rw [ho] at ho'; cases ho'
    exact ⟨_, es', ep', hL, r'⟩) hok I.bare
theorem Inv.call {g' : Array GenState} {t' : Nat} {d' : Drawn} {ch : List Addr} (I : Inv X pins σ H s) (u : Un (frs X.stack) ch H H' s.heap h') (hok : HOk X.prog X.w H' h') (hg : AllBare g')
    (hch : ∀ b ∈ ch, (b ∈ X.ex ∨ X.s₀.heap.objs.size ≤ b) ∧ b ≠ X.env.locals ∧ (∀ x c, X.env.cells.lookup x = some c → c ≠ b) ∧ ∀ p ∈ X.pn ++ pins, p.1 ≠ b) :
    Inv X pins σ H' { s with heap := h', gens := g', drawn := d', toks := t' } := by
  obtain ⟨m, ⟨o, es, ep, ho, r⟩, _⟩ := id I.loc
  obtain ⟨sl, hL⟩ := u.any ho I.free fun z => (hch _ z).2.1 rfl
  exact I.step (ch := ch) hch (fun b o hL hb hc e n => u.keep b o e n (fun z => (List.mem_cons.mp (I.stkSub b z)).elim hL hb) hc) (fun b o _ _ hc e n => u.any e n hc) (fun b o hc e n => u.free b o e n hc) (fun b o hc e => u.there b o e hc) u.tups u.frzs u.tbls (fun m' hm => by
    obtain ⟨o', es', ep', ho', r'⟩ := hm
    rw [ho] at ho'; cases ho'
    exact ⟨_, es', ep', hL, r'⟩) hok hg
theorem Inv.turned {t' : Nat} {it : Addr} (I : Inv X pins σ H s) (k : ∀ b o, b ≠ it → s.heap.get? b = some o → h'.get? b = some o) (hn : H it = none) (hL : it ≠ X.env.locals)
    (h1 : it ∈ X.ex ∨ X.s₀.heap.objs.size ≤ it) (h2 : ∀ x c, X.env.cells.lookup x = some c → c ≠ it) (h3 : ∀ p ∈ X.pn ++ pins, p.1 ≠ it) : Inv X pins σ H { s with heap := h', toks := t' } := by
  have nit : ∀ b u, H b = some u → b ≠ it := fun b u e z => by rw [z, hn] at e; cases e
  refine I.step (g' := s.gens) (d' := s.drawn) (ch := [it]) (fun b hb => ?_) (fun b o _ _ hc e _ => k b o (fun z => hc (by simp [z])) e) (fun b o _ _ hc e _ => ⟨o.slots, k b o (fun z => hc (by simp [z])) e⟩) (fun _ _ _ _ n => n)
    (fun b o hc e => ⟨o, k b o (fun z => hc (by simp [z])) e⟩) (fun _ _ e => e) (fun _ _ _ e => e) (fun b ps e => ⟨#[], by rw [e]; simp⟩) (fun m hm => ?_) (fun b u e => ?_) I.bare
  · have e : b = it := by simpa using hb
    subst e
    exact ⟨h1, hL, h2, h3⟩
  · obtain ⟨o, es, ep, ho, r⟩ := hm
    exact ⟨o, es, ep, k _ o (Ne.symm hL) ho, r⟩
  · refine (I.hok b u e).stay (fun c v hc q => k c v ?_ q) (fun _ q => q) fun _ _ q => q
    rcases hc with z | z
    · rw [z]; exact nit b u e
    · exact nit c _ z
theorem Inv.tok (I : Inv X pins σ H s) (t : Nat) : Inv X pins σ H { s with toks := t } := I.un (h' := s.heap) (t' := t) Un.refl I.hok
theorem Inv.kept {t' : Nat} (I : Inv X pins σ H s) (k : ∀ b u, s.heap.get? b = some u → h'.get? b = some u) : Inv X pins σ H { s with heap := h', toks := t' } := I.un (Un.kept k) (I.hok.kept k)
theorem Inv.laid {a : Addr} {o : HO} {t' : Nat} (I : Inv X pins σ H s) (k : ∀ b u, s.heap.get? b = some u → h'.get? b = some u) (hp : s.heap.objs.size ≤ a) (new : ObjOk X.prog X.w (upd H a o) h' a o) :
    Inv X pins σ (upd H a o) { s with heap := h', toks := t' } := I.un (Un.laid k hp (I.hok.fresh hp)) (I.hok.laid k hp new)
theorem Inv.write {x e : Addr} {o : HO} {t' : Nat} (I : Inv X pins σ H s) (mu : Mut (H x)) (he : e = x ∨ H e = some (.own x)) (k : ∀ b u, b ≠ e → s.heap.get? b = some u → h'.get? b = some u) (heo : ∃ u, h'.get? e = some u)
    (new : ObjOk X.prog X.w (upd H x o) h' x o) : Inv X pins σ (upd H x o) { s with heap := h', toks := t' } := I.un (Un.write mu he k heo) (I.hok.write mu he k heo new)
theorem Inv.pins_of {pins' : List (Addr × Obj)} (I : Inv X pins σ H s) (h : ∀ p ∈ pins', s.heap.get? p.1 = some p.2 ∧ H p.1 = none ∧ p.1 ≠ X.env.locals ∧ p.1 ∉ X.fs ∧ ∀ v, p.2.data ≠ .cell v) : Inv X pins' σ H s :=
  ⟨I.ok, I.os, I.bare, I.base, I.loc, I.cell, I.free, I.freeC, fun p hp => (List.mem_append.mp hp).elim (fun z => I.pin p (List.mem_append_left _ z)) (h p), I.hok, I.len⟩
theorem nodup_ix {N : List Str} (hN : N.Nodup) {i j : Nat} {x : Str} (a : N[i]? = some x) (b : N[j]? = some x) : i = j := by
  obtain ⟨h1, e1⟩ := List.getElem?_eq_some_iff.mp a
  obtain ⟨h2, e2⟩ := List.getElem?_eq_some_iff.mp b
  exact (List.getElem_inj hN).mp (e1.trans e2.symm)
theorem store_ok2 {M : Model} {A : Around} {E : Value → Shared → Prop} {i : Nat} {x : Str} {v : V} {u : Value} {Q : Unit → Shared → Prop} (I : Inv X pins σ H s) (hN : X.N.Nodup) (hi : X.N[i]? = some x) (hx : Loc X.env.scope x) (r : RelV v u)
    (h : ∀ s', Inv X pins (σ.set i (some v)) H s' → (∃ a, Heap.SameBut a s.heap s'.heap ∧ (a = X.env.locals ∨ X.env.cells.lookup x = some a)) → Q () s') (hf : X.fn x = true ∨ X.env.scope.names.lookup x = some .local := by first | exact .inl rfl | exact .inr rfl | assumption) : wpAny M A (storeName X.env x u) Q E s := by
  obtain ⟨m, hn, hl⟩ := id I.loc
  have hcls : (X.env.scope.kind == .class || (X.env.scope.kind == .module && X.env.locals != X.env.globals)) = false := by rw [I.ok.kind]; rfl
  have hiσ : i < σ.length := by rw [I.len]; exact (List.getElem?_eq_some_iff.mp hi).1
  have cne := I.cne
  have tracked : ∀ {a : Addr} {h' : Heap}, (∃ o, s.heap.get? a = some o ∧ H a = none) → Heap.SameBut a s.heap h' → HOk X.prog X.w H h' := fun {a h'} ha hs b ob e => by
    obtain ⟨_, _, hfree⟩ := ha
    refine (I.hok b ob e).stay (fun c w' hc q => (hs.2 c ?_).trans q) (fun _ q => q) fun _ _ q => q
    rintro rfl
    rcases hc with rfl | hc
    · rw [hfree] at e; cases e
    · rw [hfree] at hc; cases hc
  rcases hx with hk | hk
  · refine wpAny_storeName_local hk hn (fun h' hn' hs => ?_) hcls
    obtain ⟨oL, _, _, hoL, _⟩ := id hn
    refine h _ ⟨I.ok, I.os, I.bare, ⟨fun b o e n hb hx => ?_, fun b o e n hb hx => ?_, I.base.free, fun b o e hx => ?_, I.base.tups, I.base.frzs, I.base.tbls⟩, ⟨_, hn', fun j y v' e1 e2 e3 => ?_⟩, fun y c e => ?_, I.free, I.freeC, fun p hp => ?_, tracked ⟨oL, hoL, I.free⟩ hs, by simpa using I.len⟩ ⟨_, hs, .inl rfl⟩
    · exact (hs.2 b (Nat.ne_of_lt (Nat.lt_of_lt_of_le (Heap.lt_size e) I.ok.above))).trans (I.base.keep b o e n hb hx)
    · obtain ⟨sl, e1⟩ := I.base.slot b o e n hb hx
      exact ⟨sl, (hs.2 b (Nat.ne_of_lt (Nat.lt_of_lt_of_le (Heap.lt_size e) I.ok.above))).trans e1⟩
    · obtain ⟨o', e1⟩ := I.base.there b o e hx
      exact ⟨o', (hs.2 b (Nat.ne_of_lt (Nat.lt_of_lt_of_le (Heap.lt_size e) I.ok.above))).trans e1⟩
    · by_cases hj : j = i
      · subst hj
        rw [hi] at e1; cases e1
        rw [List.getElem?_set_self hiσ] at e2
        cases e2
        exact ⟨u, r, .inl ⟨hk, by simp⟩⟩
      · rw [List.getElem?_set_ne (Ne.symm hj)] at e2
        obtain ⟨u', r', q⟩ := hl j y v' e1 e2 e3
        refine ⟨u', r', ?_⟩
        rcases q with ⟨k, e⟩ | ⟨k, c, e, z⟩
        · refine .inl ⟨k, ?_⟩
          have : y ≠ x := fun e => hj (nodup_ix hN e1 (e ▸ hi))
          simp [this, e]
        · exact .inr ⟨k, c, e, z.sameBut hs (cne y c e)⟩
    · obtain ⟨w', z⟩ := I.cell y c e
      exact ⟨w', z.sameBut hs (cne y c e)⟩
    · obtain ⟨e, n, ne, nf, d⟩ := I.pin p hp
      exact ⟨(hs.2 p.1 ne).trans e, n, ne, nf, d⟩
  · have hfn : X.fn x = true := by
      rcases hf with z | z
      · exact z
      · rw [z] at hk; cases hk
    obtain ⟨c, hc⟩ := I.ok.has x (.inl hk)
    obtain ⟨w', z⟩ := I.cell x c hc
    refine wpAny_storeName_cell I.ok.kind hk hc z (fun h' hc' hs => ?_)
    obtain ⟨oc, hoc, hocd⟩ := id z
    refine h { s with heap := h' } ⟨I.ok, I.os, I.bare, ⟨fun b o e n hb hx => ?_, fun b o e n hb hx => ?_, I.base.free, fun b o e hx => ?_, I.base.tups, I.base.frzs, I.base.tbls⟩, ⟨m, hn.sameBut hs (Ne.symm (cne x c hc)), fun j y v' e1 e2 e3 => ?_⟩, fun y c' e => ?_, I.free, I.freeC, fun p hp => ?_, tracked ⟨oc, hoc, I.freeC x c hc⟩ hs, by simpa using I.len⟩ ⟨c, hs, .inr hc⟩
    · exact (hs.2 b (Nat.ne_of_lt (Nat.lt_of_lt_of_le (Heap.lt_size e) (I.ok.cab x c hfn hc)))).trans (I.base.keep b o e n hb hx)
    · obtain ⟨sl, e1⟩ := I.base.slot b o e n hb hx
      exact ⟨sl, (hs.2 b (Nat.ne_of_lt (Nat.lt_of_lt_of_le (Heap.lt_size e) (I.ok.cab x c hfn hc)))).trans e1⟩
    · obtain ⟨o', e1⟩ := I.base.there b o e hx
      exact ⟨o', (hs.2 b (Nat.ne_of_lt (Nat.lt_of_lt_of_le (Heap.lt_size e) (I.ok.cab x c hfn hc)))).trans e1⟩
    · by_cases hj : j = i
      · subst hj
        rw [hi] at e1; cases e1
        rw [List.getElem?_set_self hiσ] at e2
        cases e2
        exact ⟨u, r, .inr ⟨.inl hk, c, hc, hc'⟩⟩
      · rw [List.getElem?_set_ne (Ne.symm hj)] at e2
        obtain ⟨u', r', q⟩ := hl j y v' e1 e2 e3
        refine ⟨u', r', ?_⟩
        rcases q with q | ⟨k, c', e, z'⟩
        · exact .inl q
        · refine .inr ⟨k, c', e, z'.sameBut hs ?_⟩
          rintro rfl
          exact hj (nodup_ix hN e1 (I.ok.inj _ _ _ e hc ▸ hi))
    · by_cases hcc : c' = c
      · subst hcc; exact ⟨_, hc'⟩
      · obtain ⟨w2, z2⟩ := I.cell y c' e
        exact ⟨w2, z2.sameBut hs hcc⟩
    · obtain ⟨e, n, ne, nf, d⟩ := I.pin p hp
      refine ⟨(hs.2 p.1 ?_).trans e, n, ne, nf, d⟩
      intro q
      rw [q, hoc] at e
      have q' : oc = p.2 := Option.some.inj e
      exact d w' (by rw [← q']; exact hocd)
theorem store_ok {M : Model} {A : Around} {E : Value → Shared → Prop} {i : Nat} {x : Str} {v : V} {u : Value} {Q : Unit → Shared → Prop} (I : Inv X pins σ H s) (hN : X.N.Nodup) (hi : X.N[i]? = some x) (hx : Loc X.env.scope x) (r : RelV v u)
    (h : ∀ s', Inv X pins (σ.set i (some v)) H s' → Q () s') (hf : X.fn x = true ∨ X.env.scope.names.lookup x = some .local := by first | exact .inl rfl | exact .inr rfl | assumption) : wpAny M A (storeName X.env x u) Q E s :=
  store_ok2 I hN hi hx r (fun s' I' _ => h s' I') hf
theorem Inv.call' {s' : Shared} {ch : List Addr} (I : Inv X pins σ H s) (ho : s'.os = s.os) (u : Un (frs X.stack) ch H H' s.heap s'.heap) (hok : HOk X.prog X.w H' s'.heap) (hg : AllBare s'.gens)
    (hch : ∀ b ∈ ch, (b ∈ X.ex ∨ X.s₀.heap.objs.size ≤ b) ∧ b ≠ X.env.locals ∧ (∀ x c, X.env.cells.lookup x = some c → c ≠ b) ∧ ∀ p ∈ X.pn ++ pins, p.1 ≠ b) : Inv X pins σ H' s' := by
  obtain ⟨h', g', d', t', o'⟩ := s'
  have e : o' = s.os := ho
  subst e
  exact I.call (g' := g') (t' := t') (d' := d') u hok hg hch
end
abbrev XK := Value → Option Addr → Hp → Prop
abbrev St := List (Option V)
abbrev VK := V → Hp → Prop
abbrev TE := St → Hp → VK → Prop
abbrev TT := St → Hp → (Bool → Hp → Prop) → Prop
abbrev TA := St → Hp → (List V → Hp → Prop) → Prop
structure Ends where
  nx : St → Hp → Prop
  rt : VK
  bk : St → Hp → Prop := fun _ _ => False
  ct : St → Hp → Prop := fun _ _ => False
abbrev TS := Ends → St → Hp → Prop
def EP (X : Cx) (pins : List (Addr × Obj)) (σ : St) (Q : VK) (u : Value) (s' : Shared) : Prop := ∃ v H', Inv X pins σ H' s' ∧ RelV v u ∧ Q v H'
def TP (X : Cx) (pins : List (Addr × Obj)) (σ : St) (Q : Bool → Hp → Prop) (b : Bool) (s' : Shared) : Prop := ∃ H', Inv X pins σ H' s' ∧ Q b H'
def AP (X : Cx) (pins : List (Addr × Obj)) (σ : St) (Q : List V → Hp → Prop) (us : List Value) (s' : Shared) : Prop := ∃ vs H', Inv X pins σ H' s' ∧ Vals vs us ∧ Q vs H'
def SP (X : Cx) (pins : List (Addr × Obj)) (D : Ends) (f : Flow) (s' : Shared) : Prop :=
  match f with
  | .next => ∃ σ' H', Inv X pins σ' H' s' ∧ D.nx σ' H'
  | .brk => ∃ σ' H', Inv X pins σ' H' s' ∧ D.bk σ' H'
  | .cont => ∃ σ' H', Inv X pins σ' H' s' ∧ D.ct σ' H'
  | .ret u => ∃ v σ' H', Inv X pins σ' H' s' ∧ RelV v u ∧ D.rt v H'
def PE (X : Cx) (e : Expr) (t : TE) : Prop :=
  ∀ (pins : List (Addr × Obj)) (s : Shared) (σ : St) (H : Hp) (Q : VK), Inv X pins σ H s → t σ H Q → wpAny (model X.prog X.w) X.A (eval e X.env) (EP X pins σ Q) X.xe s
def PT (X : Cx) (e : Expr) (t : TT) : Prop :=
  ∀ (pins : List (Addr × Obj)) (s : Shared) (σ : St) (H : Hp) (Q : Bool → Hp → Prop), Inv X pins σ H s → t σ H Q → wpAny (model X.prog X.w) X.A (isTrue e X.env (eval e X.env)) (TP X pins σ Q) X.xe s
def PW (X : Cx) (e : Expr) (t : TT) : Prop :=
  ∀ (whole : Sem Value) (pins : List (Addr × Obj)) (s : Shared) (σ : St) (H : Hp) (Q : Bool → Hp → Prop), Inv X pins σ H s → t σ H Q → wpAny (model X.prog X.w) X.A (isTrue e X.env whole) (TP X pins σ Q) X.xe s
theorem PW.pt {X : Cx} {e : Expr} {t : TT} (h : PW X e t) : PT X e t := h _
def PA (X : Cx) (es : List Expr) (t : TA) : Prop :=
  ∀ (pos : Pos) (pins : List (Addr × Obj)) (s : Shared) (σ : St) (H : Hp) (Q : List V → Hp → Prop), Inv X pins σ H s → t σ H Q → wpAny (model X.prog X.w) X.A (spliced (backTo pos (starEach es X.env))) (AP X pins σ Q) X.xe s
def PS (X : Cx) (st : Stmt) (t : TS) : Prop :=
  ∀ (pins : List (Addr × Obj)) (s : Shared) (σ : St) (H : Hp) (D : Ends), Inv X pins σ H s → t D σ H → wpAny (model X.prog X.w) X.A (exec st X.env) (SP X pins D) X.xe s
def PSs (X : Cx) (st : List Stmt) (t : TS) : Prop :=
  ∀ (pins : List (Addr × Obj)) (s : Shared) (σ : St) (H : Hp) (D : Ends), Inv X pins σ H s → t D σ H → wpAny (model X.prog X.w) X.A (execs st X.env) (SP X pins D) X.xe s
theorem thn {α : Type} {t : Sem α} {Q Q' : α → Shared → Prop} {M : Model} {A : Around} {E : Value → Shared → Prop} {s : Shared} (h : wpAny M A t Q E s) (hQ : ∀ a s, Q a s → Q' a s) : wpAny M A t Q' E s := wpAny_mono h hQ fun _ _ x => x
end L2
namespace L2
open PySem PySem.Spec PyProof.Rows
section
variable {X : Cx}
def tVar (i : Nat) : TE := fun σ H Q => ∃ v, σ[i]? = some (some v) ∧ Q v H
def tC (v : V) : TE := fun _ H Q => Q v H
theorem pe_var {i : Nat} {x : Str} {pos : Pos} (hN : X.N[i]? = some x) (hv : Vis X.env.scope x) (hd : (x == ("__debug__" : Str)) = false := by decide) (hcd : (x == ("__classdict__" : Str)) = false := by decide) : PE X (.Name x pos) (tVar i) := by
  intro pins s σ H Q I h
  obtain ⟨v, e, h⟩ := h
  obtain ⟨m, hn, hl⟩ := I.loc
  obtain ⟨u, r, l⟩ := hl i x v hN e hv
  have fin : EP X pins σ Q u s := ⟨v, H, I, r, h⟩
  rcases l with ⟨hk, hm⟩ | ⟨hk, c, hc, hcell⟩
  · exact wpAny_Name (wpAny_loadName_local I.ok.kind hk hn hm fin) hd
  · rcases hk with hk | hk
    · exact wpAny_Name (wpAny_loadName_cell I.ok.kind hk hc hcell fin) hd
    · exact wpAny_Name (wpAny_loadName_free I.ok.kind hk hc hcell fin hcd) hd
theorem pe_int {i j pos} : PE X (.Constant (.int i) j pos) (tC (.int i)) := fun _ _ _ H _ I h => wpAny_Constant_int ⟨.int i, H, I.tok _, ⟨_, rfl⟩, h⟩
theorem pe_bl {b j pos} : PE X (.Constant (.bool b) j pos) (tC (.bl b)) := fun _ _ _ H _ I h => Constant_bool ⟨.bl b, H, I, rfl, h⟩
theorem pe_non {j pos} : PE X (.Constant .none j pos) (tC .non) := fun _ _ _ H _ I h => Constant_none ⟨.non, H, I, rfl, h⟩
theorem pe_str {x j pos} : PE X (.Constant (.str x) j pos) (tC (.str x)) := fun _ _ _ H _ I h => Calls.Constant_str ⟨.str x, H, I.tok _, ⟨_, rfl⟩, h⟩
def Gl (X : Cx) (x : Str) : Prop := X.env.kindOf x = some .globalImplicit
theorem ld_glob {E : Value → Shared → Prop} {pins : List (Addr × Obj)} {s : Shared} {σ : St} {H : Hp} {x : Str} {u : Value} {pos : Pos} {Q : Value → Shared → Prop} (I : Inv X pins σ H s) (hg : Gl X x) (hm : X.mg x = some u) (h : Q u s)
    (hd : (x == ("__debug__" : Str)) = false := by decide) : wpAny (model X.prog X.w) X.A (eval (.Name x pos) X.env) Q E s :=
  Calls.Name_function_global I.ok.kind hg (Calls.loadGlobal_global (by rw [I.ok.glob]; exact I.mod.glob.keeps I.bk) hm h) hd
theorem ld_blt {E : Value → Shared → Prop} {pins : List (Addr × Obj)} {s : Shared} {σ : St} {H : Hp} {x : Str} {u : Value} {pos : Pos} {Q : Value → Shared → Prop} (I : Inv X pins σ H s) (hg : Gl X x) (hm : X.mg x = none) (hv : bootBuiltins x = some u) (h : Q u s)
    (hn : x ≠ "__name__" := by decide) (hd : (x == ("__debug__" : Str)) = false := by decide) : wpAny (model X.prog X.w) X.A (eval (.Name x pos) X.env) Q E s := by
  obtain ⟨mb, h1, h2⟩ := I.mod.blt
  exact Calls.Name_function_global I.ok.kind hg (Calls.loadGlobal_builtin (by rw [I.ok.glob]; exact I.mod.glob.keeps I.bk) hm (by rw [I.ok.blt]; exact h1.keeps I.bk) ((h2 x hn).trans hv) h) hd
theorem pe_glob {x : Str} {v : V} {u : Value} {pos : Pos} (hg : Gl X x) (hm : X.mg x = some u) (r : RelV v u) (hd : (x == ("__debug__" : Str)) = false := by decide) : PE X (.Name x pos) (tC v) :=
  fun _ _ _ H _ I h => ld_glob I hg hm ⟨v, H, I, r, h⟩ hd
theorem pe_bltn {x : Str} {v : V} {u : Value} {pos : Pos} (hg : Gl X x) (hm : X.mg x = none) (hv : bootBuiltins x = some u) (r : RelV v u) (hn : x ≠ "__name__" := by decide) (hd : (x == ("__debug__" : Str)) = false := by decide) : PE X (.Name x pos) (tC v) :=
  fun _ _ _ H _ I h => ld_blt I hg hm hv ⟨v, H, I, r, h⟩ hn hd
variable {a b : Expr} {ta tb : TE} {pos : Pos}
def tB (t : TE) : TT := fun σ H Q => t σ H fun x H1 => ∃ c, x = .bl c ∧ Q c H1
theorem pt_val {e : Expr} {t : TE} (h : PE X e t) (he : ∀ whole, isTrue e X.env whole = (do let v ← whole; standAt e.pos; holding [v] (truthy v)) := by intro _; rfl) : PT X e (tB t) := by
  intro pins s σ H Q I hw
  refine isTrue_plain (thn (h pins s σ H _ I hw) fun v s1 ⟨x, H1, I1, r1, q1⟩ => ?_) (he _)
  obtain ⟨d, rfl, q⟩ := q1
  cases r1
  exact wpAny_truthy_bool ⟨H1, I1, q⟩
variable {tA tB' : TT} {rest : List Expr}
def tOr (t u : TT) : TT := fun σ H Q => t σ H fun c H1 => if c = true then Q true H1 else u σ H1 Q
def tNot (t : TT) : TT := fun σ H Q => t σ H fun c H1 => Q (!c) H1
theorem pw_or1 (ha : PT X a tA) : PW X (.BoolOp .Or [a] pos) tA := by
  intro wh pins s σ H Q I h
  refine isTrue_or (thn (ha pins s σ H Q I h) fun c s1 e => ?_)
  cases c with
  | false => exact isTrue_or_nil e
  | true => exact e
theorem pw_or (ha : PT X a tA) (hb : PW X (.BoolOp .Or (b :: rest) pos) tB') : PW X (.BoolOp .Or (a :: b :: rest) pos) (tOr tA tB') := by
  intro wh pins s σ H Q I h
  refine isTrue_or (thn (ha pins s σ H _ I h) fun c s1 ⟨H1, I1, q1⟩ => ?_)
  cases c with
  | true => exact ⟨H1, I1, q1⟩
  | false => exact hb wh pins s1 σ H1 Q I1 q1
theorem pt_not (ha : PT X a tA) : PT X (.UnaryOp .Not a pos) (tNot tA) := by
  intro pins s σ H Q I h
  exact isTrue_not (ha pins s σ H (fun c H1 => Q (!c) H1) I h)
def tAndV (ta tb : TE) : TE := fun σ H Q => ta σ H fun x H1 => ∃ c, x = .bl c ∧ if c = true then tb σ H1 Q else Q (.bl false) H1
def tNotV (ta : TE) : TE := fun σ H Q => ta σ H fun x H1 => ∃ c, x = .bl c ∧ Q (.bl (!c)) H1
theorem pe_one {op} {t : TE} (h : PE X a t) : PE X (.BoolOp op [a] pos) t := fun pins s σ H Q I hw => BoolOp_one (h pins s σ H Q I hw)
theorem pe_and (ha : PE X a ta) (hb : PE X (.BoolOp .And (b :: rest) pos) tb) : PE X (.BoolOp .And (a :: b :: rest) pos) (tAndV ta tb) := by
  intro pins s σ H Q I h
  refine BoolOp_and (thn (ha pins s σ H _ I h) fun v s1 ⟨x, H1, I1, r1, q1⟩ => ?_)
  obtain ⟨c, rfl, q1⟩ := q1
  cases r1
  refine wpAny_truthy_bool ?_
  cases c with
  | true => exact hb pins s1 σ H1 Q I1 q1
  | false => exact ⟨.bl false, H1, I1, rfl, q1⟩
theorem pe_not (ha : PE X a ta) : PE X (.UnaryOp .Not a pos) (tNotV ta) := by
  intro pins s σ H Q I h
  refine UnaryOp_ (thn (ha pins s σ H _ I h) fun v s1 ⟨x, H1, I1, r1, q1⟩ => ?_)
  obtain ⟨c, rfl, q1⟩ := q1
  cases r1
  exact not_of (wpAny_truthy_bool ⟨.bl (!c), H1, I1, rfl, q1⟩)
end
end L2
namespace L2
open PySem PySem.Spec PyProof.Rows
def SqL (K : PySem.W.Frag) (H : Hp) (a : Addr) (xs : List V) : Prop :=
  Rd H a (.lst xs) ∨
    ∃ (o : Obj) (its : Array Value) (n : Nat), K.lookup a = some o ∧ o.cls = .type "list" ∧ o.dict = none ∧ o.data = .seq its n ∧ its.size ≤ sizeLine ∧ Vals xs its.toList
def SqT (K : PySem.W.Frag) (H : Hp) (a : Addr) (xs : List V) : Prop :=
  Rd H a (.tup xs) ∨
    ∃ (o : Obj) (its : Array Value) (n : Nat), K.lookup a = some o ∧ o.cls = .type "tuple" ∧ o.data = .seq its n ∧ its.size ≤ sizeLine ∧ Vals xs its.toList
def absV : Value → Option V
  | .none => some .non
  | .bool b => some (.bl b)
  | .int i _ => some (.int i)
  | .str x _ => some (.str x)
  | .bytes b _ => some (.byt b)
  | .float b _ => some (.flt b)
  | .ref a => some (.ref a)
  | .type n => some (.ty n)
  | _ => none
theorem RelV.abs {x : V} {u : Value} (r : RelV x u) : absV u = some x := by
  cases x with
  | non => cases r; rfl
  | bl _ => cases r; rfl
  | int _ => obtain ⟨t, rfl⟩ := r; rfl
  | str _ => obtain ⟨t, rfl⟩ := r; rfl
  | byt _ => obtain ⟨t, rfl⟩ := r; rfl
  | flt _ => obtain ⟨t, rfl⟩ := r; rfl
  | ref _ => cases r; rfl
  | ty _ => cases r; rfl
theorem RelV.inj {x y : V} {u : Value} (r : RelV x u) (q : RelV y u) : x = y := Option.some.inj (r.abs.symm.trans q.abs)
theorem Vals.inj : ∀ {xs ys : List V} {us : List Value}, Vals xs us → Vals ys us → xs = ys
  | _, _, _, .nil, .nil => rfl
  | _, _, _, .cons r t, .cons r' t' => by rw [r.inj r', Vals.inj t t']
section
variable {X : Cx} {pins : List (Addr × Obj)} {σ : St} {H : Hp} {s : Shared} {a : Addr} {xs ys : List V}
theorem SqL.of {K : PySem.W.Frag} (h : H a = some (.lst xs)) : SqL K H a xs := .inl (.inl h)
theorem SqT.of {K : PySem.W.Frag} (h : H a = some (.tup xs)) : SqT K H a xs := .inl (.inl h)
theorem Inv.list (I : Inv X pins σ H s) (h : SqL X.K H a xs) : ∃ its : List Value, Vals xs its ∧ PlainL s.heap a its.toArray ∧ xs.length ≤ sizeLine := by
  rcases h with h | ⟨o, its, n, hk, hc, hd, hs, hz, r⟩
  · obtain ⟨z, its, n, r, e⟩ := h.ok I.hok
    exact ⟨its, r, ⟨_, n, e, rfl, rfl, rfl⟩, z⟩
  · refine ⟨its.toList, r, ⟨o, n, I.kIn a o hk, hc, hd, by simpa using hs⟩, ?_⟩
    have e := r.length
    simp only [Array.length_toList] at e
    omega
theorem Inv.tuple (I : Inv X pins σ H s) (h : SqT X.K H a xs) : ∃ its : List Value, Vals xs its ∧ IsTup s.heap a its.toArray ∧ xs.length ≤ sizeLine := by
  rcases h with h | ⟨o, its, n, hk, hc, hs, hz, r⟩
  · obtain ⟨z, its, r, p⟩ := h.ok I.hok
    exact ⟨its, r, p, z⟩
  · refine ⟨its.toList, r, ⟨o, I.kIn a o hk, hc, n, by simpa using hs⟩, ?_⟩
    have e := r.length
    simp only [Array.length_toList] at e
    omega
theorem Inv.list_inj (I : Inv X pins σ H s) (h : SqL X.K H a xs) (h' : SqL X.K H a ys) : xs = ys := by
  obtain ⟨its, r, ⟨o, n, e, _, _, d⟩, _⟩ := I.list h
  obtain ⟨its', r', ⟨o', n', e', _, _, d'⟩, _⟩ := I.list h'
  rw [e] at e'; cases e'
  rw [d] at d'
  injection d' with d1 _
  have : its = its' := by simpa using congrArg Array.toList d1
  subst this
  exact r.inj r'
theorem Inv.tuple_inj (I : Inv X pins σ H s) (h : SqT X.K H a xs) (h' : SqT X.K H a ys) : xs = ys := by
  obtain ⟨its, r, ⟨o, e, _, n, d⟩, _⟩ := I.tuple h
  obtain ⟨its', r', ⟨o', e', _, n', d'⟩, _⟩ := I.tuple h'
  rw [e] at e'; cases e'
  rw [d] at d'
  injection d' with d1 _
  have : its = its' := by simpa using congrArg Array.toList d1
  subst this
  exact r.inj r'
end
abbrev Cx.wish (X : Cx) (E : Value → Shared → Prop) : Cx := { X with xe := E }
abbrev Cx.nox (X : Cx) : Cx := X.wish fun _ _ => False
theorem Cx.Ok.wish {X : Cx} (ok : X.Ok) (E : Value → Shared → Prop) : (X.wish E).Ok :=
  ⟨ok.mod, ok.kind, ok.glob, ok.blt, ok.above, ok.inj, ok.has, ok.cab, ok.hd, ok.frames, ok.stk, ok.exf, ok.bs, ok.bsz, ok.noex, ok.exfs, ok.funs, ok.frf⟩
theorem Cx.Ok.unwish {X : Cx} {E : Value → Shared → Prop} (ok : (X.wish E).Ok) : X.Ok :=
  ⟨ok.mod, ok.kind, ok.glob, ok.blt, ok.above, ok.inj, ok.has, ok.cab, ok.hd, ok.frames, ok.stk, ok.exf, ok.bs, ok.bsz, ok.noex, ok.exfs, ok.funs, ok.frf⟩
section
variable {X : Cx} {pins : List (Addr × Obj)} {σ : St} {H : Hp} {s : Shared} {E : Value → Shared → Prop}
theorem Inv.wish (I : Inv X pins σ H s) (E : Value → Shared → Prop) : Inv (X.wish E) pins σ H s := ⟨I.ok.wish E, I.os, I.bare, I.base, I.loc, I.cell, I.free, I.freeC, I.pin, I.hok, I.len⟩
theorem Inv.unwish (I : Inv (X.wish E) pins σ H s) : Inv X pins σ H s := ⟨I.ok.unwish, I.os, I.bare, I.base, I.loc, I.cell, I.free, I.freeC, I.pin, I.hok, I.len⟩
theorem SP.unwish {D : Ends} {f : Flow} {s' : Shared} (h : SP (X.wish E) pins D f s') : SP X pins D f s' := by
  cases f with
  | next => obtain ⟨σ', H', I, q⟩ := h; exact ⟨σ', H', I.unwish, q⟩
  | brk => obtain ⟨σ', H', I, q⟩ := h; exact ⟨σ', H', I.unwish, q⟩
  | cont => obtain ⟨σ', H', I, q⟩ := h; exact ⟨σ', H', I.unwish, q⟩
  | ret u => obtain ⟨v, σ', H', I, r, q⟩ := h; exact ⟨v, σ', H', I.unwish, r, q⟩
theorem PE.nox {e : Expr} {t : TE} (h : PE X.nox e t) : PE X e t := fun pins s σ H Q I hw =>
  wpAny_mono (h pins s σ H Q (I.wish _) hw) (fun _ _ ⟨v, H', I', r, q⟩ => ⟨v, H', I'.unwish, r, q⟩) fun _ _ z => False.elim z
theorem PT.nox {e : Expr} {t : TT} (h : PT X.nox e t) : PT X e t := fun pins s σ H Q I hw =>
  wpAny_mono (h pins s σ H Q (I.wish _) hw) (fun _ _ ⟨H', I', q⟩ => ⟨H', I'.unwish, q⟩) fun _ _ z => False.elim z
theorem PSs.nox {st : List Stmt} {t : TS} (h : PSs X.nox st t) : PSs X st t := fun pins s σ H D I hw =>
  wpAny_mono (h pins s σ H D (I.wish _) hw) (fun _ _ q => q.unwish) fun _ _ z => False.elim z
end
section
variable {X : Cx} {st : Stmt} {rest : List Stmt} {t u : TS} {e : Expr} {te : TE} {pos : Pos}
def tNext : TS := fun D σ H => D.nx σ H
def tSeq (t u : TS) : TS := fun D σ H => t { D with nx := u D } σ H
theorem pss_nil : PSs X [] tNext := fun _ _ σ H _ I h => wpAny_execs_nil ⟨σ, H, I, h⟩
theorem pss_cons (h1 : PS X st t) (h2 : PSs X rest u) : PSs X (st :: rest) (tSeq t u) := by
  intro pins s σ H D I h
  refine wpAny_execs_cons (thn (h1 pins s σ H { D with nx := u D } I h) fun f s1 q => ?_)
  cases f with
  | next =>
    obtain ⟨σ', H', I', q⟩ := q
    exact h2 pins s1 σ' H' D I' q
  | ret v => exact q
  | brk => exact q
  | cont => exact q
theorem pss_one (h1 : PS X st t) : PSs X [st] t := by
  intro pins s σ H D I h
  refine wpAny_execs_cons (thn (h1 pins s σ H D I h) fun f s1 q => ?_)
  cases f with
  | next => exact wpAny_execs_nil q
  | ret v => exact q
  | brk => exact q
  | cont => exact q
theorem Inv.quiet {pins : List (Addr × Obj)} {σ : St} {H : Hp} {s : Shared} (I : Inv X pins σ H s) : interactive X.env = false := by simp [interactive, I.ok.kind]
def tDrop (te : TE) : TS := fun D σ H => te σ H fun _ H1 => D.nx σ H1
theorem ps_expr (he : PE X e te) (hs : swapsWith e none pos.line X.env = pure false := by rfl) : PS X (.Expr e pos) (tDrop te) := by
  intro pins s σ H D I h
  exact wpAny_Expr_any (thn (he pins s σ H _ I h) fun v s1 ⟨x, H1, I1, r1, q1⟩ => ⟨σ, H1, I1, q1⟩) I.quiet hs
def tRet (te : TE) : TS := fun D σ H => te σ H D.rt
theorem ps_ret (he : PE X e te) : PS X (.Return (some e) pos) (tRet te) := by
  intro pins s σ H D I h
  exact wpAny_Return_some (thn (he pins s σ H _ I h) fun v s1 ⟨x, H1, I1, r1, q1⟩ => ⟨x, σ, H1, I1, r1, q1⟩)
def tIfS (c : TT) (t u : TS) : TS := fun D σ H => c σ H fun b H1 => if b = true then t D σ H1 else u D σ H1
theorem ps_if {c : Expr} {a b : List Stmt} {tc : TT} (hc : PT X c tc) (ha : PSs X a t) (hb : PSs X b u) : PS X (.If c a b pos) (tIfS tc t u) := by
  intro pins s σ H D I h
  refine wpAny_If (thn (hc pins s σ H _ I h) fun d s1 ⟨H1, I1, q1⟩ => ?_)
  cases d with
  | true => exact ha pins s1 σ H1 D I1 q1
  | false => exact hb pins s1 σ H1 D I1 q1
end
abbrev TG := V → St → Hp → (St → Hp → Prop) → Prop
abbrev TGs := List V → St → Hp → (St → Hp → Prop) → Prop
def PG (X : Cx) (target : Expr) (t : TG) : Prop :=
  ∀ (pins : List (Addr × Obj)) (s : Shared) (σ : St) (H : Hp) (v : V) (u : Value) (Q : St → Hp → Prop), Inv X pins σ H s → RelV v u → t v σ H Q →
    wpAny (model X.prog X.w) X.A (assign target X.env u) (fun _ s' => ∃ σ' H', Inv X pins σ' H' s' ∧ Q σ' H') X.xe s
def PGs (X : Cx) (ts : List Expr) (t : TGs) : Prop :=
  ∀ (pins : List (Addr × Obj)) (s : Shared) (σ : St) (H : Hp) (vs : List V) (us : List Value) (Q : St → Hp → Prop), Inv X pins σ H s → Vals vs us → t vs σ H Q →
    wpAny (model X.prog X.w) X.A (assignInOrder ((assignEach ts X.env).map (·.2)) us) (fun _ s' => ∃ σ' H', Inv X pins σ' H' s' ∧ Q σ' H') X.xe s
section
variable {X : Cx} {pos : Pos}
def gName (i : Nat) : TG := fun v σ H Q => Q (σ.set i (some v)) H
theorem pg_name {i : Nat} {x : Str} (hN : X.N.Nodup) (hi : X.N[i]? = some x) (hx : Loc X.env.scope x) (hf : X.fn x = true ∨ X.env.scope.names.lookup x = some .local := by first | exact .inl rfl | exact .inr rfl | assumption) : PG X (.Name x pos) (gName i) := by
  intro pins s σ H v u Q I r h
  exact wpAny_assign_Name (store_ok I hN hi hx r (fun s' I' => ⟨_, H, I', h⟩) hf)
def gNil : TGs := fun vs σ H Q => vs = [] ∧ Q σ H
def gCons (t : TG) (u : TGs) : TGs := fun vs σ H Q => ∃ v r, vs = v :: r ∧ t v σ H fun σ' H' => u r σ' H' Q
theorem pgs_nil : PGs X [] gNil := by
  intro pins s σ H vs us Q I r h
  obtain ⟨e, h⟩ := h
  subst e
  cases r
  exact assignInOrder_nil ⟨σ, H, I, h⟩
theorem pgs_cons {e : Expr} {es : List Expr} {t : TG} {u : TGs} (h1 : PG X e t) (h2 : PGs X es u)
    (hs : (assignEach (e :: es) X.env).map (·.2) = assign e X.env :: (assignEach es X.env).map (·.2) := by rfl) : PGs X (e :: es) (gCons t u) := by
  intro pins s σ H vs us Q I r h
  obtain ⟨v, vr, e1, h⟩ := h
  subst e1
  cases r with
  | cons r rr =>
    rw [hs]
    refine assignInOrder_cons (thn (h1 pins s σ H _ _ _ I r h) fun _ s1 ⟨σ1, H1, I1, q1⟩ => ?_)
    exact h2 pins s1 σ1 H1 _ _ Q I1 rr q1
def gTup (K : PySem.W.Frag) (n : Nat) (t : TGs) : TG := fun v σ H Q => ∃ a xs, v = .ref a ∧ SqT K H a xs ∧ xs.length = n ∧ t xs σ H Q
theorem pg_tup {es : List Expr} {k : Nat} {t : TGs} {n : Nat} (hc : X.calm = true) (h : PGs X es t)
    (hn : (assignEach es X.env).length = n := by rfl) (hst : (assignEach es X.env).findIdx? (·.1) = none := by rfl) : PG X (.Tuple es k pos) (gTup X.K n t) := by
  intro pins s σ H v u Q I r hw
  obtain ⟨a, xs, e1, hq, hl, hw⟩ := hw
  subst e1
  cases r
  obtain ⟨its, rv, ht, hz⟩ := I.tuple hq
  refine assign_Tuple_tuple (I.ok.hd hc) ht (by simp [hn, ← hl, rv.length]) hst fun h' hx => ?_
  have I1 : Inv X pins σ H { s with heap := h' } := I.kept (t' := s.toks) fun b o e => hx b o (Nat.ne_of_lt (Heap.lt_size e)) e
  exact h pins _ σ H xs _ Q I1 (by simpa using rv) hw
def tAsg (te : TE) (g : TG) : TS := fun D σ H => te σ H fun x H1 => g x σ H1 D.nx
theorem ps_asg {tg e : Expr} {te : TE} {g : TG} (he : PE X e te) (hg : PG X tg g) (hs : swapsWithSole [tg] e pos.line X.env = pure false := by rfl) (hw : swappedStores [tg] e X.env = pure none := by rfl)
    (h1 : (assignEach [tg] X.env).map (·.2) = [assign tg X.env] := by rfl) : PS X (.Assign [tg] e pos) (tAsg te g) := by
  intro pins s σ H D I h
  refine wpAny_Assign_stores (thn (he pins s σ H _ I h) fun v s1 ⟨x, H1, I1, r1, q1⟩ => ?_) hs hw
  rw [h1]
  exact thn (hg pins s1 σ H1 x v _ I1 r1 q1) fun _ s2 q => q
theorem ps_set {i : Nat} {x : Str} {e : Expr} {te : TE} {pos' : Pos} (hN : X.N.Nodup) (hi : X.N[i]? = some x) (hx : Loc X.env.scope x) (he : PE X e te) (hs : swapsWith e (some (.Name x pos')) pos.line X.env = pure false := by rfl) (hf : X.fn x = true ∨ X.env.scope.names.lookup x = some .local := by first | exact .inl rfl | exact .inr rfl | assumption) :
    PS X (.Assign [.Name x pos'] e pos) (tAsg te (gName i)) := by
  intro pins s σ H D I h
  refine wpAny_Assign_Name (thn (he pins s σ H _ I h) fun v s1 ⟨y, H1, I1, r1, q1⟩ => ?_) hs
  exact store_ok I1 hN hi hx r1 (fun s2 I2 => ⟨_, H1, I2, q1⟩) hf
end
section
variable {X : Cx} {pos : Pos}
end
structure It where
  go : Nat → Hp → Prop
  yld : Nat → Hp → V → Hp → Prop
  stop : Nat → Hp → Prop
def FpOk (X : Cx) (pins : List (Addr × Obj)) (H : Hp) (b : Addr) : Prop :=
  H b = none ∧ b ≠ X.env.locals ∧ b ∉ X.fs ∧ (b ∈ X.ex ∨ X.s₀.heap.objs.size ≤ b) ∧ (∀ x c, X.env.cells.lookup x = some c → c ≠ b) ∧ ∀ p ∈ X.pn ++ pins, p.1 ≠ b
theorem Inv.fpOk {X : Cx} {pins : List (Addr × Obj)} {σ : St} {H H' : Hp} {s : Shared} {b : Addr} (I : Inv X pins σ H s) (hb : s.heap.objs.size ≤ b) (hn : H' b = none) : FpOk X pins H' b := by
  refine ⟨hn, Nat.ne_of_gt (Nat.lt_of_lt_of_le I.lt hb), I.nofs hb, .inr (Nat.le_trans I.sz hb), fun x c e z => ?_, fun p hp z => ?_⟩
  · obtain ⟨v, q⟩ := I.cell x c e
    exact absurd (Nat.lt_of_lt_of_le q.lt (by rw [z]; exact hb)) (Nat.lt_irrefl _)
  · exact absurd (Nat.lt_of_lt_of_le (Heap.lt_size (I.pin p hp).1) (by rw [z]; exact hb)) (Nat.lt_irrefl _)
structure Turn (P : Program) (w : World) (K : PySem.W.Frag) (tg : Expr) (J : It) (fp : List Addr) (it : Addr) (tn : Nat → Heap → Prop) : Prop where
  mem : it ∈ fp
  obj : ∀ i h, tn i h → ∀ b ∈ fp, ∃ o, h.get? b = some o ∧ ∀ v, o.data ≠ .cell v
  keep : ∀ i h h', tn i h → (∀ b ∈ fp, ∀ o, h.get? b = some o → h'.get? b = some o) → tn i h'
  item : ∀ (X : Cx), X.prog = P → X.w = w → X.K = K → X.calm = true → ∀ (i : Nat) (pins : List (Addr × Obj)) (s : Shared) (σ : St) (H : Hp) (E : Value → Shared → Prop), Inv X pins σ H s → (∀ b ∈ fp, FpOk X pins H b) → tn i s.heap → J.go i H →
    wpAny (model P w) X.A (pyNext (.ref it)) (fun r s1 => ∃ u, r = some u ∧
      wpAny (model P w) X.A (letOwnedTupleGo tg (.ref it) u) (fun _ s2 => ∃ x H', Inv X pins σ H' s2 ∧ RelV x u ∧ J.yld i H x H' ∧ tn (i + 1) s2.heap ∧ ∀ b ∈ fp, H' b = none) E s1) E s
  done : ∀ (X : Cx), X.prog = P → X.w = w → X.K = K → X.calm = true → ∀ (i : Nat) (pins : List (Addr × Obj)) (s : Shared) (σ : St) (H : Hp) (E : Value → Shared → Prop), Inv X pins σ H s → (∀ b ∈ fp, FpOk X pins H b) → tn i s.heap → J.stop i H →
    wpAny (model P w) X.A (pyNext (.ref it)) (fun r s1 => r = none ∧ Inv X pins σ H s1) E s
  self : ∀ (A : Around) (i : Nat) (s : Shared) (Q : Value → Shared → Prop) (E : Value → Shared → Prop), tn i s.heap → Q (.ref it) s → wpAny (model P w) A (pyIter (.ref it)) Q E s
abbrev TI := St → Hp → (It → Hp → Prop) → Prop
def PIE (X : Cx) (pins : List (Addr × Obj)) (σ : St) (tg : Expr) (R : It → Hp → Prop) (itv : Value) (s2 : Shared) : Prop :=
  ∃ (it : Addr) (fp : List Addr) (tn : Nat → Heap → Prop) (J : It) (H' : Hp), itv = .ref it ∧ Inv X pins σ H' s2 ∧ Turn X.prog X.w X.K tg J fp it tn ∧ tn 0 s2.heap ∧ (∀ b ∈ fp, FpOk X pins H' b) ∧ R J H'
def PI (X : Cx) (tg iter : Expr) (wi : TI) : Prop :=
  ∀ (pins : List (Addr × Obj)) (s : Shared) (σ : St) (H : Hp) (R : It → Hp → Prop), Inv X pins σ H s → wi σ H R →
    wpAny (model X.prog X.w) X.A (eval iter X.env) (fun v s1 => wpAny (model X.prog X.w) X.A (pyIter v) (PIE X pins σ tg R) X.xe s1) X.xe s
theorem go_of {M : Model} {A : Around} {E : Value → Shared → Prop} {s : Shared} {tg : Expr} {it : Addr} {u : Value} {o : Obj} {n : String} {vs : Array Value} {Q : Unit → Shared → Prop} (ho : s.heap.get? it = some o) (hc : o.cls = .type n) (hd : o.data = .fields vs)
    (hn : ["enumerate", "zip", "dict_itemiterator", "dict_reverseitemiterator", "odict_iterator", "itertools.zip_longest", "itertools.pairwise"].contains n = false) (hQ : Q () s) : wpAny M A (letOwnedTupleGo tg (.ref it) u) Q E s := by
  unfold letOwnedTupleGo
  cases tg <;> first
    | exact wpAny_pure hQ
    | (cases u <;> first
        | exact wpAny_pure hQ
        | (refine wpAny_bind (wpAny_load ho ?_)
           rw [hc, hd]
           show wpAny M A (if (["enumerate", "zip", "dict_itemiterator", "dict_reverseitemiterator", "odict_iterator", "itertools.zip_longest", "itertools.pairwise"].contains n && vs[0]? == some (rawInt _)) = true then _ else _) Q E s
           rw [if_neg (by intro h; rw [hn, Bool.false_and] at h; cases h)]
           exact wpAny_pure hQ))
def Itl (K : PySem.W.Frag) (a : Addr) : It :=
  ⟨fun i H => ∃ xs x, SqL K H a xs ∧ xs[i]? = some x, fun i H x H' => H' = H ∧ ∀ xs, SqL K H a xs → xs[i]? = some x, fun i H => ∃ xs, SqL K H a xs ∧ xs.length ≤ i⟩
def Itt (K : PySem.W.Frag) (a : Addr) : It :=
  ⟨fun i H => ∃ xs x, SqT K H a xs ∧ xs[i]? = some x, fun i H x H' => H' = H ∧ ∀ xs, SqT K H a xs → xs[i]? = some x, fun i H => ∃ xs, SqT K H a xs ∧ xs.length ≤ i⟩
def Itr (lo : Int) (n : Nat) : It := ⟨fun i _ => i < n, fun i H x H' => H' = H ∧ x = .int (lo + i), fun i _ => n ≤ i⟩
theorem turn_list {P : Program} {w : World} {K : PySem.W.Frag} {tg : Expr} (a it : Addr) : Turn P w K tg (Itl K a) [it] it (fun i h => h.IsListIter it a i) where
  mem := by simp
  obj := fun i h st b hb => by
    have e : b = it := by simpa using hb
    subst e
    obtain ⟨o, e, c, d⟩ := st
    exact ⟨o, e, fun v z => by rw [d] at z; cases z⟩
  keep := fun i h h' st k => st.at fun o e => k it (by simp) o e
  item := by
    intro X hP hw hK hc i pins s σ H E I hf st hg
    subst hP hw hK
    obtain ⟨xs, x, hq, hx⟩ := hg
    obtain ⟨its, rv, p, hz⟩ := I.list hq
    obtain ⟨u, hu, ru⟩ := rv.get hx
    obtain ⟨f0, f1, f2, f3, f4, f5⟩ := hf it (by simp)
    refine wpAny_pyNext_list_item st p.isList (x := u) (by simpa using hu) fun h' st' sb => ?_
    have I1 : Inv X pins σ H { s with heap := h' } := I.turned (t' := s.toks) (fun b o hb e => (sb.2 b hb).trans e) f0 f1 f3 f4 f5
    obtain ⟨o, e, c, d⟩ := id st'
    exact ⟨u, rfl, go_of (s := { s with heap := h' }) e c d (by decide) ⟨x, H, I1, ru, ⟨rfl, fun ys hy => by rw [I.list_inj hy hq]; exact hx⟩, st', fun b hb => (hf b hb).1⟩⟩
  done := by
    intro X hP hw hK hc i pins s σ H E I hf st hg
    subst hP hw hK
    obtain ⟨xs, hq, hx⟩ := hg
    obtain ⟨its, rv, p, hz⟩ := I.list hq
    obtain ⟨f0, f1, f2, f3, f4, f5⟩ := hf it (by simp)
    have hl := rv.length
    exact wpAny_pyNext_list_end (I.ok.hd hc) st p.isList (by simp; omega) fun h' eb => ⟨rfl, I.turned (t' := s.toks) (fun b o hb e => eb b o hb e) f0 f1 f3 f4 f5⟩
  self := fun _ _ _ _ _ st h => wpAny_pyIter_listiter st h
theorem turn_tuple {P : Program} {w : World} {K : PySem.W.Frag} {tg : Expr} (a it : Addr) : Turn P w K tg (Itt K a) [it] it (fun i h => h.IsTupleIter it a i) where
  mem := by simp
  obj := fun i h st b hb => by
    have e : b = it := by simpa using hb
    subst e
    obtain ⟨o, e, c, d⟩ := st
    exact ⟨o, e, fun v z => by rw [d] at z; cases z⟩
  keep := fun i h h' st k => st.at fun o e => k it (by simp) o e
  item := by
    intro X hP hw hK hc i pins s σ H E I hf st hg
    subst hP hw hK
    obtain ⟨xs, x, hq, hx⟩ := hg
    obtain ⟨its, rv, p, hz⟩ := I.tuple hq
    obtain ⟨u, hu, ru⟩ := rv.get hx
    obtain ⟨f0, f1, f2, f3, f4, f5⟩ := hf it (by simp)
    refine wpAny_pyNext_tuple_item st (show s.heap.IsTuple a its.toArray from p) (x := u) (by simpa using hu) fun h' st' sb => ?_
    have I1 : Inv X pins σ H { s with heap := h' } := I.turned (t' := s.toks) (fun b o hb e => (sb.2 b hb).trans e) f0 f1 f3 f4 f5
    obtain ⟨o, e, c, d⟩ := id st'
    exact ⟨u, rfl, go_of (s := { s with heap := h' }) e c d (by decide) ⟨x, H, I1, ru, ⟨rfl, fun ys hy => by rw [I.tuple_inj hy hq]; exact hx⟩, st', fun b hb => (hf b hb).1⟩⟩
  done := by
    intro X hP hw hK hc i pins s σ H E I hf st hg
    subst hP hw hK
    obtain ⟨xs, hq, hx⟩ := hg
    obtain ⟨its, rv, p, hz⟩ := I.tuple hq
    obtain ⟨f0, f1, f2, f3, f4, f5⟩ := hf it (by simp)
    have hl := rv.length
    exact wpAny_pyNext_tuple_end (I.ok.hd hc) st (show s.heap.IsTuple a its.toArray from p) (by simp; omega) fun h' eb => ⟨rfl, I.turned (t' := s.toks) (fun b o hb e => eb b o hb e) f0 f1 f3 f4 f5⟩
  self := fun _ _ _ _ _ st h => wpAny_pyIter_tupleiter st h
theorem turn_range {P : Program} {w : World} {K : PySem.W.Frag} {tg : Expr} (it : Addr) (lo : Int) (n : Nat) : Turn P w K tg (Itr lo n) [it] it (fun i h => IsRangeIter h it (lo + (i : Nat) * 1) ((n : Int) - (i : Nat)) 1) where
  mem := by simp
  obj := fun i h st b hb => by
    have e : b = it := by simpa using hb
    subst e
    exact ⟨_, st, fun v z => by
      have z' : Data.fields _ = Data.cell v := z
      cases z'⟩
  keep := fun i h h' st k => k it (by simp) _ st
  item := by
    intro X hP hw hK hc i pins s σ H E I hf st hg
    subst hP hw hK
    obtain ⟨f0, f1, f2, f3, f4, f5⟩ := hf it (by simp)
    have W := Walks.range (prog := X.prog) (w := X.w) (I.ok.hd hc) it lo 1 n
    refine W.item i s _ _ hg st fun v h' tk hv st' kk => ?_
    obtain ⟨t, rfl⟩ := hv
    have I1 : Inv X pins σ H { s with heap := h', toks := tk } := I.turned (fun b o hb e => kk b o (by simpa using hb) e) f0 f1 f3 f4 f5
    refine ⟨_, rfl, go_of (s := { s with heap := h', toks := tk }) (n := "range_iterator") st' rfl rfl (by decide) ⟨.int (lo + i), H, I1, ⟨t, ?_⟩, ⟨rfl, rfl⟩, st', fun b hb => (hf b hb).1⟩⟩
    rw [Int.mul_one]
  done := by
    intro X hP hw hK hc i pins s σ H E I hf st hg
    subst hP hw hK
    obtain ⟨f0, f1, f2, f3, f4, f5⟩ := hf it (by simp)
    exact wpAny_pyNext_range_end (I.ok.hd hc) st (by have : n ≤ i := hg; omega) fun h' eb => ⟨rfl, I.turned (t' := s.toks) (fun b o hb e => eb b o hb e) f0 f1 f3 f4 f5⟩
  self := fun _ _ _ _ _ st h => wpAny_pyIter_rangeiter st h
end L2
namespace L2
open PySem PySem.Spec PyProof.Rows
section
variable {X : Cx} {tg : Expr}
def iList (K : PySem.W.Frag) (tl : TE) : TI := fun σ H R => tl σ H fun x H1 => ∃ a, x = .ref a ∧ (∃ xs, SqL K H1 a xs) ∧ R (Itl K a) H1
def iTup (K : PySem.W.Frag) (tl : TE) : TI := fun σ H R => tl σ H fun x H1 => ∃ a, x = .ref a ∧ (∃ xs, SqT K H1 a xs) ∧ R (Itt K a) H1
theorem pi_list {l : Expr} {tl : TE} (hl : PE X l tl) : PI X tg l (iList X.K tl) := by
  intro pins s σ H R I h
  refine thn (hl pins s σ H _ I h) fun v s1 ⟨x, H1, I1, r1, q1⟩ => ?_
  obtain ⟨a, e, ⟨xs, hq⟩, q⟩ := q1
  subst e
  cases r1
  obtain ⟨its, rv, p, hz⟩ := I1.list hq
  refine wpAny_pyIter_list p.isList ?_
  refine ⟨s1.heap.objs.size, [s1.heap.objs.size], _, _, H1, rfl, I1.kept (t' := s1.toks) fun b o e => Heap.get?_push_of_some _ e, turn_list a _, ⟨_, Heap.get?_push_size _ rfl, rfl, rfl⟩, fun b hb => ?_, q⟩
  have e : b = s1.heap.objs.size := by simpa using hb
  subst e
  exact I1.fpOk (Nat.le_refl _) (I1.hok.fresh (Nat.le_refl _))
theorem pi_tup {l : Expr} {tl : TE} (hl : PE X l tl) : PI X tg l (iTup X.K tl) := by
  intro pins s σ H R I h
  refine thn (hl pins s σ H _ I h) fun v s1 ⟨x, H1, I1, r1, q1⟩ => ?_
  obtain ⟨a, e, ⟨xs, hq⟩, q⟩ := q1
  subst e
  cases r1
  obtain ⟨its, rv, p, hz⟩ := I1.tuple hq
  refine wpAny_pyIter_tuple (show s1.heap.IsTuple a its.toArray from p) ?_
  refine ⟨s1.heap.objs.size, [s1.heap.objs.size], _, _, H1, rfl, I1.kept (t' := s1.toks) fun b o e => Heap.get?_push_of_some _ e, turn_tuple a _, ⟨_, Heap.get?_push_size _ rfl, rfl, rfl⟩, fun b hb => ?_, q⟩
  have e : b = s1.heap.objs.size := by simpa using hb
  subst e
  exact I1.fpOk (Nat.le_refl _) (I1.hok.fresh (Nat.le_refl _))
theorem range_it {pins : List (Addr × Obj)} {σ : St} {H : Hp} {s : Shared} {R : It → Hp → Prop} {E : Value → Shared → Prop} {lo hi : Int} {t u v : Tok} {tk : Nat} (I : Inv X pins σ H s) (h1 : -(2 ^ 62) ≤ lo) (h2 : lo < 2 ^ 62) (h3 : -(2 ^ 62) ≤ hi) (h4 : hi < 2 ^ 62)
    (q : R (Itr lo (hi - lo).toNat) H) : wpAny (model X.prog X.w) X.A (pyIter (.ref s.heap.objs.size)) (PIE X pins σ tg R) E { s with heap := s.heap.push { cls := .type "range", data := .fields #[.int lo t, .int hi u, .int 1 v] }, toks := tk } := by
  refine wpAny_pyIter_range (IsRange.new ..) (small_one h1 h2 h3 h4) ?_
  have I1 : Inv X pins σ H { s with heap := s.heap.push { cls := .type "range", data := .fields #[.int lo t, .int hi u, .int 1 v] }, toks := tk } := I.kept fun b o e => Heap.get?_push_of_some _ e
  refine ⟨(s.heap.push { cls := .type "range", data := .fields #[.int lo t, .int hi u, .int 1 v] }).objs.size, [(s.heap.push { cls := .type "range", data := .fields #[.int lo t, .int hi u, .int 1 v] }).objs.size], _, _, H, rfl,
    I1.kept (t' := tk) fun b o e => Heap.get?_push_of_some _ e, turn_range _ lo (hi - lo).toNat, ?_, fun b hb => ?_, q⟩
  · have e1 : lo + ((0 : Nat) : Int) * 1 = lo := by simp
    have e2 : (((hi - lo).toNat : Nat) : Int) - ((0 : Nat) : Int) = Builtin.Range.rangeSize lo hi 1 := by rw [rangeSize_one]; split <;> omega
    show IsRangeIter _ _ (lo + ((0 : Nat) : Int) * 1) ((((hi - lo).toNat : Nat) : Int) - ((0 : Nat) : Int)) 1
    rw [e1, e2]
    exact Heap.get?_push_size _ rfl
  · have e : b = (s.heap.push { cls := .type "range", data := .fields #[.int lo t, .int hi u, .int 1 v] }).objs.size := by simpa using hb
    subst e
    exact I1.fpOk (Nat.le_refl _) (I1.hok.fresh (Nat.le_refl _))
def iRng1 (ta : TA) : TI := fun σ H R => ta σ H fun vs H1 => ∃ j : Int, vs = [.int j] ∧ -(2 ^ 62) ≤ j ∧ j < 2 ^ 62 ∧ R (Itr 0 j.toNat) H1
theorem pi_range1 {a : Expr} {ta : TA} {p pos : Pos} (hg : Gl X "range") (hm : X.mg "range" = none) (ha : PA X [a] ta) (hs : starEach [a] X.env = [(false, eval a X.env)] := by rfl) : PI X tg (.Call (.Name "range" p) [a] [] pos) (iRng1 ta) := by
  intro pins s σ H R I h
  refine Call_ (ld_blt I hg hm boot_range (PyProof.Rows.callWith_type1 (thn (ha pos pins s σ H _ I h) fun us s1 ⟨vs, H1, I1, r1, q1⟩ => ?_) hs rfl))
  obtain ⟨j, e, q1, q2, q⟩ := q1
  subst e
  cases r1 with
  | cons r rr =>
    cases rr
    obtain ⟨t, rfl⟩ := r
    exact call_range_1 (range_it I1 (by omega) (by omega) q1 q2 (by simpa using q))
def tFor (wi : TI) (g : TG) (tb : TS) : TS := fun D σ H => wi σ H fun J H1 => ∃ W : Nat → Nat → St → Hp → Prop, (∃ m, W 0 m σ H1) ∧ ∀ i m σ H, W i m σ H →
  (J.stop i H ∧ D.nx σ H) ∨ (J.go i H ∧ ∃ N : St → Hp → Prop, (∀ σ' H', N σ' H' → ∃ m', m' < m ∧ W (i + 1) m' σ' H') ∧ ∀ x H', J.yld i H x H' → g x σ H' fun σ2 H2 => tb { D with nx := N, ct := N, bk := D.nx } σ2 H2)
def pinsAt (fp : List Addr) (h : Heap) : List (Addr × Obj) := fp.filterMap fun b => (h.get? b).map fun o => (b, o)
theorem mem_pinsAt {fp : List Addr} {h : Heap} {b : Addr} {o : Obj} (hb : b ∈ fp) (e : h.get? b = some o) : (b, o) ∈ pinsAt fp h := List.mem_filterMap.mpr ⟨b, hb, by rw [e]; rfl⟩
theorem of_pinsAt {fp : List Addr} {h : Heap} {p : Addr × Obj} (hp : p ∈ pinsAt fp h) : p.1 ∈ fp ∧ h.get? p.1 = some p.2 := by
  obtain ⟨b, hb, e⟩ := List.mem_filterMap.mp hp
  cases q : h.get? b with
  | none => rw [q] at e; cases e
  | some o =>
    rw [q] at e
    have e' : (b, o) = p := Option.some.inj e
    subst e'
    exact ⟨hb, q⟩
theorem Inv.pinned {pins : List (Addr × Obj)} {σ : St} {H : Hp} {s : Shared} {fp : List Addr} (I : Inv X pins σ H s) (hf : ∀ b ∈ fp, FpOk X pins H b) (ho : ∀ b ∈ fp, ∃ o, s.heap.get? b = some o ∧ ∀ v, o.data ≠ .cell v) : Inv X (pins ++ pinsAt fp s.heap) σ H s :=
  I.pins_of fun p hp => (List.mem_append.mp hp).elim (fun z => I.pin p (List.mem_append_right _ z)) fun z => by
    obtain ⟨hb, e⟩ := of_pinsAt z
    obtain ⟨f0, f1, f2, _⟩ := hf p.1 hb
    obtain ⟨o, e', d⟩ := ho p.1 hb
    rw [e] at e'; cases e'
    exact ⟨e, f0, f1, f2, d⟩
theorem Inv.unpinned {pins pl : List (Addr × Obj)} {σ : St} {H : Hp} {s : Shared} (I : Inv X (pins ++ pl) σ H s) : Inv X pins σ H s := I.pins_of fun p hp => I.pin p (List.mem_append_right _ (List.mem_append_left _ hp))
theorem ps_for {iter : Expr} {body : List Stmt} {wi : TI} {g : TG} {tb : TS} {pos : Pos} (hp : PassesOwn (model X.prog X.w) X.A X.env X.xe) (hc : X.calm = true) (hi : PI X tg iter wi) (hg : PG X tg g) (hb : PSs X body tb)
    (hs : ∀ x, foldedSetIterable iter X.env x = pure x := by intro _; rfl) : PS X (.For tg iter body [] pos) (tFor wi g tb) := by
  intro pins s σ H D I h
  refine wpAny_For (thn (hi pins s σ H _ I h) fun v s1 h1 => thn h1 fun itv s2 h2 => ?_) hs
  obtain ⟨it, fp, tn, J, H2, e, I2, T, st2, f2, W, ⟨m0, w0⟩, turn⟩ := h2
  subst e
  have stat : ∀ {H' : Hp}, (∀ b ∈ fp, H' b = none) → ∀ b ∈ fp, FpOk X pins H' b := fun hn b hb => ⟨hn b hb, (f2 b hb).2⟩
  refine codeAny_forLoop_any (fun n s' => ∃ i σ' H', Inv X pins σ' H' s' ∧ tn i s'.heap ∧ (∀ b ∈ fp, H' b = none) ∧ W i n σ' H') ?_ m0 ⟨0, σ, H2, I2, st2, fun b hb => (f2 b hb).1, w0⟩
  rintro n s3 ⟨i, σ3, H3, I3, st3, fr3, w3⟩
  rcases turn i n σ3 H3 w3 with ⟨stop, qn⟩ | ⟨go, N, hN, step⟩
  · refine wpAny_passesOwn hp (thn (T.done X rfl rfl rfl hc i pins s3 σ3 H3 X.xe I3 (stat fr3) st3 stop) fun r s4 ⟨hr, I4⟩ => ?_)
    subst hr
    exact wpAny_execs_nil ⟨σ3, H3, I4, qn⟩
  · refine wpAny_passesOwn hp (thn (T.item X rfl rfl rfl hc i pins s3 σ3 H3 X.xe I3 (stat fr3) st3 go) fun r s4 ⟨u, hr, h4⟩ => ?_)
    subst hr
    refine wpAny_passesOwn hp (thn h4 fun _ s5 ⟨x, H5, I5, r5, y5, st5, fr5⟩ => ?_)
    have I5' := I5.pinned (stat fr5) (T.obj _ _ st5)
    refine wpAny_passesOwn hp (thn (hg _ s5 σ3 H5 x u _ I5' r5 (step x H5 y5)) fun _ s6 ⟨σ6, H6, I6, q6⟩ => ?_)
    refine wpAny_passesOwn hp (thn (hb _ s6 σ6 H6 _ I6 q6) fun f s7 q7 => ?_)
    have again : ∀ {σ7 : St} {H7 : Hp}, Inv X (pins ++ pinsAt fp s5.heap) σ7 H7 s7 → N σ7 H7 → ∃ m, m < n ∧ ∃ i σ' H', Inv X pins σ' H' s7 ∧ tn i s7.heap ∧ (∀ b ∈ fp, H' b = none) ∧ W i m σ' H' := fun {σ7 H7} I7 n7 => by
      obtain ⟨m', hm, w7⟩ := hN σ7 H7 n7
      refine ⟨m', hm, i + 1, σ7, H7, I7.unpinned, T.keep _ _ _ st5 fun b hb o e => (I7.pin (b, o) (List.mem_append_right _ (List.mem_append_right _ (mem_pinsAt hb e)))).1, fun b hb => ?_, w7⟩
      obtain ⟨o, e, d⟩ := T.obj _ _ st5 b hb
      exact (I7.pin (b, o) (List.mem_append_right _ (List.mem_append_right _ (mem_pinsAt hb e)))).2.1
    cases f with
    | next => obtain ⟨σ7, H7, I7, n7⟩ := q7; exact again I7 n7
    | cont => obtain ⟨σ7, H7, I7, n7⟩ := q7; exact again I7 n7
    | brk => obtain ⟨σ7, H7, I7, q7⟩ := q7; exact ⟨σ7, H7, I7.unpinned, q7⟩
    | ret v => obtain ⟨x7, σ7, H7, I7, r7, q7⟩ := q7; exact ⟨x7, σ7, H7, I7.unpinned, r7, q7⟩
end
theorem for_list {K : PySem.W.Frag} {a : Addr} {xs : List V} {g : TG} {tb : TS} {D : Ends} {σ : St} {H : Hp} (Pv : Nat → St → Hp → Prop) (h0 : Pv 0 σ H) (hl : ∀ i σ H, i ≤ xs.length → Pv i σ H → SqL K H a xs)
    (hs : ∀ i x σ H, xs[i]? = some x → Pv i σ H → g x σ H fun σ2 H2 => tb { D with nx := Pv (i + 1), ct := Pv (i + 1), bk := D.nx } σ2 H2) (hd : ∀ σ H, Pv xs.length σ H → D.nx σ H) :
    ∃ W : Nat → Nat → St → Hp → Prop, (∃ m, W 0 m σ H) ∧ ∀ i m σ H, W i m σ H →
      ((Itl K a).stop i H ∧ D.nx σ H) ∨ ((Itl K a).go i H ∧ ∃ N : St → Hp → Prop, (∀ σ' H', N σ' H' → ∃ m', m' < m ∧ W (i + 1) m' σ' H') ∧ ∀ x H', (Itl K a).yld i H x H' → g x σ H' fun σ2 H2 => tb { D with nx := N, ct := N, bk := D.nx } σ2 H2) := by
  refine ⟨fun i m σ H => m = xs.length - i ∧ i ≤ xs.length ∧ Pv i σ H, ⟨xs.length, by simp, Nat.zero_le _, h0⟩, ?_⟩
  rintro i m σ H ⟨rfl, hi, p⟩
  have q := hl i σ H hi p
  by_cases hlt : i < xs.length
  · refine .inr ⟨⟨xs, xs[i], q, by simp [hlt]⟩, Pv (i + 1), fun σ' H' p' => ⟨xs.length - (i + 1), by omega, rfl, hlt, p'⟩, fun x H' y => ?_⟩
    obtain ⟨e, y⟩ := y
    subst e
    exact hs i x σ _ (y xs q) p
  · have e : i = xs.length := by omega
    subst e
    exact .inl ⟨⟨xs, q, Nat.le_refl _⟩, hd σ H p⟩
theorem for_range {lo : Int} {n : Nat} {g : TG} {tb : TS} {D : Ends} {σ : St} {H : Hp} (Pv : Nat → St → Hp → Prop) (h0 : Pv 0 σ H)
    (hs : ∀ i σ H, i < n → Pv i σ H → g (.int (lo + i)) σ H fun σ2 H2 => tb { D with nx := Pv (i + 1), ct := Pv (i + 1), bk := D.nx } σ2 H2) (hd : ∀ σ H, Pv n σ H → D.nx σ H) :
    ∃ W : Nat → Nat → St → Hp → Prop, (∃ m, W 0 m σ H) ∧ ∀ i m σ H, W i m σ H →
      ((Itr lo n).stop i H ∧ D.nx σ H) ∨ ((Itr lo n).go i H ∧ ∃ N : St → Hp → Prop, (∀ σ' H', N σ' H' → ∃ m', m' < m ∧ W (i + 1) m' σ' H') ∧ ∀ x H', (Itr lo n).yld i H x H' → g x σ H' fun σ2 H2 => tb { D with nx := N, ct := N, bk := D.nx } σ2 H2) := by
  refine ⟨fun i m σ H => m = n - i ∧ i ≤ n ∧ Pv i σ H, ⟨n, by simp, Nat.zero_le _, h0⟩, ?_⟩
  rintro i m σ H ⟨rfl, hi, p⟩
  by_cases hlt : i < n
  · refine .inr ⟨hlt, Pv (i + 1), fun σ' H' p' => ⟨n - (i + 1), by omega, rfl, hlt, p'⟩, fun x H' y => ?_⟩
    obtain ⟨e, y⟩ := y
    subst e y
    exact hs i σ _ hlt p
  · have e : i = n := by omega
    subst e
    exact .inl ⟨Nat.le_refl _, hd σ H p⟩
end L2
namespace L2
open PySem PySem.Spec PyProof.Rows
abbrev R2 := V → V → Hp → VK → Prop
def OpR (X : Cx) (f : Value → Value → Sem Value) (r : R2) : Prop :=
  ∀ (pins : List (Addr × Obj)) (s : Shared) (σ : St) (H : Hp) (x y : V) (v u : Value) (Q : VK), Inv X pins σ H s → RelV x v → RelV y u → r x y H Q →
    wpAny (model X.prog X.w) X.A (f v u) (EP X pins σ Q) X.xe s
def UnR (X : Cx) (f : Value → Sem Value) (r : V → Hp → VK → Prop) : Prop :=
  ∀ (pins : List (Addr × Obj)) (s : Shared) (σ : St) (H : Hp) (x : V) (v : Value) (Q : VK), Inv X pins σ H s → RelV x v → r x H Q →
    wpAny (model X.prog X.w) X.A (f v) (EP X pins σ Q) X.xe s
def CallR (X : Cx) (f : Value) (r : List V → Hp → VK → Prop) : Prop :=
  ∀ (pins : List (Addr × Obj)) (s : Shared) (σ : St) (H : Hp) (xs : List V) (us : List Value) (Q : VK), Inv X pins σ H s → Vals xs us → r xs H Q →
    wpAny (model X.prog X.w) X.A (call f us) (EP X pins σ Q) X.xe s
def tOp (r : R2) (ta tb : TE) : TE := fun σ H Q => ta σ H fun x H1 => tb σ H1 fun y H2 => r x y H2 Q
def tUn (r : V → Hp → VK → Prop) (ta : TE) : TE := fun σ H Q => ta σ H fun x H1 => r x H1 Q
def rI (C : Int → Int → Prop) (g : Int → Int → V) : R2 := fun x y H Q => ∃ i j, x = .int i ∧ y = .int j ∧ C i j ∧ Q (g i j) H
def rI0 (g : Int → Int → V) : R2 := fun x y H Q => ∃ i j, x = .int i ∧ y = .int j ∧ Q (g i j) H
def rU (g : Int → V) : V → Hp → VK → Prop := fun x H Q => ∃ i, x = .int i ∧ Q (g i) H
section
variable {X : Cx} {a b c : Expr} {ta tb tc : TE} {pos : Pos}
theorem binT (ha : PE X a ta) (hb : PE X b tb) {pins : List (Addr × Obj)} {s : Shared} {σ : St} {H : Hp} {R : V → V → Hp → Prop} (I : Inv X pins σ H s)
    (h : ta σ H fun x H1 => tb σ H1 fun y H2 => R x y H2) {Q : Value → Shared → Prop} {f : Value → Value → Sem Value}
    (hf : ∀ v u s2 x y H2, Inv X pins σ H2 s2 → RelV x v → RelV y u → R x y H2 → wpAny (model X.prog X.w) X.A (f v u) Q X.xe s2) :
    wpAny (model X.prog X.w) X.A (eval a X.env) (fun v s₁ => wpAny (model X.prog X.w) X.A (eval b X.env) (fun u s₂ => wpAny (model X.prog X.w) X.A (f v u) Q X.xe s₂) X.xe s₁) X.xe s := by
  refine thn (ha pins s σ H _ I h) fun v s1 ⟨x, H1, I1, r1, q1⟩ => ?_
  refine thn (hb pins s1 σ H1 _ I1 q1) fun u s2 ⟨y, H2, I2, r2, q2⟩ => ?_
  exact hf v u s2 x y H2 I2 r1 r2 q2
theorem pe_op {op : Operator} {r : R2} (ho : OpR X (binaryOp op) r) (ha : PE X a ta) (hb : PE X b tb) : PE X (.BinOp a op b pos) (tOp r ta tb) := by
  intro pins s σ H Q I h
  exact wpAny_BinOp (binT ha hb I h fun v u s2 x y H2 I2 rx ry q => ho pins s2 σ H2 x y v u Q I2 rx ry q)
theorem pe_un {op : UnaryOp} {r : V → Hp → VK → Prop} (ho : UnR X (unaryOp op) r) (ha : PE X a ta) : PE X (.UnaryOp op a pos) (tUn r ta) := by
  intro pins s σ H Q I h
  exact UnaryOp_ (thn (ha pins s σ H _ I h) fun v s1 ⟨x, H1, I1, r1, q1⟩ => ho pins s1 σ H1 x v Q I1 r1 q1)
theorem opI {f : Value → Value → Sem Value} {C : Int → Int → Prop} {g : Int → Int → Int}
    (rule : ∀ (i j : Int) (t u : Tok) (s : Shared) (Q : Value → Shared → Prop) (E : Value → Shared → Prop), C i j → Q (.int (g i j) s.toks) { s with toks := s.toks + 1 } → wpAny (model X.prog X.w) X.A (f (.int i t) (.int j u)) Q E s) :
    OpR X f (rI C fun i j => .int (g i j)) := by
  intro pins s σ H x y v u Q I rx ry h
  obtain ⟨i, j, rfl, rfl, hc, q⟩ := h
  obtain ⟨t, rfl⟩ := rx
  obtain ⟨t', rfl⟩ := ry
  exact rule i j t t' s _ _ hc ⟨.int (g i j), H, I.tok _, ⟨_, rfl⟩, q⟩
theorem opI0 {f : Value → Value → Sem Value} {g : Int → Int → Int}
    (rule : ∀ (i j : Int) (t u : Tok) (s : Shared) (Q : Value → Shared → Prop) (E : Value → Shared → Prop), Q (.int (g i j) s.toks) { s with toks := s.toks + 1 } → wpAny (model X.prog X.w) X.A (f (.int i t) (.int j u)) Q E s) :
    OpR X f (rI0 fun i j => .int (g i j)) := by
  intro pins s σ H x y v u Q I rx ry h
  obtain ⟨i, j, rfl, rfl, q⟩ := h
  obtain ⟨t, rfl⟩ := rx
  obtain ⟨t', rfl⟩ := ry
  exact rule i j t t' s _ _ ⟨.int (g i j), H, I.tok _, ⟨_, rfl⟩, q⟩
theorem opB0 {f : Value → Value → Sem Value} {g : Int → Int → Bool}
    (rule : ∀ (i j : Int) (t u : Tok) (s : Shared) (Q : Value → Shared → Prop) (E : Value → Shared → Prop), Q (.bool (g i j)) s → wpAny (model X.prog X.w) X.A (f (.int i t) (.int j u)) Q E s) :
    OpR X f (rI0 fun i j => .bl (g i j)) := by
  intro pins s σ H x y v u Q I rx ry h
  obtain ⟨i, j, rfl, rfl, q⟩ := h
  obtain ⟨t, rfl⟩ := rx
  obtain ⟨t', rfl⟩ := ry
  exact rule i j t t' s _ _ ⟨.bl (g i j), H, I, rfl, q⟩
def CDiv (i j : Int) : Prop := 0 < j ∧ j < 1073741824
def CPow (i j : Int) : Prop := 0 ≤ j ∧ j ≤ 1000000 ∧ i.natAbs < 2 ^ 64
def CMul (i j : Int) : Prop := (-(2 ^ 64) < i ∧ i < 2 ^ 64) ∨ (-(2 ^ 64) < j ∧ j < 2 ^ 64)
theorem CMul.ok {i j : Int} (h : CMul i j) : IntMulOk i j := by
  rcases h with ⟨h1, h2⟩ | ⟨h1, h2⟩
  · exact .of_left (intBits_le_64 h1 h2)
  · exact .of_right (intBits_le_64 h1 h2)
theorem op_add : OpR X (binaryOp .Add) (rI0 fun i j => .int (i + j)) := opI0 fun _ _ _ _ _ _ _ q => add_int q
theorem op_sub : OpR X (binaryOp .Sub) (rI0 fun i j => .int (i - j)) := opI0 fun _ _ _ _ _ _ _ q => sub_int q
theorem op_mul : OpR X (binaryOp .Mult) (rI CMul fun i j => .int (i * j)) := opI fun _ _ _ _ _ _ _ hc q => mul_int q hc.ok
theorem op_fdiv : OpR X (binaryOp .FloorDiv) (rI CDiv fun i j => .int (i / j)) := opI fun i j _ _ _ _ _ hc q => by
  have h1 : (0 : Int) < j := hc.1
  have h2 : j < 1073741824 := hc.2
  exact floordiv_int (by omega) (by rw [Int.fdiv_eq_ediv_of_nonneg i (by omega)]; exact q) (.inl (PyProof.noPylong_small (by omega)))
theorem op_mod : OpR X (binaryOp .Mod) (rI (fun _ j => 0 < j) fun i j => .int (i % j)) := opI fun i j _ _ _ _ _ hc q => by
  have h1 : (0 : Int) < j := hc
  exact mod_int' (by omega) (by rw [Int.fmod_eq_emod_of_nonneg i (by omega)]; exact q)
theorem op_pow : OpR X (binaryOp .Pow) (rI CPow fun i j => .int (i ^ j.toNat)) := opI fun _ _ _ _ _ _ _ hc q => pow_int_small hc.1 hc.2.1 hc.2.2 q
theorem unI {f : Value → Sem Value} {g : Int → Int}
    (rule : ∀ (i : Int) (t : Tok) (s : Shared) (Q : Value → Shared → Prop) (E : Value → Shared → Prop), Q (.int (g i) s.toks) { s with toks := s.toks + 1 } → wpAny (model X.prog X.w) X.A (f (.int i t)) Q E s) :
    UnR X f (rU fun i => .int (g i)) := by
  intro pins s σ H x v Q I rx h
  obtain ⟨i, rfl, q⟩ := h
  obtain ⟨t, rfl⟩ := rx
  exact rule i t s _ _ ⟨.int (g i), H, I.tok _, ⟨_, rfl⟩, q⟩
theorem un_neg : UnR X (unaryOp .USub) (rU fun i => .int (-i)) := unI fun _ _ _ _ _ q => neg_int q
end
def scal : V → V → Bool
  | .non, .non => true | .non, .int _ => true | .int _, .non => true | .non, .bl _ => true | .bl _, .non => true | .non, .str _ => true | .str _, .non => true
  | .int _, .int _ => true | .bl _, .bl _ => true | .str _, .str _ => true | .byt _, .byt _ => true
  | .int _, .str _ => true | .str _, .int _ => true | .bl _, .str _ => true | .str _, .bl _ => true
  | _, _ => false
def rEq : R2 := fun x y H Q => scal x y = true ∧ Q (.bl (decide (x = y))) H
def rNe : R2 := fun x y H Q => scal x y = true ∧ Q (.bl (!decide (x = y))) H
theorem dec_int {i j : Int} : decide (V.int i = V.int j) = (i == j) := by
  rw [Bool.eq_iff_iff]
  simp
theorem dec_bl {i j : Bool} : decide (V.bl i = V.bl j) = (i == j) := by
  rw [Bool.eq_iff_iff]
  simp
theorem dec_str {i j : Str} : decide (V.str i = V.str j) = (i == j) := by
  rw [Bool.eq_iff_iff]
  simp
theorem dec_byt {i j : Array UInt8} : decide (V.byt i = V.byt j) = (i.toList == j.toList) := by
  rw [Bool.eq_iff_iff]
  cases i
  cases j
  simp
section
variable {X : Cx} {a b c : Expr} {ta tb tc : TE} {pos : Pos}
theorem fin_bl {pins : List (Addr × Obj)} {σ : St} {H : Hp} {s : Shared} {Q : VK} {k k' : Bool} (I : Inv X pins σ H s) (q : Q (.bl k) H) (e : k = k') : EP X pins σ Q (.bool k') s := by
  subst e
  exact ⟨.bl k, H, I, rfl, q⟩
theorem op_eq : OpR X (compareOp .Eq) rEq := by
  intro pins s σ H x y v u Q I rx ry h
  obtain ⟨hs, q⟩ := h
  cases x with
  | non =>
    cases rx
    cases y with
    | non => cases ry; exact PySem.EqNone.eq_none_none (fin_bl I q (by simp))
    | bl j => cases ry; exact PySem.EqNone.eq_none_bool (fin_bl I q (by simp))
    | int j => obtain ⟨t', rfl⟩ := ry; exact PySem.EqNone.eq_none_int (fin_bl I q (by simp))
    | str j => obtain ⟨t', rfl⟩ := ry; exact PySem.EqNone.eq_none_str (fin_bl I q (by simp))
    | _ => exact absurd (show false = true from hs) Bool.false_ne_true
  | bl i =>
    cases rx
    cases y with
    | non => cases ry; exact PySem.EqNone.eq_bool_none (fin_bl I q (by simp))
    | bl j => cases ry; exact eq_bool (fin_bl I q dec_bl)
    | str j => obtain ⟨t', rfl⟩ := ry; exact PySem.EqMixed.eq_bool_str (fin_bl I q (by simp))
    | _ => exact absurd (show false = true from hs) Bool.false_ne_true
  | int i =>
    obtain ⟨t, rfl⟩ := rx
    cases y with
    | non => cases ry; exact PySem.EqNone.eq_int_none (fin_bl I q (by simp))
    | int j => obtain ⟨t', rfl⟩ := ry; exact eq_int (fin_bl I q dec_int)
    | str j => obtain ⟨t', rfl⟩ := ry; exact PySem.EqMixed.eq_int_str (fin_bl I q (by simp))
    | _ => exact absurd (show false = true from hs) Bool.false_ne_true
  | str i =>
    obtain ⟨t, rfl⟩ := rx
    cases y with
    | non => cases ry; exact PySem.EqNone.eq_str_none (fin_bl I q (by simp))
    | bl j => cases ry; exact PySem.EqMixed.eq_str_bool (fin_bl I q (by simp))
    | int j => obtain ⟨t', rfl⟩ := ry; exact PySem.EqMixed.eq_str_int (fin_bl I q (by simp))
    | str j => obtain ⟨t', rfl⟩ := ry; exact eq_str (fin_bl I q dec_str)
    | _ => exact absurd (show false = true from hs) Bool.false_ne_true
  | byt i =>
    obtain ⟨t, rfl⟩ := rx
    cases y with
    | byt j => obtain ⟨t', rfl⟩ := ry; exact PySem.W.eq_bytes (fin_bl I q dec_byt)
    | _ => exact absurd (show false = true from hs) Bool.false_ne_true
  | _ => cases y <;> exact absurd (show false = true from hs) Bool.false_ne_true
theorem op_ne : OpR X (compareOp .NotEq) rNe := by
  intro pins s σ H x y v u Q I rx ry h
  obtain ⟨hs, q⟩ := h
  cases x with
  | non =>
    cases rx
    cases y with
    | non => cases ry; exact PySem.EqNone.ne_none_none (fin_bl I q (by simp))
    | bl j => cases ry; exact PySem.EqNone.ne_none_bool (fin_bl I q (by simp))
    | int j => obtain ⟨t', rfl⟩ := ry; exact PySem.EqNone.ne_none_int (fin_bl I q (by simp))
    | str j => obtain ⟨t', rfl⟩ := ry; exact PySem.EqNone.ne_none_str (fin_bl I q (by simp))
    | _ => exact absurd (show false = true from hs) Bool.false_ne_true
  | bl i =>
    cases rx
    cases y with
    | non => cases ry; exact PySem.EqNone.ne_bool_none (fin_bl I q (by simp))
    | bl j => cases ry; exact ne_bool (fin_bl I q (congrArg not dec_bl))
    | str j => obtain ⟨t', rfl⟩ := ry; exact PySem.EqMixed.ne_bool_str (fin_bl I q (by simp))
    | _ => exact absurd (show false = true from hs) Bool.false_ne_true
  | int i =>
    obtain ⟨t, rfl⟩ := rx
    cases y with
    | non => cases ry; exact PySem.EqNone.ne_int_none (fin_bl I q (by simp))
    | int j => obtain ⟨t', rfl⟩ := ry; exact ne_int (fin_bl I q (congrArg not dec_int))
    | str j => obtain ⟨t', rfl⟩ := ry; exact PySem.EqMixed.ne_int_str (fin_bl I q (by simp))
    | _ => exact absurd (show false = true from hs) Bool.false_ne_true
  | str i =>
    obtain ⟨t, rfl⟩ := rx
    cases y with
    | non => cases ry; exact PySem.EqNone.ne_str_none (fin_bl I q (by simp))
    | bl j => cases ry; exact PySem.EqMixed.ne_str_bool (fin_bl I q (by simp))
    | int j => obtain ⟨t', rfl⟩ := ry; exact PySem.EqMixed.ne_str_int (fin_bl I q (by simp))
    | str j => obtain ⟨t', rfl⟩ := ry; exact ne_str (fin_bl I q (congrArg not dec_str))
    | _ => exact absurd (show false = true from hs) Bool.false_ne_true
  | byt i =>
    obtain ⟨t, rfl⟩ := rx
    cases y with
    | byt j => obtain ⟨t', rfl⟩ := ry; exact PySem.W.ne_bytes (fin_bl I q (congrArg not dec_byt))
    | _ => exact absurd (show false = true from hs) Bool.false_ne_true
  | _ => cases y <;> exact absurd (show false = true from hs) Bool.false_ne_true
theorem op_lt : OpR X (compareOp .Lt) (rI0 fun i j => .bl (decide (i < j))) := opB0 fun _ _ _ _ _ _ _ q => lt_int q
theorem op_le : OpR X (compareOp .LtE) (rI0 fun i j => .bl (decide (i ≤ j))) := opB0 fun _ _ _ _ _ _ _ q => le_int q
theorem op_gt : OpR X (compareOp .Gt) (rI0 fun i j => .bl (decide (j < i))) := opB0 fun _ _ _ _ _ _ _ q => gt_int q
theorem op_ge : OpR X (compareOp .GtE) (rI0 fun i j => .bl (decide (j ≤ i))) := opB0 fun _ _ _ _ _ _ _ q => ge_int q
theorem op_in_str : OpR X (compareOp .In) (fun x y H Q => ∃ i j, x = .str i ∧ y = .str j ∧ Q (.bl (!(Builtin.Str.occurrences j i 0 j.length 1).isEmpty)) H) := by
  intro pins s σ H x y v u Q I rx ry h
  obtain ⟨i, j, rfl, rfl, q⟩ := h
  obtain ⟨t, rfl⟩ := rx
  obtain ⟨t', rfl⟩ := ry
  exact in_str (fin_bl I q rfl)
theorem nomark (b : Expr) {op : CmpOp} (h : op ≠ .In := by decide) (h2 : op ≠ .NotIn := by decide) : behindInMarks op b = false := by
  have e1 : (op == CmpOp.In) = false := by cases op <;> first | rfl | exact absurd rfl h
  have e2 : (op == CmpOp.NotIn) = false := by cases op <;> first | rfl | exact absurd rfl h2
  cases b <;> simp [behindInMarks, e1, e2]
theorem pe_cmpR {op : CmpOp} {r : R2} (ho : OpR X (compareOp op) r) (ha : PE X a ta) (hb : PE X b tb) (hm : behindInMarks op b = false) : PE X (.Compare a [op] [b] pos) (tOp r ta tb) := by
  intro pins s σ H Q I h
  exact wpAny_Compare1 (binT ha hb I h fun v u s2 x y H2 I2 rx ry q => ho pins s2 σ H2 x y v u Q I2 rx ry q) hm
def tTest (t : TE) : TT := fun σ H Q => t σ H fun x H' => ∃ k, x = .bl k ∧ Q k H'
theorem pt_cmpR {op : CmpOp} {r : R2} (ho : OpR X (compareOp op) r) (ha : PE X a ta) (hb : PE X b tb) (hm : behindInMarks op b = false) : PT X (.Compare a [op] [b] pos) (tTest (tOp r ta tb)) := by
  intro pins s σ H Q I h
  refine wpAny_isTrue_Compare1 (thn (ha pins s σ H _ I h) fun v s1 ⟨x, H1, I1, r1, q1⟩ => thn (hb pins s1 σ H1 _ I1 q1) fun u s2 ⟨y, H2, I2, r2, q2⟩ =>
    thn (ho pins s2 σ H2 x y v u _ I2 r1 r2 q2) fun c s3 ⟨z, H3, I3, r3, k, e, q3⟩ => ?_) hm
  subst e
  cases r3
  exact wpAny_truthy_bool ⟨H3, I3, q3⟩
def tChain (r r' : R2) (ta tb tc : TE) : TE := fun σ H Q => ta σ H fun x H1 => tb σ H1 fun y H2 => r x y H2 fun z H3 => ∃ k, z = .bl k ∧
  (if k = true then tc σ H3 fun w' H4 => r' y w' H4 Q else Q (.bl false) H3)
theorem pt_chain {op op' : CmpOp} {r r' : R2} (ho : OpR X (compareOp op) r) (ho' : OpR X (compareOp op') r') (ha : PE X a ta) (hb : PE X b tb) (hc : PE X c tc)
    (hm : lastMarks [op, op'] [b, c] = false := by with_unfolding_all rfl) : PT X (.Compare a [op, op'] [b, c] pos) (tTest (tChain r r' ta tb tc)) := by
  intro pins s σ H Q I h
  refine isTrue_chain (thn (ha pins s σ H _ I h) fun v s1 ⟨x, H1, I1, r1, q1⟩ => test_link (thn (hb pins s1 σ H1 _ I1 q1) fun u s2 ⟨y, H2, I2, r2, q2⟩ =>
    thn (ho pins s2 σ H2 x y v u _ I2 r1 r2 q2) fun d s3 ⟨z, H3, I3, r3, k, e, q3⟩ => ?_)) hm
  subst e
  cases r3
  refine wpAny_truthy_bool ?_
  cases k with
  | false =>
    obtain ⟨k', e', q'⟩ := q3
    cases e'
    exact ite_ff ⟨H3, I3, q'⟩
  | true =>
    refine ite_tt (test_last (thn (hc pins s3 σ H3 _ I3 q3) fun w' s4 ⟨z', H4, I4, r4, q4⟩ => thn (ho' pins s4 σ H4 y z' u w' _ I4 r2 r4 q4) fun d' s5 ⟨z2, H5, I5, r5, k2, e2, q5⟩ => ?_))
    subst e2
    cases r5
    exact wpAny_truthy_bool ⟨H5, I5, q5⟩
theorem line63 : (sizeLine : Nat) < 2 ^ 63 := by rw [sizeLine_eq]; decide
theorem op_add_str : OpR X (binaryOp .Add) (fun x y H Q => ∃ i j, x = .str i ∧ y = .str j ∧ i.length + j.length ≤ sizeLine ∧ Q (.str (i ++ j)) H) := by
  intro pins s σ H x y v u Q I rx ry h
  obtain ⟨i, j, rfl, rfl, hz, q⟩ := h
  obtain ⟨t, rfl⟩ := rx
  obtain ⟨t', rfl⟩ := ry
  exact add_str (fun t' tk => ⟨.str (i ++ j), H, I.tok _, ⟨_, rfl⟩, q⟩) hz
theorem vals1 {x : V} {us : List Value} (r : Vals [x] us) : ∃ u, us = [u] ∧ RelV x u := by
  cases r with
  | cons r1 r2 => cases r2; exact ⟨_, rfl, r1⟩
theorem vals2 {x y : V} {us : List Value} (r : Vals [x, y] us) : ∃ u w', us = [u, w'] ∧ RelV x u ∧ RelV y w' := by
  cases r with
  | cons r1 r2 =>
    cases r2 with
    | cons r3 r4 => cases r4; exact ⟨_, _, rfl, r1, r3⟩
def LenV (K : PySem.W.Frag) (x : V) (H : Hp) (n : Nat) : Prop :=
  match x with
  | .str y => y.length ≤ sizeLine ∧ n = y.length
  | .byt y => y.size ≤ sizeLine ∧ n = y.size
  | .ref p => (∃ xs, SqL K H p xs ∧ n = xs.length) ∨ ∃ xs, SqT K H p xs ∧ n = xs.length
  | _ => False
theorem call_len : CallR X (.builtin "len") (fun xs H Q => ∃ x n, xs = [x] ∧ LenV X.K x H n ∧ Q (.int n) H) := by
  intro pins s σ H xs us Q I r h
  obtain ⟨x, n, rfl, e, q⟩ := h
  obtain ⟨u, rfl, rx⟩ := vals1 r
  have hl := line63
  have hs : sizeLine = 16777216 := sizeLine_eq
  cases x with
  | str y =>
    obtain ⟨t, rfl⟩ := rx
    obtain ⟨hy, e'⟩ : y.length ≤ sizeLine ∧ n = y.length := e
    subst e'
    exact len_str (by omega) ⟨.int _, H, I.tok _, ⟨_, rfl⟩, q⟩
  | byt y =>
    obtain ⟨t, rfl⟩ := rx
    obtain ⟨hy, e'⟩ : y.size ≤ sizeLine ∧ n = y.size := e
    subst e'
    exact PySem.W.len_bytes (by omega) ⟨.int _, H, I.tok _, ⟨_, rfl⟩, q⟩
  | ref p =>
    cases rx
    have e' : (∃ xs, SqL X.K H p xs ∧ n = xs.length) ∨ ∃ xs, SqT X.K H p xs ∧ n = xs.length := e
    rcases e' with ⟨xs, hx, e'⟩ | ⟨xs, hx, e'⟩
    · subst e'
      obtain ⟨its, r', pl, hz⟩ := I.list hx
      have hlen := r'.length
      exact Calls.call_len_list pl.isList (by simp only [List.size_toArray]; omega) ⟨.int xs.length, H, I.tok _, ⟨_, by simp only [List.size_toArray]; rw [hlen]⟩, q⟩
    · subst e'
      obtain ⟨its, r', pl, hz⟩ := I.tuple hx
      have hlen := r'.length
      exact len_tuple pl (by simp only [List.size_toArray]; omega) ⟨.int xs.length, H, I.tok _, ⟨_, by simp only [List.size_toArray]; rw [hlen]⟩, q⟩
  | _ => exact (show False from e).elim
end
end L2
namespace L2
open PySem PySem.Spec PyProof.Rows
structure ObjM (h : Heap) (x dx C : Addr) (mA : Str → Option Value) : Prop where
  obj : h.get? x = some (PySem.W.instObj C dx)
  ns : h.Ns1 dx mA
  ne : dx ≠ x
theorem lookIn_ns {h : Heap} {dx : Addr} {mA : Str → Option Value} (n : h.Ns1 dx mA) : ∃ od, h.get? dx = some od ∧ ∀ name, PySem.W.lookIn name od = some (mA name) := by
  obtain ⟨o, es, ep, ho, hd, hk, _, hm⟩ := n
  refine ⟨o, ho, fun name => ?_⟩
  have e := hm name
  unfold nsFind findBy at e
  rw [← Array.find?_toList] at e
  unfold PySem.W.lookIn
  rw [hd]
  dsimp only
  split
  · rename_i y q
    rw [q] at e
    exact congrArg some e
  · rename_i q
    rw [q] at e
    have a : es.toList.any (·.refKey) = false := by
      rw [List.any_eq_false]
      intro y hy
      obtain ⟨z, t, hkey⟩ := hk y (Array.mem_toList_iff.mp hy)
      simp [DictEntry.refKey, hkey]
    have a' : ¬ es.toList.any (·.refKey) = true := by rw [a]; exact Bool.false_ne_true
    rw [if_neg a']
    exact congrArg some e
theorem ObjM.look {h : Heap} {x dx C : Addr} {mA : Str → Option Value} (I : ObjM h x dx C mA) : ∃ od, PySem.W.InstAt h x (PySem.W.instObj C dx) C (some od) ∧ ∀ name, PySem.W.lookIn name od = some (mA name) :=
  let ⟨od, ho, hl⟩ := lookIn_ns I.ns
  ⟨od, ⟨I.obj, rfl, rfl, ho⟩, hl⟩
section
variable {prog : Program} {w : World} {A : Around} {E : Value → Shared → Prop} {s : Shared} {K : PySem.W.Frag} {x dx C f : Addr} {mA : Str → Option Value} {name : Str} {v : Value}
end
theorem RelO.some_of {v : V} {o : Option Value} (r : RelO (some v) o) : ∃ u, o = some u ∧ RelV v u := by
  cases o with
  | none => exact (show False from r).elim
  | some u => exact ⟨u, rfl, r⟩
theorem RelO.none_of {o : Option Value} (r : RelO none o) : o = none := by
  cases o with
  | none => rfl
  | some u => exact (show False from r).elim
section
variable {P : Program} {w : World} {H H' : Hp} {h h' : Heap} {a C dx : Addr} {fs fs' : List (Str × V)}
theorem ins_get (hok : HOk P w H h) (e : H a = some (.ins C dx fs)) : ∃ mA, ObjM h a dx C mA ∧ (∀ f, RelO (fs.lookup f) (mA f)) ∧ PySem.Within mA (fs.map (·.1)) ∧ fs.length ≤ 1000 ∧ H dx = some (.own a) := by
  obtain ⟨d, z, ne, ob, mA, n, r, q⟩ := (show ObjOk P w H h a (.ins C dx fs) from hok a _ e)
  exact ⟨mA, ⟨ob, n, ne⟩, r, q, z, d⟩
end
structure Cls (K : PySem.W.Frag) (C : Addr) : Prop where
  pg : PySem.W.plainGet K C Str.empty = true
  hd : PySem.W.hasDictIn K C = true
  po : PySem.W.plainOver K C = true
  sa : PySem.W.findIn K (.ref C) "__setattr__" = some (some (.builtin "object.__setattr__"))
theorem Cls.get {K : PySem.W.Frag} {C : Addr} (c : Cls K C) (f : Str) : PySem.W.plainGet K C f = true := c.pg
structure Con (K : PySem.W.Frag) (C : Addr) (f : Str) (v : V) (u : Value) : Prop where
  at_ : PySem.W.findIn K (.ref C) f = some (some u)
  rel : RelV v u
  get : PySem.W.specialIn K u "__get__" = some none
  cp : PySem.W.copiedNames.contains f = false
structure Meth (K : PySem.W.Frag) (C : Addr) (m : Str) (f : Addr) : Prop where
  at_ : PySem.W.findIn K (.ref C) m = some (some (.ref f))
  fn : PySem.W.isFn K (.ref f) = true
  kp : PySem.W.keepIn K (.ref f) = true
section
variable {X : Cx} {pins : List (Addr × Obj)} {σ : St} {H : Hp} {s : Shared} {a C dx : Addr} {fs : List (Str × V)} {f : Str} {v : V} {A : Around} {E : Value → Shared → Prop}
theorem Inv.made (I : Inv X pins σ H s) : Inv X pins σ (upd (upd H s.heap.objs.size (.own (s.heap.objs.size + 1))) (s.heap.objs.size + 1) (.ins C s.heap.objs.size []))
    { s with heap := (s.heap.push PySem.W.emptyDict).push (PySem.W.instObj C s.heap.objs.size) } := by
  have e1 : (s.heap.push PySem.W.emptyDict).get? s.heap.objs.size = some PySem.W.emptyDict := Heap.get?_push_size s.heap rfl
  have e2 : ((s.heap.push PySem.W.emptyDict).push (PySem.W.instObj C s.heap.objs.size)).get? (s.heap.objs.size + 1) = some (PySem.W.instObj C s.heap.objs.size) := by
    have := Heap.get?_push_size (s.heap.push PySem.W.emptyDict) (o := PySem.W.instObj C s.heap.objs.size) rfl
    rwa [Heap.size_push] at this
  have e3 : (s.heap.push PySem.W.emptyDict).Ns s.heap.objs.size (fun _ => none) := ⟨PySem.W.emptyDict, #[], _, e1, rfl, (fun e he => absurd he (by simp)), fun _ => rfl⟩
  have I1 := I.laid (a := s.heap.objs.size) (o := .own (s.heap.objs.size + 1)) (h' := s.heap.push PySem.W.emptyDict) (t' := s.toks) (fun b u q => Heap.get?_push_of_some _ q) (Nat.le_refl _) ⟨_, e1⟩
  refine I1.laid (a := s.heap.objs.size + 1) (o := .ins C s.heap.objs.size []) (t' := s.toks) (fun b u q => Heap.get?_push_of_some _ q) (Nat.le_of_eq (Heap.size_push _ _)) ?_
  have ne : s.heap.objs.size ≠ s.heap.objs.size + 1 := Nat.ne_of_lt (Nat.lt_succ_self _)
  refine ⟨by rw [upd_ne ne, upd_same], Nat.zero_le _, ne, e2, fun _ => none, (Heap.Ns1.of_empty e3).at fun o q => Heap.get?_push_of_some _ q, fun _ => True.intro, fun y hy => absurd rfl hy⟩
end
section
variable {X : Cx} {o e value : Expr} {f : Str} {pos pos' tpos : Pos} {ta tv : TE}
end
section
variable {X : Cx} {pins : List (Addr × Obj)} {σ : St} {H : Hp} {s : Shared} {A : Around} {E : Value → Shared → Prop} {Q : Value → Shared → Prop} {c : Value} {b : Bool}
inductive TyOf (K : PySem.W.Frag) (H : Hp) : V → Value → Prop where
  | non : TyOf K H .non (.type "NoneType")
  | bl (x : Bool) : TyOf K H (.bl x) (.type "bool")
  | int (i : Int) : TyOf K H (.int i) (.type "int")
  | str (x : Str) : TyOf K H (.str x) (.type "str")
  | flt (x : UInt64) : TyOf K H (.flt x) (.type "float")
  | lst {a : Addr} {xs : List V} (e : H a = some (.lst xs)) : TyOf K H (.ref a) (.type "list")
  | frz {a : Addr} {o : Obj} {xs : List V} (e : H a = some (.frz o (.lst xs))) : TyOf K H (.ref a) (.type "list")
  | tup {a : Addr} {xs : List V} (e : H a = some (.tup xs)) : TyOf K H (.ref a) (.type "tuple")
  | dK {a : Addr} {kvs : List (Key × V)} (e : H a = some (.dK kvs)) : TyOf K H (.ref a) (.type "dict")
  | dT {a : Addr} {kvs : List (List Key × V)} (e : H a = some (.dT kvs)) : TyOf K H (.ref a) (.type "dict")
  | ins {a C dx : Addr} {fs : List (Str × V)} (e : H a = some (.ins C dx fs)) (cl : Cls K C) (ha : PySem.W.findIn K (.ref C) "__class__" = some (some (.builtin "object.__class__")))
      (hn : PySem.W.specialIn K (.builtin "object.__class__") "__get__" = some (some (.builtin "getset_descriptor.__get__"))) (htk : PySem.W.takesIn K (.builtin "object.__class__") = some true)
      (hm : PySem.W.mroIn K C (.type "object") = some true) : TyOf K H (.ref a) (.ref C)
theorem isinst_ok {x : V} {u t : Value} (I : Inv X pins σ H s) (rx : RelV x u) (ty : TyOf X.K H x t) (e : PySem.W.kitOne X.K t c = some b) (h : ∀ tk, Q (.bool b) { s with toks := tk }) :
    wpAny (model X.prog X.w) A (call (.builtin "isinstance") [u, c]) Q E s := by
  cases ty with
  | non => cases (show u = Value.none from rx); exact PySem.W.kia_one PySem.W.kitx_none I.kIn True.intro e (fun z => nomatch z) h
  | bl y => cases (show u = Value.bool y from rx); exact PySem.W.kia_one PySem.W.kitx_bool I.kIn True.intro e (fun z => nomatch z) h
  | int i => obtain ⟨t, q⟩ := (show ∃ t, u = Value.int i t from rx); cases q; exact PySem.W.kia_one PySem.W.kitx_int I.kIn True.intro e (fun z => nomatch z) h
  | str y => obtain ⟨t, q⟩ := (show ∃ t, u = Value.str y t from rx); cases q; exact PySem.W.kia_one PySem.W.kitx_str I.kIn True.intro e (fun z => nomatch z) h
  | flt y => obtain ⟨t, q⟩ := (show ∃ t, u = Value.float y t from rx); cases q; exact PySem.W.kia_one PySem.W.kitx_float I.kIn True.intro e (fun z => nomatch z) h
  | @lst a xs ea =>
    cases (show u = Value.ref a from rx)
    obtain ⟨_, _, n, _, h1⟩ := (show ObjOk X.prog X.w H s.heap a (.lst xs) from I.hok a _ ea)
    exact PySem.W.kia_one PySem.W.kitx_list I.kIn ⟨_, h1, rfl⟩ e (fun z => nomatch z) h
  | @frz a ob xs ea =>
    cases (show u = Value.ref a from rx)
    obtain ⟨_, _, _, n, _, h1⟩ := (show ObjOk X.prog X.w H s.heap a (.frz ob (.lst xs)) from I.hok a _ ea)
    exact PySem.W.kia_one PySem.W.kitx_list I.kIn ⟨_, h1, rfl⟩ e (fun z => nomatch z) h
  | @tup a xs ea =>
    cases (show u = Value.ref a from rx)
    obtain ⟨_, _, _, p⟩ := (show ObjOk X.prog X.w H s.heap a (.tup xs) from I.hok a _ ea)
    obtain ⟨o, h1, h2, _⟩ := p
    exact PySem.W.kia_one PySem.W.kitx_tuple I.kIn ⟨o, h1, h2⟩ e (fun z => nomatch z) h
  | @dK a kvs ea =>
    cases (show u = Value.ref a from rx)
    obtain ⟨_, _, vs, _, p⟩ := (show ObjOk X.prog X.w H s.heap a (.dK kvs) from I.hok a _ ea)
    obtain ⟨o, es, ep, h1, h2, _⟩ := p
    exact PySem.W.kia_one PySem.W.kitx_dict I.kIn ⟨o, h1, h2.1⟩ e (fun z => nomatch z) h
  | @dT a kvs ea =>
    cases (show u = Value.ref a from rx)
    obtain ⟨_, _, xs, _, o, es, ep, h1, h2, _⟩ := (show ObjOk X.prog X.w H s.heap a (.dT kvs) from I.hok a _ ea)
    exact PySem.W.kia_one PySem.W.kitx_dict I.kIn ⟨o, h1, h2.1⟩ e (fun z => nomatch z) h
  | @ins a C dx fs ea cl ha hn htk hm =>
    cases (show u = Value.ref a from rx)
    obtain ⟨mA, O, _⟩ := ins_get I.hok ea
    obtain ⟨od, J, _⟩ := O.look
    exact PySem.W.kia_one (PySem.W.kitx_own (cl.get _) cl.hd ha hn htk hm) I.kIn J e (fun z => nomatch z) h
end
end L2
namespace L2
open PySem PySem.Spec PyProof.Rows
structure Room (k : Nat) (A : Around) : Prop where
  hd : A.handled = none
  dp : A.depth + 3 * k + 5 < recursionLimit
  un : A.units + 16 * k + 200 < cLine
theorem Room.mono {j k : Nat} {A : Around} (r : Room k A) (h : j ≤ k) : Room j A := ⟨r.hd, by have := r.dp; omega, by have := r.un; omega⟩
theorem Room.deeper {k : Nat} {A : Around} (r : Room (k + 1) A) (env : Env) : Room k (A.deeper env) :=
  ⟨r.hd, by have := r.dp; show A.depth + 1 + 3 * k + 5 < _; omega, by have := r.un; show A.units + 3 + 16 * k + 200 < _; omega⟩
theorem Room.in1 {k : Nat} {A : Around} (r : Room (k + 1) A) : Room k A.in1 :=
  ⟨r.hd, by have := r.dp; show A.depth + 3 * k + 5 < _; omega, by have := r.un; show A.units + 1 + 16 * k + 200 < _; omega⟩
theorem Room.depth {k : Nat} {A : Around} (r : Room k A) : A.depth < recursionLimit := by have := r.dp; omega
theorem Room.units {k : Nat} {A : Around} (r : Room k A) : A.units + 64 < cLine := by have := r.un; omega
def tNil : TA := fun _ H Q => Q [] H
def tCons (ta : TE) (tr : TA) : TA := fun σ H Q => ta σ H fun x H1 => tr σ H1 fun xs H2 => Q (x :: xs) H2
section
variable {X : Cx} {e : Expr} {es : List Expr} {te : TE} {t : TA} {pos : Pos}
theorem pa_nil : PA X [] tNil := fun _ _ _ _ H Q I h => Calls.spliced_nil ⟨[], H, I, .nil, h⟩
theorem pa_cons (ha : PE X e te) (hr : PA X es t) (hs : starEach (e :: es) X.env = (false, eval e X.env) :: starEach es X.env := by rfl) : PA X (e :: es) (tCons te t) := by
  intro pos pins s σ H Q I h
  rw [hs]
  show wpAny _ _ (spliced ((false, eval e X.env) :: backTo pos (starEach es X.env))) _ _ s
  refine Calls.spliced_cons (thn (ha pins s σ H _ I h) fun u s1 ⟨x, H1, I1, r1, q1⟩ => ?_)
  exact thn (hr pos pins s1 σ H1 _ I1 q1) fun us s2 ⟨xs, H2, I2, r2, q2⟩ => ⟨x :: xs, H2, I2, .cons r1 r2, q2⟩
def tTup (t : TA) : TE := fun σ H Q => t σ H fun xs H1 => xs.length ≤ sizeLine ∧ ∀ p, H1 p = none → Q (.ref p) (upd H1 p (.tup xs))
def tLst (t : TA) : TE := fun σ H Q => t σ H fun xs H1 => xs.length ≤ sizeLine ∧ ∀ p, H1 p = none → Q (.ref p) (upd H1 p (.lst xs))
theorem pe_tup {x1} (h : PA X es t) : PE X (.Tuple es x1 pos) (tTup t) := by
  intro pins s σ H Q I hq
  refine wpAny_Tuple_spliced (thn (h pos pins s σ H _ I hq) fun us s1 ⟨xs, H1, I1, r, z, q⟩ => ⟨by rw [← r.length]; exact z, ?_⟩)
  have hf : H1 s1.heap.objs.size = none := I1.hok.fresh (Nat.le_refl _)
  refine ⟨.ref s1.heap.objs.size, upd H1 s1.heap.objs.size (.tup xs), I1.laid (t' := s1.toks) (fun b u e => Heap.get?_push_of_some _ e) (Nat.le_refl _) ?_, rfl, q _ hf⟩
  exact ⟨z, us, r, ⟨_, Heap.get?_push_size _ rfl, rfl, _, rfl⟩⟩
theorem pe_lst (h : PA X es t) : PE X (.List es pos) (tLst t) := by
  intro pins s σ H Q I hq
  refine wpAny_List_spliced (thn (h pos pins s σ H _ I hq) fun us s1 ⟨xs, H1, I1, r, z, q⟩ => ⟨by rw [← r.length]; exact z, ?_⟩)
  have hf : H1 s1.heap.objs.size = none := I1.hok.fresh (Nat.le_refl _)
  refine ⟨.ref s1.heap.objs.size, upd H1 s1.heap.objs.size (.lst xs), I1.laid (t' := s1.toks) (fun b u e => Heap.get?_push_of_some _ e) (Nat.le_refl _) ?_, rfl, q _ hf⟩
  exact ⟨z, us, 0, r, Heap.get?_push_size _ rfl⟩
end
abbrev Sp := List V → Hp → VK → XK → Prop
abbrev CXT := List Env → Hp → Shared → XK → Value → Shared → Prop
structure Env0 (P : Program) (w : World) (K : PySem.W.Frag) (mg : Str → Option Value) (base : Heap) (A : Around) (outer : List Env) (s : Shared) (H : Hp) : Prop where
  frames : A.frames = some outer
  mod : Mod K mg base
  bs : ∀ b o, base.get? b = some o → s.heap.get? b = some o ∧ H b = none
  bsz : base.objs.size ≤ s.heap.objs.size
  funs : s.heap.FunFrames base outer
  frf : ∀ b ∈ frs outer, H b = none
  hok : HOk P w H s.heap
  bare : AllBare s.gens
def CE (outer : List Env) (P : Program) (w : World) (H : Hp) (s : Shared) (Q : VK) (u : Value) (s' : Shared) : Prop :=
  ∃ v H', s'.os = s.os ∧ AllBare s'.gens ∧ Un (frs outer) [] H H' s.heap s'.heap ∧ HOk P w H' s'.heap ∧ RelV v u ∧ Q v H'
def CR (CX : CXT) (outer : List Env) (P : Program) (w : World) (H : Hp) (s : Shared) (Q : VK) (E : XK) (r : Result) (s' : Shared) : Prop :=
  match r with
  | .ok (.ret u) => CE outer P w H s Q u s'
  | .ok _ => False
  | .error e => CX outer H s E e s'
structure FnOk (P : Program) (w : World) (K : PySem.W.Frag) (mg : Str → Option Value) (base : Heap) (CX : CXT) (k : Nat) (f : Addr) (fd : FuncData) (ps : List Str) (sp : Sp) : Prop where
  len : ∀ vs H Q E, sp vs H Q E → vs.length = ps.length
  run : ∀ (A : Around) (outer : List Env) (s : Shared) (H : Hp) (args : Args) (us : List Value) (vs : List V) (Q : VK) (E : XK), Room k A → Env0 P w K mg base A outer s H → BindsTo s fd args (ps.zip us) → Vals vs us → sp vs H Q E →
    codeAny (model P w) A (.call (.ref f) args) (CR CX outer P w H s Q E) s
theorem FnOk.mono {P : Program} {w : World} {K : PySem.W.Frag} {mg : Str → Option Value} {base : Heap} {CX : CXT} {j k : Nat} {f : Addr} {fd : FuncData} {ps : List Str} {sp : Sp} (F : FnOk P w K mg base CX j f fd ps sp) (h : j ≤ k) :
    FnOk P w K mg base CX k f fd ps sp := ⟨F.len, fun A outer s H args us vs Q E hr => F.run A outer s H args us vs Q E (hr.mono h)⟩
theorem FnOk.imp {P : Program} {w : World} {K : PySem.W.Frag} {mg : Str → Option Value} {base : Heap} {CX : CXT} {k : Nat} {f : Addr} {fd : FuncData} {ps : List Str} {sp sp' : Sp} (F : FnOk P w K mg base CX k f fd ps sp)
    (h : ∀ vs H Q E, sp' vs H Q E → sp vs H Q E) : FnOk P w K mg base CX k f fd ps sp' :=
  ⟨fun vs H Q E q => F.len vs H Q E (h _ _ _ _ q), fun A outer s H args us vs Q E hr he hb hv hs => F.run A outer s H args us vs Q E hr he hb hv (h _ _ _ _ hs)⟩
theorem Env0.in1 {P : Program} {w : World} {K : PySem.W.Frag} {mg : Str → Option Value} {base : Heap} {A : Around} {outer : List Env} {s : Shared} {H : Hp} (e : Env0 P w K mg base A outer s H) :
    Env0 P w K mg base A.in1 outer s H := ⟨e.frames, e.mod, e.bs, e.bsz, e.funs, e.frf, e.hok, e.bare⟩
section
variable {X : Cx} {pins : List (Addr × Obj)} {σ : St} {H : Hp} {s s' : Shared}
theorem Inv.env0 (I : Inv X pins σ H s) : Env0 X.prog X.w X.K X.mg X.base X.A X.stack s H :=
  ⟨I.ok.frames, I.ok.mod, I.bs, Nat.le_trans I.ok.bsz I.sz, I.stack, I.stkFree, I.hok, I.bare⟩
theorem Inv.after {Q : VK} {u : Value} (I : Inv X pins σ H s) (h : CE X.stack X.prog X.w H s Q u s') : EP X pins σ Q u s' := by
  obtain ⟨v, H', os, bare, un, hok, r, q⟩ := h
  obtain ⟨hh, g, d, t, os'⟩ := s'
  obtain rfl : os' = s.os := os
  exact ⟨v, H', I.call (h' := hh) (g' := g) (d' := d) (t' := t) (ch := []) un hok bare (fun b z => absurd z (by simp)), r, q⟩
end
def tCall (sp : Sp) (dvs : List V) (E : XK) (t : TA) : TE := fun σ H Q => t σ H fun vs H1 => sp (vs ++ dvs) H1 Q E
def Binds (K : PySem.W.Frag) (fd : FuncData) (ps : List Str) (ds : List Value) : Prop :=
  ∀ (s : Shared) (us : List Value), K.In s.heap → (us ++ ds).length = ps.length → BindsTo s fd ⟨us, []⟩ (ps.zip (us ++ ds))
theorem Binds.all {K : PySem.W.Frag} {fd : FuncData} {ps : List Str} (h : ∀ us : List Value, us.length = ps.length → bindArgs fd ⟨us, []⟩ = pure (ps.zip us)) : Binds K fd ps [] := fun s us _ hl => by
  rw [List.append_nil] at hl ⊢
  exact .of_eq (h us hl)
def Passes (CX : CXT) (X : Cx) (E : XK) : Prop := ∀ (pins : List (Addr × Obj)) (σ : St) (H : Hp) (s : Shared) (e : Value) (s' : Shared), Inv X pins σ H s → CX X.stack H s E e s' → X.xe e s'
section
variable {X : Cx} {CX : CXT} {k : Nat} {f C : Addr} {fd : FuncData} {ps : List Str} {sp : Sp} {dvs : List V} {ds : List Value} {E : XK} {x m : Str} {p pos apos : Pos} {e o : Expr} {es : List Expr} {ta : TE} {t : TA}
theorem run_fn {pins : List (Addr × Obj)} {σ : St} {H : Hp} {s : Shared} {Q : VK} {us : List Value} {vs : List V} (F : FnOk X.prog X.w X.K X.mg X.base CX k f fd ps sp) (hr : Room k X.A) (hb : Binds X.K fd ps ds) (hd : Vals dvs ds) (hx : Passes CX X E)
    (I : Inv X pins σ H s) (r : Vals vs us) (h : sp (vs ++ dvs) H Q E) : wpAny (model X.prog X.w) X.A (call (.ref f) us) (EP X pins σ Q) X.xe s := by
  have r2 : Vals (vs ++ dvs) (us ++ ds) := r.append hd
  have hl : (us ++ ds).length = ps.length := by rw [← r2.length]; exact F.len _ _ _ _ h
  refine wpAny_call (codeAny_mono (F.run X.A X.stack s H ⟨us, []⟩ (us ++ ds) (vs ++ dvs) Q E hr I.env0 (hb s us I.kIn hl) r2 h) fun r s' hq => ?_)
  cases r with
  | error e => exact hx pins σ H s e s' I hq
  | ok fl =>
    cases fl with
    | ret u => exact I.after hq
    | next => exact False.elim hq
    | brk => exact False.elim hq
    | cont => exact False.elim hq
theorem pe_call (F : FnOk X.prog X.w X.K X.mg X.base CX k f fd ps sp) (hr : Room k X.A) (hg : Gl X x) (hm : X.mg x = some (.ref f)) (hk : PySem.W.keepIn X.K (.ref f) = true) (hb : Binds X.K fd ps ds) (hd : Vals dvs ds) (hx : Passes CX X E)
    (ha : PA X (e :: es) t) (hdb : (x == ("__debug__" : Str)) = false := by decide) (he : starEach (e :: es) X.env = (false, eval e X.env) :: starEach es X.env := by rfl) (hpl : (backTo pos (starEach es X.env)).any (·.1) = false := by rfl) :
    PE X (.Call (.Name x p) (e :: es) [] pos) (tCall sp dvs E t) := by
  intro pins s σ H Q I h
  refine wpAny_Call_Name_kw (ld_glob I hg hm ?_ hdb)
  refine PySem.W.callWith_K (h₀ := X.base) I.ok.mod.kin hk (thn (ha pos pins s σ H _ I h) fun us s1 ⟨vs, H1, I1, r, q⟩ => ⟨I1.kIn, ?_⟩) he hpl
  exact run_fn F hr hb hd hx I1 r q
structure Mk (K : PySem.W.Frag) (C f : Addr) : Prop where
  makes : PySem.W.makesIn K C = true
  init : PySem.W.findIn K (.ref C) "__init__" = some (some (.ref f))
  fn : PySem.W.isFn K (.ref f) = true
  kp : PySem.W.keepIn K (.ref C) = true
end
section
variable {X : Cx} {CX : CXT} {k : Nat} {f C : Addr} {fd : FuncData} {ps ks : List Str} {sp : Sp} {E : XK} {x m : Str} {p pos apos kpos : Pos} {e o : Expr} {es : List Expr} {kws : List Keyword} {te ta : TE} {t tk : TA} {nm : Option Str}
structure KBinds (K : PySem.W.Frag) (fd : FuncData) (ps ks : List Str) (g : List Value → List Value → List Value) (gV : List V → List V → List V) : Prop where
  to : ∀ (s : Shared) (us ws : List Value), K.In s.heap → (g us ws).length = ps.length → BindsTo s fd ⟨us, ks.zip ws⟩ (ps.zip (g us ws))
  rel : ∀ {vs : List V} {us : List Value} {zs : List V} {ws : List Value}, Vals vs us → Vals zs ws → Vals (gV vs zs) (g us ws)
variable {g : List Value → List Value → List Value} {gV : List V → List V → List V}
end
structure FnScope (N P : List Str) (sc : Scope) : Prop where
  kind : sc.kind = .function
  co : sc.isCoroutine = false
  gen : sc.isGenerator = false
  nd : N.Nodup
  pre : N.take P.length = P
  par : ∀ x ∈ P, sc.names.lookup x = some .local ∨ sc.names.lookup x = some .cell
  nofree : ∀ y ∈ sc.names, y.2 ≠ .free
theorem bindL_out {kindOf : Str → Option NameKind} {x : Str} : ∀ {binds : List (Str × Value)} {m : Str → Option Value}, (∀ v, (x, v) ∉ binds) → bindL kindOf binds m x = m x
  | [], _, _ => rfl
  | (n, v) :: r, m, h => by
    unfold bindL
    rw [bindL_out fun w hw => h w (List.mem_cons_of_mem _ hw)]
    split
    · have : x ≠ n := by rintro rfl; exact h v List.mem_cons_self
      simp [this]
    · rfl
theorem bindC_out {kindOf : Str → Option NameKind} {x : Str} : ∀ {binds : List (Str × Value)} {m : Str → Option Value}, (∀ v, (x, v) ∉ binds) → bindC kindOf binds m x = m x
  | [], _, _ => rfl
  | (n, v) :: r, m, h => by
    unfold bindC
    rw [bindC_out fun w hw => h w (List.mem_cons_of_mem _ hw)]
    split
    · rfl
    · have : x ≠ n := by rintro rfl; exact h v List.mem_cons_self
      simp [this]
theorem bindL_get {kindOf : Str → Option NameKind} {x : Str} {v : Value} : ∀ {P : List Str} {vs : List Value} {i : Nat} {m : Str → Option Value}, P.Nodup → P[i]? = some x → vs[i]? = some v → kindOf x = some .local →
    bindL kindOf (P.zip vs) m x = some v
  | [], _, _, _, _, h, _, _ => by simp at h
  | _ :: _, [], _, _, _, _, h, _ => by simp at h
  | p :: P, w :: vs, 0, m, nd, h1, h2, hk => by
    simp at h1 h2; subst h1; subst h2
    show bindL kindOf ((p, w) :: P.zip vs) m p = _
    unfold bindL
    rw [bindL_out fun v hv => (List.nodup_cons.mp nd).1 (List.of_mem_zip hv).1, if_pos hk]
    simp
  | p :: P, w :: vs, i + 1, m, nd, h1, h2, hk => by
    show bindL kindOf ((p, w) :: P.zip vs) m x = _
    unfold bindL
    exact bindL_get (i := i) (List.nodup_cons.mp nd).2 (by simpa using h1) (by simpa using h2) hk
theorem bindC_get {kindOf : Str → Option NameKind} {x : Str} {v : Value} : ∀ {P : List Str} {vs : List Value} {i : Nat} {m : Str → Option Value}, P.Nodup → P[i]? = some x → vs[i]? = some v → kindOf x ≠ some .local →
    bindC kindOf (P.zip vs) m x = some v
  | [], _, _, _, _, h, _, _ => by simp at h
  | _ :: _, [], _, _, _, _, h, _ => by simp at h
  | p :: P, w :: vs, 0, m, nd, h1, h2, hk => by
    simp at h1 h2; subst h1; subst h2
    show bindC kindOf ((p, w) :: P.zip vs) m p = _
    unfold bindC
    rw [bindC_out fun v hv => (List.nodup_cons.mp nd).1 (List.of_mem_zip hv).1, if_neg hk]
    simp
  | p :: P, w :: vs, i + 1, m, nd, h1, h2, hk => by
    show bindC kindOf ((p, w) :: P.zip vs) m x = _
    unfold bindC
    exact bindC_get (i := i) (List.nodup_cons.mp nd).2 (by simpa using h1) (by simpa using h2) hk
def start (N : List Str) (vs : List V) : St := vs.map some ++ List.replicate (N.length - vs.length) none
def cxOf (CX : CXT) (P : Program) (w : World) (K : PySem.W.Frag) (mg : Str → Option Value) (base : Heap) (N : List Str) (qual : Str) (scope : Scope) (f : Addr) (cd : Value) (A : Around) (outer : List Env) (s : Shared) (H : Hp) (E : XK) : Cx where
  prog := P
  w := w
  K := K
  mg := mg
  base := base
  A := A.deeper (envOfC qual scope s.heap.objs.size f cd)
  N := N
  s₀ := s
  H₀ := H
  env := envOfC qual scope s.heap.objs.size f cd
  outer := outer
  stack := envOfC qual scope s.heap.objs.size f cd :: outer
  ex := []
  calm := true
  fn := fun _ => true
  pn := []
  xe := fun e s' => wpAny (model P w) (A.deeper (envOfC qual scope s.heap.objs.size f cd)) (leaving (envOfC qual scope s.heap.objs.size f cd) e) (fun _ s'' => CX outer H s E e s'') (fun e' s'' => CX outer H s E e' s'') s'
theorem cell_has {sc : Scope} {n : Nat} {x : Str} (h : sc.names.lookup x = some .cell) : ∃ c, (cellsFrom n sc.names []).lookup x = some c := by
  have q := PySem.W.cellsFrom_some sc.names n [] (.inl h)
  exact Option.isSome_iff_exists.mp q
theorem inv_start {CX : CXT} {P : Program} {w : World} {K : PySem.W.Frag} {mg : Str → Option Value} {base : Heap} {N ps : List Str} {qual : Str} {scope : Scope} {f : Addr} {cd : Value} {A : Around} {outer : List Env} {s s1 : Shared} {H : Hp} {E : XK} {us : List Value} {vs : List V}
    (S : FnScope N ps scope) (hd : A.handled = none) (e0 : Env0 P w K mg base A outer s H) (hl : vs.length = ps.length) (r : Vals vs us)
    (x : InCallC s s.heap.objs.size (bindL (envOfC qual scope s.heap.objs.size f cd).kindOf (ps.zip us) fun _ => none) (cellsFrom (s.heap.objs.size + 1) scope.names []) (bindC (envOfC qual scope s.heap.objs.size f cd).kindOf (ps.zip us) fun _ => none) s1) :
    Inv (cxOf CX P w K mg base N qual scope f cd A outer s H E) [] (start N vs) H s1 := by
  have hpl : ps.length ≤ N.length := by have := congrArg List.length S.pre; rw [List.length_take] at this; omega
  obtain ⟨h1, tk, rfl, hk⟩ := x.done
  have noA : ∀ b : Addr, b ∉ (cxOf CX P w K mg base N qual scope f cd A outer s H E).ex := fun b z => absurd (show b ∈ ([] : List Addr) from z) (by simp)
  refine ⟨⟨e0.mod, S.kind, rfl, rfl, Nat.le_refl _, fun y z c h1 h2 => ?_, fun y hy => ?_, fun y c _ h => ?_, fun _ => hd, Around.frames_deeper e0.frames, .inr ⟨rfl, rfl⟩, fun b z => absurd z (noA b), e0.bs, e0.bsz, fun b _ _ => noA b, fun b z => absurd z (noA b), e0.funs, e0.frf⟩,
    rfl, e0.bare, Un.kept hk, ⟨_, x.toInCall.ns, fun i y v h1 h2 h3 => ?_⟩, fun y c h => ⟨_, x.cell y c h⟩, e0.hok.fresh (Nat.le_refl _), fun y c h => ?_, fun p hp => absurd (show p ∈ ([] : List (Addr × Obj)) from hp) (by simp), e0.hok.kept hk, ?_⟩
  · exact name_of_addr x.apart (PySem.mem_of_lookup h1) (PySem.mem_of_lookup h2)
  · have hy : scope.names.lookup y = some .cell ∨ scope.names.lookup y = some .free := hy
    rcases hy with hy | hy
    · exact cell_has hy
    · exact absurd rfl (S.nofree _ (PySem.mem_of_lookup hy))
  · exact Nat.le_of_lt (x.above y c (PySem.mem_of_lookup h))
  · have hi : i < vs.length := by
      unfold start at h2
      by_cases hi : i < vs.length
      · exact hi
      · rw [List.getElem?_append_right (by simpa using hi)] at h2
        rw [List.getElem?_replicate] at h2
        split at h2 <;> cases h2
    have ha : vs[i]? = some v := by
      unfold start at h2
      rw [List.getElem?_append_left (by simpa using hi), List.getElem?_map] at h2
      cases e : vs[i]? with
      | none => rw [e] at h2; cases h2
      | some a => rw [e] at h2; cases h2; rfl
    obtain ⟨u, hu, rv⟩ := r.get ha
    have hp : ps[i]? = some y := by
      rw [← S.pre, List.getElem?_take_of_lt (by omega)]; exact h1
    have ndP : ps.Nodup := by rw [← S.pre]; exact S.nd.sublist (List.take_sublist _ _)
    refine ⟨u, rv, ?_⟩
    rcases S.par y (List.mem_of_getElem? hp) with k | k
    · exact .inl ⟨k, bindL_get ndP hp hu k⟩
    · obtain ⟨c, e⟩ := cell_has (n := s.heap.objs.size + 1) k
      refine .inr ⟨.inl k, c, e, ?_⟩
      have q := x.cell y c e
      rw [bindC_get ndP hp hu (by show scope.names.lookup y ≠ _; rw [k]; decide)] at q
      exact q
  · exact e0.hok.fresh (Nat.le_of_lt (x.above y c (PySem.mem_of_lookup h)))
  · unfold start
    show _ = N.length
    rw [List.length_append, List.length_map, List.length_replicate]
    omega
theorem fn_of {CX : CXT} {P : Program} {w : World} {K : PySem.W.Frag} {mg : Str → Option Value} {base : Heap} {k : Nat} {f : Addr} {name qual : Str} {params : Arguments} {body : List Stmt} {scope : Scope} {dV kV doc pm cdv ct oc : Value} {an od : Option Addr}
    {osl : Array (Option Value)} {N ps : List Str} {sp : Sp} (lk : K.lookup f = some ⟨oc, od, .func (PySem.W.fnOf name qual params body scope dV kV doc pm an cdv ct), osl⟩) (hcd : PySem.W.codeIn K cdv qual = true) (S : FnScope N ps scope)
    (len : ∀ vs H Q E, sp vs H Q E → vs.length = ps.length)
    (hbody : ∀ (A : Around) (outer : List Env) (s : Shared) (H : Hp) (vs : List V) (Q : VK) (E : XK), Room k (A.deeper (envOfC qual scope s.heap.objs.size f cdv)) → sp vs H Q E →
      ∃ t, PSs (cxOf CX P w K mg base N qual scope f cdv A outer s H E) body t ∧ t { nx := fun _ H' => Q .non H', rt := Q } (start N vs) H) :
    FnOk P w K mg base CX (k + 1) f (PySem.W.fnOf name qual params body scope dV kV doc pm an cdv ct) ps sp := by
  refine ⟨len, fun A outer s H args us vs Q E hr e0 hb r hsp => ?_⟩
  have hl := len _ _ _ _ hsp
  have KX : K.In s.heap := e0.mod.kin.keeps fun b o e => (e0.bs b o e).1
  have lim : s.heap.NoLimit := e0.mod.nolimit.keeps fun b o e => (e0.bs b o e).1
  have hkind : ∀ y ∈ ps.zip us, scope.names.lookup y.1 = some .local ∨ (scope.names.lookup y.1 = some .cell ∧ ((cellsFrom (s.heap.objs.size + 1) scope.names []).lookup y.1).isSome = true) := fun ⟨n, v⟩ hy => by
    rcases S.par n (List.of_mem_zip hy).1 with q | q
    · exact .inl q
    · exact .inr ⟨q, PySem.W.cellsFrom_some _ _ _ (.inl q)⟩
  refine codeAny_call_function hr.depth (KX _ _ lk) rfl S.co S.gen rfl (PySem.W.codeRec_of KX hcd) (hb _ _ _ _ ?_)
  refine wpAny_newFunctionEnv_cells S.kind hkind fun env he s1 x => ?_
  subst he
  refine ⟨lim.keeps x.toInCall.keep, codeAny_func ?_⟩
  obtain ⟨t, ht, hq⟩ := hbody A outer s H vs Q E (hr.deeper _) hsp
  have I : Inv (cxOf CX P w K mg base N qual scope f cdv A outer s H E) [] (start N vs) H s1 := inv_start S hr.hd e0 hl r x
  refine wpAny_mono (ht [] s1 (start N vs) H _ I hq) (fun fl s' hs => ?_) fun e s' hs => hs
  have fin : ∀ {σ' : St} {H' : Hp} {v : V} {u : Value}, Inv (cxOf CX P w K mg base N qual scope f cdv A outer s H E) [] σ' H' s' → RelV v u → Q v H' → CE outer P w H s Q u s' :=
    fun {σ' H' v u} J rv q => ⟨v, H', J.os, J.bare, J.base, J.hok, rv, q⟩
  cases fl with
  | ret u =>
    obtain ⟨v, σ', H', J, rv, q⟩ := hs
    exact fin J rv q
  | next =>
    obtain ⟨σ', H', J, q⟩ := hs
    exact fin (v := V.non) (u := Value.none) J rfl q
  | brk =>
    obtain ⟨_, _, _, q⟩ := hs
    exact False.elim q
  | cont =>
    obtain ⟨_, _, _, q⟩ := hs
    exact False.elim q
end L2
namespace L2
open PySem PySem.Spec PyProof.Rows
section
variable {X : Cx} {x : Str} {p pos : Pos} {e : Expr} {es : List Expr} {t : TA} {id T : String} {r : List V → Hp → VK → Prop}
def tCB (r : List V → Hp → VK → Prop) (t : TA) : TE := fun σ H Q => t σ H fun vs H1 => r vs H1 Q
theorem pe_callB (hc : CallR X (.builtin id) r) (hg : Gl X x) (hm : X.mg x = none) (hv : bootBuiltins x = some (.builtin id)) (ha : PA X (e :: es) t) (hn : x ≠ "__name__" := by decide) (hdb : (x == ("__debug__" : Str)) = false := by decide)
    (he : starEach (e :: es) X.env = (false, eval e X.env) :: starEach es X.env := by rfl) (hpl : (backTo pos (starEach es X.env)).any (·.1) = false := by rfl) : PE X (.Call (.Name x p) (e :: es) [] pos) (tCB r t) := by
  intro pins s σ H Q I h
  refine wpAny_Call_Name_kw (ld_blt I hg hm hv ?_ hn hdb)
  exact PyProof.Rows.callWith_builtin1 (thn (ha pos pins s σ H _ I h) fun us s1 ⟨vs, H1, I1, r1, q1⟩ => hc pins s1 σ H1 vs us Q I1 r1 q1) he hpl
theorem pe_callTy (hc : CallR X (.type T) r) (hg : Gl X x) (hm : X.mg x = none) (hv : bootBuiltins x = some (.type T)) (ha : PA X (e :: es) t) (hn : x ≠ "__name__" := by decide) (hdb : (x == ("__debug__" : Str)) = false := by decide)
    (he : starEach (e :: es) X.env = (false, eval e X.env) :: starEach es X.env := by rfl) (hpl : (backTo pos (starEach es X.env)).any (·.1) = false := by rfl) : PE X (.Call (.Name x p) (e :: es) [] pos) (tCB r t) := by
  intro pins s σ H Q I h
  refine wpAny_Call_Name_kw (ld_blt I hg hm hv ?_ hn hdb)
  exact PyProof.Rows.callWith_type1 (thn (ha pos pins s σ H _ I h) fun us s1 ⟨vs, H1, I1, r1, q1⟩ => hc pins s1 σ H1 vs us Q I1 r1 q1) he hpl
end
end L2
namespace HT
open PySem PyProof.Rows
section
open PySem.SeqAt
open PySem.AutoSeq1 (wpAny_loadPart')
open PySem.MeetsSeq PySem.MeetsSeq2 PySem.MeetsSeq3
end
section
variable {prog : Program} {w : World} {A : Around} {E : Value → Shared → Prop} {s : Shared}
theorem cat_tup {t b : Addr} {vs ws : List Value} {Q : Value → Shared → Prop} (ht : IsTup s.heap t vs.toArray) (hb : IsTup s.heap b ws.toArray) (hv : vs ≠ [])
    (h1 : ws = [] → Q (.ref t) s) (h2 : ws ≠ [] → Q (.ref s.heap.objs.size) { s with heap := s.heap.push { cls := .type "tuple", data := .seq (vs ++ ws).toArray } })
    (hsz : vs.length + ws.length ≤ sizeLine) : wpAny (model prog w) A (binaryOp .Add (.ref t) (.ref b)) Q E s := by
  obtain ⟨⟨cls, dd, data, sl⟩, ho, hc, n, hd⟩ := id ht
  obtain ⟨⟨cls2, dd2, data2, sl2⟩, ho2, hc2, n2, hd2⟩ := id hb
  simp only at hc hd hc2 hd2
  subst hc hd hc2 hd2
  have e : vs.toArray ++ ws.toArray = (vs ++ ws).toArray := by simp
  by_cases hw : ws = []
  · exact concat_meets ⟨_, ho, rfl⟩ ⟨_, ho2, rfl⟩ noFill_tuple_add seq_tuple_add PySem.F.slot_tuple_add PySem.F.entry_tuple_add (PySem.F.args_tuple_add_2 _ _)
      (tuple_addW1 t b vs.toArray ws.toArray n n2 dd dd2 sl sl2 (by simpa using hv) (by simp [hw])) ⟨ho, ho2, h1 hw⟩
  · refine concat_meets ⟨_, ho, rfl⟩ ⟨_, ho2, rfl⟩ noFill_tuple_add seq_tuple_add PySem.F.slot_tuple_add PySem.F.entry_tuple_add (PySem.F.args_tuple_add_2 _ _)
      (tuple_addW2 t b vs.toArray ws.toArray n n2 dd dd2 sl sl2 (by simpa using hv) (by simpa using hw) (by rw [List.size_toArray, List.size_toArray]; exact hsz)) ⟨ho, ho2, ?_⟩
    rw [e]
    exact h2 hw
def sIx (n d : Nat) : Option Int → Nat
  | none => d
  | some v => if v < 0 then (v + (n : Int)).toNat else min v.toNat n
theorem sIx_none (n d : Nat) : sIx n d none = d := rfl
theorem sIx_nat (n d k : Nat) : sIx n d (some (k : Int)) = min k n := by
  show (if (k : Int) < 0 then ((k : Int) + (n : Int)).toNat else min (k : Int).toNat n) = min k n
  rw [if_neg (by omega), Int.toNat_natCast]
theorem sIx_le (n d : Nat) (hd : d ≤ n) (o : Option Int) : sIx n d o ≤ n := by
  cases o with
  | none => exact hd
  | some v =>
    show (if v < 0 then (v + (n : Int)).toNat else min v.toNat n) ≤ n
    by_cases hv : v < 0
    · rw [if_pos hv]; omega
    · rw [if_neg hv]; exact Nat.min_le_right _ _
theorem clip_eq (v : Int) (n d : Nat) : (if v < 0 then max (v + (n : Int)) 0 else min v (n : Int)) = ((sIx n d (some v) : Nat) : Int) := by
  show (if v < 0 then max (v + (n : Int)) 0 else min v (n : Int)) = (((if v < 0 then (v + (n : Int)).toNat else min v.toNat n) : Nat) : Int)
  by_cases hv : v < 0
  · simp only [if_pos hv]; omega
  · simp only [if_neg hv]; omega
theorem adjust_gen (lo hi : Option Int) (n : Nat) : Builtin.Slice.sliceAdjust lo hi 1 (n : Int) = (((sIx n 0 lo : Nat) : Int), ((sIx n n hi : Nat) : Int)) := by
  have h1 : ¬ ((1 : Int) < 0) := by omega
  unfold Builtin.Slice.sliceAdjust
  simp only [h1, if_false]
  refine Prod.ext ?_ ?_
  · cases lo with
    | none => rfl
    | some v => exact clip_eq v n 0
  · cases hi with
    | none => rfl
    | some v => exact clip_eq v n n
theorem places_gen (i j : Nat) : Builtin.Slice.slicePlaces (i : Int) (j : Int) 1 = j - i := by
  unfold Builtin.Slice.slicePlaces
  have h1 : (1 : Int) > 0 := by omega
  simp only [h1, if_true, Int.ediv_one]
  split <;> omega
theorem slicePart_ {v : Value} {o : Option Int} {Q : Option Int → Shared → Prop} (p : IsPart v o) (h : Q o s) : wpAny (model prog w) A (Builtin.Slice.slicePartIndex v) Q E s := by
  cases p with
  | none => exact slicePart_none h
  | int i t => exact slicePart_int h
theorem sliceApplied_gen {sl : Addr} {vl vu : Value} {lo hi : Option Int} {n : Nat} {Q : Int × Int × Nat → Shared → Prop} (hs : s.heap.IsSliceOf sl vl vu .none) (pl : IsPart vl lo) (pu : IsPart vu hi)
    (h : Q (((sIx n 0 lo : Nat) : Int), 1, sIx n n hi - sIx n 0 lo) s) : wpAny (model prog w) A (Builtin.Slice.sliceApplied (.ref sl) (pure (n : Int))) Q E s := by
  obtain ⟨os, hos, hcs, hds⟩ := id hs
  unfold Builtin.Slice.sliceApplied Builtin.Slice.sliceFields
  refine wpAny_bind (wpAny_bind (wpAny_field hos hds (x := vl) rfl (wpAny_bind (wpAny_field hos hds (x := vu) rfl (wpAny_bind (wpAny_field hos hds (x := .none) rfl (wpAny_pure ?_)))))))
  refine wpAny_bind (slicePart_none ?_)
  show wpAny _ _ (if ((1 : Int) == 0) = true then _ else _) _ _ s
  rw [if_neg (by decide)]
  refine wpAny_bind (slicePart_ pl (wpAny_bind (slicePart_ pu (wpAny_bind (wpAny_pure ?_)))))
  show wpAny _ _ (match Builtin.Slice.sliceAdjust lo hi 1 (n : Int) with | (lo, hi) => pure (lo, (1 : Int), Builtin.Slice.slicePlaces lo hi 1)) _ _ s
  rw [adjust_gen lo hi n]
  show wpAny _ _ (pure (((sIx n 0 lo : Nat) : Int), (1 : Int), Builtin.Slice.slicePlaces ((sIx n 0 lo : Nat) : Int) ((sIx n n hi : Nat) : Int) 1)) _ _ s
  rw [places_gen]
  exact wpAny_pure h
theorem pick_gen (xs : Array Value) (i k : Nat) : ((List.range k).filterMap fun (m : Nat) => xs[((i : Int) + (m : Int) * 1).toNat]?).toArray = ((xs.toList.drop i).take k).toArray := by
  have e : (fun (m : Nat) => xs[((i : Int) + (m : Int) * 1).toNat]?) = fun m => xs[i + m]? := by
    funext m
    have : ((i : Int) + (m : Int) * 1).toNat = i + m := by omega
    rw [this]
  rw [e]
  have := pick_run xs i k
  rw [List.filterMap_map] at this
  have e2 : ((fun x => xs[x]?) ∘ fun x => i + x) = fun m => xs[i + m]? := rfl
  rw [e2] at this
  rw [this]
theorem getItem_tuple_cut {t sl : Addr} {items : Array Value} {vl vu : Value} {lo hi : Option Int} {Q : Value → Shared → Prop} (ht : IsTup s.heap t items) (hs : s.heap.IsSliceOf sl vl vu .none) (pl : IsPart vl lo) (pu : IsPart vu hi)
    (hw : ¬ (sIx items.size 0 lo = 0 ∧ sIx items.size items.size hi = items.size))
    (h : Q (.ref s.heap.objs.size) { s with heap := s.heap.push { cls := .type "tuple", data := .seq ((items.toList.drop (sIx items.size 0 lo)).take (sIx items.size items.size hi - sIx items.size 0 lo)).toArray } })
    (hsz : items.size ≤ sizeLine) : wpAny (model prog w) A (getItem (.ref t) (.ref sl)) Q E s := by
  have htake : sizeOk (.seq ((items.toList.drop (sIx items.size 0 lo)).take (sIx items.size items.size hi - sIx items.size 0 lo)).toArray) := by
    show ((items.toList.drop (sIx items.size 0 lo)).take (sIx items.size items.size hi - sIx items.size 0 lo)).toArray.size ≤ sizeLine
    rw [List.size_toArray, List.length_take, List.length_drop, Array.length_toList]
    omega
  have hj : sIx items.size items.size hi ≤ items.size := sIx_le _ _ (Nat.le_refl _) hi
  obtain ⟨os, hos, hcs, hds⟩ := id hs
  have hTs : s.TypeIs (.ref sl) "slice" := ⟨os, hos, hcs⟩
  unfold getItem
  try with_reducible refine wpAny_holding ?_
  first | refine wpAny_bind (wpAny_pure ?_) | skip
  refine wpAny_bind (wpAny_sequenceKey ht.typeIs (by decide) ?_)
  refine wpAny_bind (wpAny_callSpecial?_slot (name := Str.ofString "__getitem__") ht.typeIs PyProof.Rows.slot_tuple_getitem
    (wpAny_call_entry PyProof.Rows.slot_tuple_getitem ht.typeIs entry_tuple_getitem ?_ (args_tuple_getitem _ _)))
  show wpAny _ _ (Builtin.Tuple.tupleItemsOf (.ref t) >>= _) _ _ s
  refine wpAny_bind (tupleItemsOf_ ht ?_)
  refine wpAny_bind (wpAny_typeOf hTs ?_)
  rw [if_pos (by decide)]
  refine wpAny_bind (sliceApplied_gen hs pl pu ?_)
  have hno : ¬ ((((sIx items.size 0 lo : Nat) : Int) == 0 && (1 : Int) == 1 && (sIx items.size items.size hi - sIx items.size 0 lo) == items.size) = true) := by
    intro q
    rw [Bool.and_eq_true, Bool.and_eq_true] at q
    have q1 : ((sIx items.size 0 lo : Nat) : Int) = 0 := eq_of_beq q.1.1
    have q2 : sIx items.size items.size hi - sIx items.size 0 lo = items.size := eq_of_beq q.2
    exact hw ⟨by omega, by omega⟩
  show wpAny _ _ (if (((sIx items.size 0 lo : Nat) : Int) == 0 && (1 : Int) == 1 && (sIx items.size items.size hi - sIx items.size 0 lo) == items.size) = true then _ else _) _ _ s
  rw [if_neg hno, pick_gen]
  first
    | exact wpAny_bind (m := Builtin.Tuple.tupleExact _) (wpAny_newObj_type (wpAny_pure ⟨_, rfl, wpAny_pure h⟩) htake)
    | exact wpAny_bind (m := Builtin.Tuple.tupleExact _) (wpAny_newObj_type (wpAny_bind (wpAny_pure (wpAny_pure ⟨_, rfl, wpAny_pure h⟩))) htake)
    | exact wpAny_bind (wpAny_bind (m := Builtin.Tuple.tupleExact _) (wpAny_newObj_type (wpAny_pure (wpAny_pure ⟨_, rfl, wpAny_pure h⟩)) htake))
    | exact wpAny_bind (wpAny_bind (m := Builtin.Tuple.tupleExact _) (wpAny_newObj_type (wpAny_pure ⟨_, rfl, wpAny_pure h⟩) htake))
end
end HT
namespace L2
open PySem PySem.Spec PyProof.Rows
abbrev TO := St → Hp → (Option Int → Hp → Prop) → Prop
def PO (X : Cx) (e : Option Expr) (t : TO) : Prop :=
  ∀ (pins : List (Addr × Obj)) (s : Shared) (σ : St) (H : Hp) (Q : Option Int → Hp → Prop), Inv X pins σ H s → t σ H Q →
    wpAny (model X.prog X.w) X.A (evalPart e X.env) (fun u s' => ∃ o H', Inv X pins σ H' s' ∧ IsPart u o ∧ Q o H') X.xe s
def tNoPart : TO := fun _ H Q => Q none H
def tPart (t : TE) : TO := fun σ H Q => t σ H fun x H1 => ∃ i, x = .int i ∧ Q (some i) H1
section
variable {X : Cx} {e : Expr} {te : TE} {lo hi : Option Expr} {tl th : TO} {pos p2 : Pos}
theorem po_none : PO X none tNoPart := by
  intro pins s σ H Q I h
  rw [evalPart_none]
  exact wpAny_pure ⟨none, H, I, .none, h⟩
theorem po_some (h : PE X e te) : PO X (some e) (tPart te) := by
  intro pins s σ H Q I hw
  rw [evalPart_some]
  refine thn (h pins s σ H _ I hw) fun u s1 ⟨x, H1, I1, r1, q1⟩ => ?_
  obtain ⟨i, rfl, q⟩ := q1
  obtain ⟨t, rfl⟩ := r1
  exact ⟨some i, H1, I1, .int i t, q⟩
def SlR (X : Cx) (r : V → Option Int → Option Int → Hp → VK → Prop) : Prop :=
  ∀ (pins : List (Addr × Obj)) (s : Shared) (σ : St) (H : Hp) (x : V) (v vl vu : Value) (lo hi : Option Int) (sl : Addr) (Q : VK), Inv X pins σ H s → RelV x v → s.heap.IsSliceOf sl vl vu .none → IsPart vl lo → IsPart vu hi → r x lo hi H Q →
    ∃ T id, typeLookup (.type T) "__getitem__" = pure (some (.builtin id)) ∧ s.TypeIs v T ∧ wpAny (model X.prog X.w) X.A (getItem v (.ref sl)) (EP X pins σ Q) X.xe s
def tSl (r : V → Option Int → Option Int → Hp → VK → Prop) (te : TE) (tl th : TO) : TE := fun σ H Q => te σ H fun x H1 => tl σ H1 fun l H2 => th σ H2 fun u H3 => r x l u H3 Q
theorem pe_slice {r : V → Option Int → Option Int → Hp → VK → Prop} (hr : SlR X r) (he : PE X e te) (hl : PO X lo tl) (hu : PO X hi th) : PE X (.Subscript e (.Slice lo hi none p2) pos) (tSl r te tl th) := by
  intro pins s σ H Q I h
  refine Subscript_ (thn (he pins s σ H _ I h) fun v s1 ⟨x, H1, I1, r1, q1⟩ => ?_)
  refine wpAny_Slice (thn (hl pins s1 σ H1 _ I1 q1) fun vl s2 ⟨l, H2, I2, pl, q2⟩ => thn (hu pins s2 σ H2 _ I2 q2) fun vu s3 ⟨u, H3, I3, pu, q3⟩ => ?_)
  rw [evalPart_none]
  refine wpAny_pure ?_
  have I4 : Inv X pins σ H3 { s3 with heap := s3.heap.push { cls := .type "slice", data := .fields #[vl, vu, .none] } } := I3.kept (t' := s3.toks) fun b ob q => Heap.get?_push_of_some _ q
  obtain ⟨T, id, hT, ht, hg⟩ := hr pins { s3 with heap := s3.heap.push { cls := .type "slice", data := .fields #[vl, vu, .none] } } σ H3 x v vl vu l u s3.heap.objs.size Q I4 r1 (Heap.IsSliceOf.new ..) pl pu q3
  show wpAny (model X.prog X.w) X.A (subscriptTail e (.Slice lo hi none p2) v (.ref s3.heap.objs.size)) (EP X pins σ Q) X.xe { s3 with heap := s3.heap.push { cls := .type "slice", data := .fields #[vl, vu, .none] } }
  exact tail_any (ops := [.ref s3.heap.objs.size, v]) ht hT hg (by with_unfolding_all rfl)
def cutV (xs : List V) (lo hi : Option Int) : List V := (xs.drop (HT.sIx xs.length 0 lo)).take (HT.sIx xs.length xs.length hi - HT.sIx xs.length 0 lo)
theorem cutV_length (xs : List V) (lo hi : Option Int) : (cutV xs lo hi).length ≤ xs.length := by
  unfold cutV
  rw [List.length_take, List.length_drop]
  omega
def rSlT (K : PySem.W.Frag) : V → Option Int → Option Int → Hp → VK → Prop := fun x lo hi H Q => ∃ a xs, x = .ref a ∧ SqT K H a xs ∧
  ¬ (HT.sIx xs.length 0 lo = 0 ∧ HT.sIx xs.length xs.length hi = xs.length) ∧ ∀ p, H p = none → Q (.ref p) (upd H p (.tup (cutV xs lo hi)))
theorem sl_tup : SlR X (rSlT X.K) := by
  intro pins s σ H x v vl vu lo hi sl Q I rx hs pl pu h
  obtain ⟨a, xs, rfl, hx, hw, q⟩ := h
  cases rx
  obtain ⟨its, r, ht, hz⟩ := I.tuple hx
  have hlen : its.toArray.size = xs.length := by rw [List.size_toArray]; exact r.length.symm
  refine ⟨"tuple", _, PyProof.Rows.slot_tuple_getitem.lookup, ht.typeIs, ?_⟩
  refine HT.getItem_tuple_cut ht hs pl pu (by rw [hlen]; exact hw) ?_ (by rw [hlen]; exact hz)
  rw [hlen]
  refine ⟨.ref s.heap.objs.size, _, I.laid (t' := s.toks) (o := .tup (cutV xs lo hi)) (fun b ob q => Heap.get?_push_of_some _ q) (Nat.le_refl _) ?_, rfl, q _ (I.hok.fresh (Nat.le_refl _))⟩
  exact ⟨Nat.le_trans (cutV_length xs lo hi) hz, _, (r.drop (HT.sIx xs.length 0 lo)).take (HT.sIx xs.length xs.length hi - HT.sIx xs.length 0 lo), IsTup.new _ _⟩
def rCatT (K : PySem.W.Frag) : R2 := fun x y H Q => ∃ a b xs ys, x = .ref a ∧ y = .ref b ∧ SqT K H a xs ∧ SqT K H b ys ∧ xs ≠ [] ∧ xs.length + ys.length ≤ sizeLine ∧
  (ys = [] → Q (.ref a) H) ∧ (ys ≠ [] → ∀ p, H p = none → Q (.ref p) (upd H p (.tup (xs ++ ys))))
theorem Vals.nil_iff {xs : List V} {us : List Value} (r : Vals xs us) : us = [] ↔ xs = [] := by
  cases r with
  | nil => simp
  | cons _ _ => simp
theorem op_catT : OpR X (binaryOp .Add) (rCatT X.K) := by
  intro pins s σ H x y v u Q I rx ry h
  obtain ⟨a, b, xs, ys, rfl, rfl, ha, hb, hx, hz, q1, q2⟩ := h
  cases rx
  cases ry
  obtain ⟨its, r1, p1, _⟩ := I.tuple ha
  obtain ⟨its2, r2, p2, _⟩ := I.tuple hb
  refine HT.cat_tup p1 p2 (fun z => hx (r1.nil_iff.mp z)) (fun z => ⟨.ref a, H, I, rfl, q1 (r2.nil_iff.mp z)⟩) (fun z => ?_) (by rw [← r1.length, ← r2.length]; exact hz)
  refine ⟨.ref s.heap.objs.size, _, I.laid (t' := s.toks) (o := .tup (xs ++ ys)) (fun b ob q => Heap.get?_push_of_some _ q) (Nat.le_refl _) ?_, rfl, q2 (fun w => z (r2.nil_iff.mpr w)) _ (I.hok.fresh (Nat.le_refl _))⟩
  exact ⟨by rw [List.length_append]; exact hz, _, r1.append r2, IsTup.new _ _⟩
end
end L2
namespace L2
open PySem PySem.Spec PyProof.Rows
def ixN (n : Nat) (i : Int) : Option Nat := if 0 ≤ i then (if i < n then some i.toNat else none) else if -(n : Int) ≤ i then some (i + n).toNat else none
def atI {α : Type} (xs : List α) (i : Int) : Option α := (ixN xs.length i).bind fun j => xs[j]?
theorem ixN_seq {n : Nat} {i : Int} {j : Nat} (h : ixN n i = some j) : seqIndex? i n = some j ∧ j < n ∧ -(n : Int) ≤ i ∧ i < n := by
  unfold ixN at h
  by_cases h0 : 0 ≤ i
  · rw [if_pos h0] at h
    by_cases h1 : i < n
    · rw [if_pos h1] at h
      have e : i.toNat = j := Option.some.inj h
      exact ⟨by rw [seqIndex_of h0 h1, e], by omega, by omega, h1⟩
    · rw [if_neg h1] at h; cases h
  · rw [if_neg h0] at h
    by_cases h1 : -(n : Int) ≤ i
    · rw [if_pos h1] at h
      have e : (i + n).toNat = j := Option.some.inj h
      exact ⟨by rw [seqIndex_neg (by omega) h1, e], by omega, h1, by omega⟩
    · rw [if_neg h1] at h; cases h
theorem atI_get {α : Type} {xs : List α} {i : Int} {v : α} (h : atI xs i = some v) : ∃ j, seqIndex? i xs.length = some j ∧ xs[j]? = some v ∧ j < xs.length ∧ -(xs.length : Int) ≤ i ∧ i < xs.length := by
  unfold atI at h
  cases e : ixN xs.length i with
  | none => rw [e] at h; cases h
  | some j =>
    rw [e] at h
    obtain ⟨h1, h2, h3, h4⟩ := ixN_seq e
    exact ⟨j, h1, h, h2, h3, h4⟩
theorem atI_nat {α : Type} {xs : List α} {j : Nat} {v : α} (h : xs[j]? = some v) : atI xs (j : Int) = some v := by
  have hj : j < xs.length := (List.getElem?_eq_some_iff.mp h).1
  have e : ixN xs.length (j : Int) = some j := by
    unfold ixN
    rw [if_pos (by omega), if_pos (by omega)]; simp
  unfold atI; rw [e]; exact h
def PlainIx (b : Expr) : Prop := ∀ o i, subscripted b false o i = operate [o, i] (getItem o i)
def IxR (X : Cx) (r : R2) : Prop :=
  ∀ (value slice : Expr) (pins : List (Addr × Obj)) (s : Shared) (σ : St) (H : Hp) (x y : V) (v u : Value) (Q : VK), Inv X pins σ H s → RelV x v → RelV y u → r x y H Q →
    subscripted slice false v u = operate [v, u] (getItem v u) → wpAny (model X.prog X.w) X.A (subscriptTail value slice v u) (EP X pins σ Q) X.xe s
def MtR (X : Cx) (id : String) (r : V → List V → Hp → VK → Prop) : Prop :=
  ∀ (pins : List (Addr × Obj)) (s : Shared) (σ : St) (H : Hp) (x : V) (xs : List V) (v : Value) (us : List Value) (Q : VK), Inv X pins σ H s → RelV x v → Vals xs us → r x xs H Q →
    wpAny (model X.prog X.w) X.A (call (.builtin id) (v :: us)) (EP X pins σ Q) X.xe s
section
variable {X : Cx} {a b : Expr} {ta tb : TE} {pos : Pos}
theorem pe_ix {r : R2} (hr : IxR X r) (ha : PE X a ta) (hb : PE X b tb) (hs : PlainIx b) : PE X (.Subscript a b pos) (tOp r ta tb) := by
  intro pins s σ H Q I h
  exact Subscript_ (binT ha hb I h fun v u s2 x y H2 I2 rx ry q => hr a b pins s2 σ H2 x y v u Q I2 rx ry q (hs _ _))
def rIxL (K : PySem.W.Frag) : R2 := fun x y H Q => ∃ p xs i v, x = .ref p ∧ y = .int i ∧ SqL K H p xs ∧ atI xs i = some v ∧ Q v H
def rIxT (K : PySem.W.Frag) : R2 := fun x y H Q => ∃ p xs i v, x = .ref p ∧ y = .int i ∧ SqT K H p xs ∧ atI xs i = some v ∧ Q v H
def rIxS : R2 := fun x y H Q => ∃ z i c, x = .str z ∧ y = .int i ∧ z.length ≤ sizeLine ∧ atI z.cps.toList i = some c ∧ Q (.str ⟨#[c]⟩) H
theorem ix_list : IxR X (rIxL X.K) := by
  intro value slice pins s σ H x y v u Q I rx ry h hs
  obtain ⟨p, xs, i, z, rfl, rfl, hq, he, q⟩ := h
  cases rx
  obtain ⟨t, rfl⟩ := ry
  obtain ⟨its, r, pl, hz⟩ := I.list hq
  obtain ⟨j, h1, h2, h3, h4, h5⟩ := atI_get he
  obtain ⟨w, ew, rw'⟩ := r.get h2
  have hl := r.length
  have hn := line63
  have fin : EP X pins σ Q w s := ⟨z, H, I, rw', q⟩
  by_cases h0 : 0 ≤ i
  · have hj : i.toNat = j := by
      rw [seqIndex_of h0 h5] at h1
      exact Option.some.inj h1
    exact item_listR pl.isList h0 (by omega) (by rw [hj]; simpa using ew) fin hs
  · have hj : (i + (its.toArray.size : Int)).toNat = j := by
      rw [seqIndex_neg (by omega) h4] at h1
      rw [List.size_toArray, ← hl]
      exact Option.some.inj h1
    exact subscriptTail_builtinR (x := w) pl.isList.typeIs slot_list_getitem.lookup
      (wpAny_getItem_list_neg (Q := fun r s' => r = w ∧ EP X pins σ Q r s') pl.isList (by omega) (by rw [List.size_toArray] <;> omega) (by omega) (by rw [hj]; simpa using ew) ⟨rfl, fin⟩) hs
theorem ix_tup : IxR X (rIxT X.K) := by
  intro value slice pins s σ H x y v u Q I rx ry h hs
  obtain ⟨p, xs, i, z, rfl, rfl, hq, he, q⟩ := h
  cases rx
  obtain ⟨t, rfl⟩ := ry
  obtain ⟨its, r, pl, hz⟩ := I.tuple hq
  obtain ⟨j, h1, h2, h3, h4, h5⟩ := atI_get he
  obtain ⟨w, ew, rw'⟩ := r.get h2
  have hl := r.length
  have hn := line63
  have fin : EP X pins σ Q w s := ⟨z, H, I, rw', q⟩
  exact subscriptTail_builtinR (x := w) pl.typeIs slot_tuple_getitem.lookup
    (getItem_tuple (j := j) (Q := fun r s' => r = w ∧ EP X pins σ Q r s') pl (by omega) (by omega) (by rw [List.size_toArray, ← hl]; exact h1) (by simpa using ew) ⟨rfl, fin⟩) hs
theorem ix_str : IxR X rIxS := by
  intro value slice pins s σ H x y v u Q I rx ry h hs
  obtain ⟨z, i, c, rfl, rfl, hz, he, q⟩ := h
  obtain ⟨t, rfl⟩ := rx
  obtain ⟨t', rfl⟩ := ry
  obtain ⟨j, h1, h2, h3, h4, h5⟩ := atI_get he
  have hl : z.cps.toList.length = z.length := by simp [Str.length]
  rw [hl] at h1 h4 h5
  have hn := line63
  exact tail_any (typeIs_str s z t) slot_str_getitem.lookup (getItem_str (c := c) (by
    have e1 : decide (i < -(2 ^ 63 : Int)) = false := decide_eq_false (by omega)
    have e2 : decide (i ≥ 2 ^ 63) = false := decide_eq_false (by omega)
    rw [e1, e2, Bool.or_false]) (by rw [h1]; simpa using h2) ⟨.str ⟨#[c]⟩, H, I.tok _, ⟨_, rfl⟩, q⟩) hs
theorem Inv.lst {pins : List (Addr × Obj)} {σ : St} {H : Hp} {s : Shared} {p : Addr} {xs : List V} (I : Inv X pins σ H s) (h : H p = some (.lst xs)) :
    ∃ (its : List Value) (n : Nat), Vals xs its ∧ s.heap.get? p = some { cls := .type "list", data := .seq its.toArray n } ∧ xs.length ≤ sizeLine := by
  obtain ⟨z, its, n, r, e⟩ := I.hok p _ h
  exact ⟨its, n, r, e, z⟩
theorem slice_bounds (lo hi : Option Int) (n : Nat) : (sliceBounds lo hi none n).1 = ((HT.sIx n 0 lo : Nat) : Int) ∧ (sliceBounds lo hi none n).2.1 = ((HT.sIx n n hi : Nat) : Int) ∧ (sliceBounds lo hi none n).2.2 = 1 := by
  refine ⟨?_, ?_, rfl⟩
  · cases lo with
    | none => simp [sliceBounds, HT.sIx]
    | some i =>
      simp only [sliceBounds, HT.sIx, Option.getD_none, show (1 : Int) > 0 by decide, if_true]
      by_cases h : i < 0
      · simp only [h, if_true] <;> omega
      · simp only [h, if_false] <;> omega
  · cases hi with
    | none => simp [sliceBounds, HT.sIx]
    | some i =>
      simp only [sliceBounds, HT.sIx, Option.getD_none, show (1 : Int) > 0 by decide, if_true]
      by_cases h : i < 0
      · simp only [h, if_true] <;> omega
      · simp only [h, if_false] <;> omega
theorem slicePick_cut (its : List Value) (lo hi : Option Int) : slicePick its.toArray lo hi none = ((its.drop (HT.sIx its.length 0 lo)).take (HT.sIx its.length its.length hi - HT.sIx its.length 0 lo)).toArray := by
  obtain ⟨h1, h2, h3⟩ := slice_bounds lo hi its.toArray.size
  unfold slicePick
  rw [h1, h2, h3]
  simp only [sliceRange_one, pick_run, List.size_toArray] <;> rfl
def rSlL (K : PySem.W.Frag) : V → Option Int → Option Int → Hp → VK → Prop := fun x lo hi H Q => ∃ a xs, x = .ref a ∧ SqL K H a xs ∧ ∀ p, H p = none → Q (.ref p) (upd H p (.lst (cutV xs lo hi)))
theorem sl_list : SlR X (rSlL X.K) := by
  intro pins s σ H x v vl vu lo hi sl Q I rx hs pl pu h
  obtain ⟨a, xs, rfl, hx, q⟩ := h
  cases rx
  obtain ⟨its, r, ht, hz⟩ := I.list hx
  have hlen := r.length
  refine ⟨"list", _, slot_list_getitem.lookup, ht.isList.typeIs, ?_⟩
  refine wpAny_getItem_list_slice ht.isList hs pl pu .none (by simp) ?_ (by rw [List.size_toArray] <;> omega)
  rw [slicePick_cut, ← hlen]
  refine ⟨.ref s.heap.objs.size, _, I.laid (t' := s.toks) (o := .lst (cutV xs lo hi)) (fun b ob q => Heap.get?_push_of_some _ q) (Nat.le_refl _) ?_, rfl, q _ (I.hok.fresh (Nat.le_refl _))⟩
  exact ⟨Nat.le_trans (cutV_length xs lo hi) hz, _, 0, (r.drop (HT.sIx xs.length 0 lo)).take (HT.sIx xs.length xs.length hi - HT.sIx xs.length 0 lo), Heap.get?_push_size _ rfl⟩
theorem call_list_of : CallR X (.type "list") (fun xs H Q => ∃ p ys, xs = [.ref p] ∧ (SqL X.K H p ys ∨ SqT X.K H p ys) ∧ ∀ l, H l = none → Q (.ref l) (upd H l (.lst ys))) := by
  intro pins s σ H xs us Q I r h
  obtain ⟨p, ys, rfl, hq, q⟩ := h
  obtain ⟨u, rfl, rx⟩ := vals1 r
  cases rx
  have fin : ∀ (its : List Value), Vals ys its → ys.length ≤ sizeLine → ∀ (h' : Heap) (c' : Nat), (∀ b o', s.heap.get? b = some o' → h'.get? b = some o') →
      h'.get? s.heap.objs.size = some { cls := .type "list", dict := none, data := .seq its.toArray c', slots := #[] } → EP X pins σ Q (.ref s.heap.objs.size) { s with heap := h' } := fun its r' hz h' c' kp e =>
    ⟨.ref s.heap.objs.size, _, I.laid (t' := s.toks) kp (Nat.le_refl _) (show ObjOk X.prog X.w _ h' _ (.lst ys) from ⟨hz, its, c', r', e⟩), rfl, q _ (I.hok.fresh (Nat.le_refl _))⟩
  rcases hq with hq | hq
  · obtain ⟨its, r', pl, hz⟩ := I.list hq
    have hlen := r'.length
    obtain ⟨o, ho, hc, n, hd⟩ := pl.isList
    exact call_list_seq p (.inl rfl) ho hc hd (fun h' c' kp e => fin its r' hz h' c' kp e) (by simp only [List.size_toArray] <;> omega)
  · obtain ⟨its, r', pl, hz⟩ := I.tuple hq
    have hlen := r'.length
    obtain ⟨o, ho, hc, n, hd⟩ := pl
    exact call_list_seq p (.inr rfl) ho hc hd (fun h' c' kp e => fin its r' hz h' c' kp e) (by simp only [List.size_toArray] <;> omega)
theorem call_tuple_of : CallR X (.type "tuple") (fun xs H Q => ∃ p ys, xs = [.ref p] ∧ ((SqL X.K H p ys ∧ ∀ l, H l = none → Q (.ref l) (upd H l (.tup ys))) ∨ (SqT X.K H p ys ∧ Q (.ref p) H))) := by
  intro pins s σ H xs us Q I r h
  obtain ⟨p, ys, rfl, h⟩ := h
  obtain ⟨u, rfl, rx⟩ := vals1 r
  cases rx
  rcases h with ⟨hq, q⟩ | ⟨hq, q⟩
  · obtain ⟨its, r', pl, hz⟩ := I.list hq
    have hlen := r'.length
    refine call_tuple_list pl.isList (fun h' kp => ?_) (by simp only [List.size_toArray] <;> omega)
    have I1 : Inv X pins σ H { s with heap := h' } := I.kept (t' := s.toks) kp
    have I2 : Inv X pins σ (upd H h'.objs.size (.tup ys)) { s with heap := h'.push { cls := .type "tuple", data := .seq its.toArray } } :=
      I1.laid (t' := s.toks) (fun b o e => Heap.get?_push_of_some _ e) (Nat.le_refl _) (show ObjOk X.prog X.w _ _ _ (.tup ys) from ⟨hz, its, r', IsTup.new _ _⟩)
    exact ⟨.ref h'.objs.size, _, I2, rfl, q _ (I1.hok.fresh (Nat.le_refl _))⟩
  · obtain ⟨its, r', pl, hz⟩ := I.tuple hq
    exact call_tuple_same pl ⟨.ref p, H, I, rfl, q⟩
def tyV (K : PySem.W.Frag) (T : String) (x : V) (H : Hp) : Prop := match x with
  | .str _ => T = "str"
  | .int _ => T = "int"
  | .ref p => (T = "list" ∧ ∃ xs, SqL K H p xs) ∨ (T = "tuple" ∧ ∃ o, K.lookup p = some o ∧ o.cls = .type "tuple" ∧ o.dict = none) ∨
      (T = "dict" ∧ ((∃ kvs, H p = some (.dK kvs)) ∨ ∃ kvs, H p = some (.dT kvs))) ∨ (T = "set" ∧ ∃ S n, H p = some (.set S n))
  | _ => False
theorem tyV_is {pins : List (Addr × Obj)} {σ : St} {H : Hp} {s : Shared} {T : String} {x : V} {v : Value} (I : Inv X pins σ H s) (r : RelV x v) (ty : tyV X.K T x H) :
    s.TypeIs v T ∧ ∀ a, v = .ref a → ∃ ob, s.heap.get? a = some ob ∧ ob.dict = none := by
  cases x with
  | str z =>
    obtain ⟨t, rfl⟩ := r
    cases (show T = "str" from ty)
    exact ⟨typeIs_str s z t, fun _ e => nomatch e⟩
  | int i =>
    obtain ⟨t, rfl⟩ := r
    cases (show T = "int" from ty)
    exact ⟨typeIs_int s i t, fun _ e => nomatch e⟩
  | ref p =>
    cases r
    rcases ty with ⟨rfl, xs, hq⟩ | ⟨rfl, o, hk, hc, hd⟩ | ⟨rfl, hk⟩ | ⟨rfl, S, n, hk⟩
    · obtain ⟨its, _, pl, _⟩ := I.list hq
      refine ⟨pl.isList.typeIs, fun a e => ?_⟩
      cases e
      obtain ⟨o, n, e, c, hd, _⟩ := pl
      exact ⟨o, e, hd⟩
    · refine ⟨⟨o, I.kIn p o hk, hc⟩, fun a e => ?_⟩
      cases e
      exact ⟨o, I.kIn _ o hk, hd⟩
    · have z : ∃ o, s.heap.get? p = some o ∧ o.ExactDict := by
        rcases hk with ⟨kvs, hk⟩ | ⟨kvs, hk⟩
        · obtain ⟨_, _, _, _, o, _, _, e, ex, _⟩ := I.hok p _ hk
          exact ⟨o, e, ex⟩
        · obtain ⟨_, _, _, _, o, _, _, e, ex, _⟩ := I.hok p _ hk
          exact ⟨o, e, ex⟩
      obtain ⟨o, e, ex⟩ := z
      refine ⟨⟨o, e, ex.1⟩, fun a e2 => ?_⟩
      cases e2
      exact ⟨o, e, ex.2.1⟩
    · obtain ⟨o, _, _, _, e, ex, _⟩ := I.hok p _ hk
      refine ⟨⟨o, e, ex.1⟩, fun a e2 => ?_⟩
      cases e2
      exact ⟨o, e, ex.2.1⟩
  | _ => exact False.elim ty
def tBM (K : PySem.W.Frag) (T : String) (r : V → List V → Hp → VK → Prop) (to : TE) (t : TA) : TE := fun σ H Q => to σ H fun x H1 => tyV K T x H1 ∧ t σ H1 fun xs H2 => r x xs H2 Q
variable {o e : Expr} {es : List Expr} {to : TE} {t : TA} {name : Str} {apos cpos : Pos} {T id : String} {r : V → List V → Hp → VK → Prop}
theorem pe_bm (pa : PlainAttrs T) (slot : Slot T name id) (hty : typeOf (.builtin id) = pure (.type "method_descriptor")) (hm : MtR X id r) (ho : PE X o to) (ha : PA X (e :: es) t)
    (hbase : attributeBase o name X.env (eval o X.env) = eval o X.env := by rfl)
    (hfew : ((backTo cpos (starEach (e :: es) X.env)).all (fun x => !x.1) && (backToKw cpos (keywordEach [] X.env)).all (fun x => x.1.isSome)
      && decide ((e :: es).length + ([] : List Keyword).length + (if ([] : List Keyword).isEmpty then 0 else 1) < 30)) = true := by rfl)
    (hline : (apos.endLine == cpos.line) = true := by rfl) (hs : starEach (e :: es) X.env = (false, eval e X.env) :: starEach es X.env := by rfl) (hplain : (backTo cpos (starEach es X.env)).any (·.1) = false := by rfl) :
    PE X (.Call (.Attribute o name apos) (e :: es) [] cpos) (tBM X.K T r to t) := by
  intro pins s σ H Q I h
  refine wpAny_Call_method_late hbase hfew hline rfl (thn (ho pins s σ H _ I h) fun v s1 ⟨x, H1, I1, r1, ty, q1⟩ => ?_)
  obtain ⟨h1, h2⟩ := tyV_is I1 r1 ty
  refine ⟨T, id, pa, slot, hty, h1, h2, ?_⟩
  have hA := ha cpos pins s1 σ H1 _ I1 q1
  rw [hs] at hA ⊢
  refine Calls.callWith_builtin (by show (false || (backTo cpos (starEach es X.env)).any (·.1)) = false; rw [hplain] <;> rfl) (Calls.evalArgs_plain ?_)
  exact thn hA fun us s2 ⟨vs, H2, I2, r2, q2⟩ => hm pins s2 σ H2 x vs v us Q I2 r1 r2 q2
/- xs.append(e), list.index on a module's tuple .. are MtR facts of 06m -/
end
end L2
namespace L2
open PySem PySem.Spec PyProof.Rows
def MtM (X : Cx) (id : String) (r : V → List V → Hp → VK → Prop) : Prop :=
  ∀ (pins : List (Addr × Obj)) (s : Shared) (σ : St) (H : Hp) (x : V) (xs : List V) (v : Value) (us : List Value) (Q : VK), Inv X pins σ H s → RelV x v → Vals xs us → r x xs H Q →
    wpAny (model X.prog X.w) X.A (call (.builtin id) (v :: us)) (EP X pins σ Q) X.xe s
theorem Vals.one : ∀ {x : V} {us : List Value}, Vals [x] us → ∃ u, us = [u] ∧ RelV x u
  | _, _, .cons r .nil => ⟨_, rfl, r⟩
theorem Vals.zero : ∀ {us : List Value}, Vals [] us → us = []
  | _, .nil => rfl
theorem Vals.eraseIdx : ∀ {xs : List V} {us : List Value} (i : Nat), Vals xs us → Vals (xs.eraseIdx i) (us.eraseIdx i)
  | _, _, _, .nil => .nil
  | _, _, 0, .cons _ t => t
  | _, _, i + 1, .cons r t => .cons r (Vals.eraseIdx i t)
theorem Vals.reverse {xs : List V} {us : List Value} (h : Vals xs us) : Vals xs.reverse us.reverse := by
  induction h with
  | nil => exact .nil
  | cons r t ih => rw [List.reverse_cons, List.reverse_cons]; exact Vals.append ih (.cons r .nil)
section
variable {X : Cx} {pins : List (Addr × Obj)} {σ : St} {H : Hp} {s : Shared} {l b : Addr} {xs ys zs : List V}
theorem Inv.lset {its its' : List Value} {n : Nat} {f : Array Value → Array Value} {t' : Nat} (I : Inv X pins σ H s) (hH : H l = some (.lst xs))
    (e : s.heap.get? l = some { cls := .type "list", data := .seq its.toArray n }) (hf : f its.toArray = its'.toArray) (hv : Vals ys its') (hz : ys.length ≤ sizeLine) :
    Inv X pins σ (upd H l (.lst ys)) { s with heap := s.heap.update l (Obj.mapSeq f), toks := t' } := by
  have q := PySem.IsL.update e f
  rw [hf] at q
  refine I.write (x := l) (e := l) (by rw [hH]; exact trivial) (.inl rfl) (fun b' u hb hu => (Heap.get?_update_other s.heap (Obj.mapSeq f) (Ne.symm hb)).trans hu) ⟨_, q⟩ ?_
  exact ⟨hz, its', _, hv, q⟩
theorem Inv.lnew {its : List Value} {t' : Nat} (I : Inv X pins σ H s) (hv : Vals ys its) (hz : ys.length ≤ sizeLine) :
    Inv X pins σ (upd H s.heap.objs.size (.lst ys)) { s with heap := s.heap.push { cls := .type "list", data := .seq its.toArray }, toks := t' } :=
  I.laid (fun _ _ q => Heap.get?_push_of_some _ q) (Nat.le_refl _) ⟨hz, its, 0, hv, Heap.get?_push_size _ rfl⟩
theorem Inv.fresh (I : Inv X pins σ H s) : H s.heap.objs.size = none := I.hok.fresh (Nat.le_refl _)
theorem Inv.lstM (I : Inv X pins σ H s) (hH : H l = some (.lst xs)) : xs.length ≤ sizeLine ∧ ∃ (its : List Value) (n : Nat), Vals xs its ∧ xs.length = its.length ∧ s.heap.get? l = some { cls := .type "list", data := .seq its.toArray n } := by
  obtain ⟨z, its, n, r, e⟩ := I.hok l _ hH
  exact ⟨z, its, n, r, r.length, e⟩
end
section
variable {X : Cx}
def rAppend : V → List V → Hp → VK → Prop := fun x vs H Q => ∃ l xs y, x = .ref l ∧ vs = [y] ∧ H l = some (.lst xs) ∧ xs.length < sizeLine ∧ Q .non (upd H l (.lst (xs ++ [y])))
theorem mt_append : MtM X "list.append" rAppend := by
  intro pins s σ H x vs v us Q I rx rv h
  obtain ⟨l, xs, y, rfl, rfl, hH, hz, q⟩ := h
  cases rx
  obtain ⟨u, rfl, ru⟩ := rv.one
  obtain ⟨z, its, n, r, hl, e⟩ := I.lstM hH
  refine call_meets F.slot_list_append ⟨_, e, rfl⟩ F.entry_list_append (F.args_list_append_2 _ _) (PySem.list_append l its.toArray n u (by rw [List.size_toArray]; omega)) ⟨e, ?_⟩
  refine ⟨.non, _, I.lset (its' := its ++ [u]) hH e (by simp) (r.append (.cons ru .nil)) ?_, rfl, q⟩
  rw [List.length_append, List.length_singleton]
  omega
def rCat : R2 := fun x y H Q => ∃ l b xs zs, x = .ref l ∧ y = .ref b ∧ H l = some (.lst xs) ∧ H b = some (.lst zs) ∧ xs.length + zs.length ≤ sizeLine ∧ ∀ p, H p = none → Q (.ref p) (upd H p (.lst (xs ++ zs)))
theorem op_cat : OpR X (binaryOp .Add) rCat := by
  intro pins s σ H x y v u Q I rx ry h
  obtain ⟨l, b, xs, zs, rfl, rfl, hH, hB, hz, q⟩ := h
  cases rx
  cases ry
  obtain ⟨z, its, n, r, hl, e⟩ := I.lstM hH
  obtain ⟨z2, its2, n2, r2, hl2, e2⟩ := I.lstM hB
  refine PySem.P.add_list e e2 ?_ (by rw [List.size_toArray, List.size_toArray]; omega)
  have ea : its.toArray ++ its2.toArray = (its ++ its2).toArray := by simp
  rw [ea]
  exact ⟨.ref _, _, I.lnew (t' := s.toks) (r.append r2) (by rw [List.length_append]; omega), rfl, q _ I.fresh⟩
end
section
variable {prog : Program} {w : World} {A : Around} {E : Value → Shared → Prop} {s : Shared}
end
section
variable {X : Cx}
end
end L2
namespace L2
open PySem PySem.Spec PyProof.Rows
section
variable {κ : Type} [DecidableEq κ]
def valV (kvs : List (κ × V)) (k : κ) : Option V := (kvs.find? fun kv => decide (kv.1 = k)).map (·.2)
def putK (kvs : List (κ × V)) (k : κ) (v : V) : List (κ × V) :=
  if (kvs.any fun kv => decide (kv.1 = k)) = true then kvs.map (fun kv => if kv.1 = k then (kv.1, v) else kv) else kvs ++ [(k, v)]
def dropK (kvs : List (κ × V)) (k : κ) : List (κ × V) := kvs.filter fun kv => decide (kv.1 ≠ k)
theorem valV_pos {p : κ × V} {r : List (κ × V)} {k : κ} (e : p.1 = k) : valV (p :: r) k = some p.2 := by simp [valV, List.find?_cons, e]
theorem valV_neg {p : κ × V} {r : List (κ × V)} {k : κ} (e : ¬ p.1 = k) : valV (p :: r) k = valV r k := by simp [valV, List.find?_cons, e]
theorem valV_any (k : κ) : ∀ kvs : List (κ × V), (kvs.any fun kv => decide (kv.1 = k)) = (valV kvs k).isSome
  | [] => rfl
  | p :: r => by
    rw [List.any_cons]
    by_cases e : p.1 = k
    · simp only [valV_pos e, decide_eq_true e, Bool.true_or, Option.isSome_some]
    · rw [valV_neg e, decide_eq_false e, Bool.false_or]; exact valV_any k r
theorem length_putK (kvs : List (κ × V)) (k : κ) (v : V) : (putK kvs k v).length ≤ kvs.length + 1 := by
  unfold putK
  split
  · rw [List.length_map]; omega
  · rw [List.length_append, List.length_cons, List.length_nil]; omega
theorem RelO.isSome_eq {o : Option V} {u : Option Value} (r : RelO o u) : o.isSome = u.isSome := by
  cases o with
  | none => cases u with
    | none => rfl
    | some _ => exact (show False from r).elim
  | some _ => cases u with
    | none => exact (show False from r).elim
    | some _ => rfl
theorem RelO.getD {o : Option V} {u : Option Value} {d : V} {d' : Value} (r : RelO o u) (rd : RelV d d') : RelV (o.getD d) (u.getD d') := by
  cases o with
  | none => cases u with
    | none => exact rd
    | some _ => exact (show False from r).elim
  | some _ => cases u with
    | none => exact (show False from r).elim
    | some _ => exact r
theorem KV.val {kvs : List (κ × V)} {vs : List (κ × Value)} (r : KV kvs vs) (k : κ) : RelO (valV kvs k) (valueAt vs k) := by
  unfold KV at r
  induction r with
  | nil => exact True.intro
  | @cons p q ps qs h t ih =>
    obtain ⟨h1, h2⟩ := h
    by_cases e : p.1 = k
    · have e' : q.1 = k := h1.symm.trans e
      have b : valueAt (q :: qs) k = some q.2 := by simp [valueAt, List.find?_cons, e']
      rw [valV_pos e, b]; exact h2
    · have e' : ¬ q.1 = k := fun z => e (h1.trans z)
      have b : valueAt (q :: qs) k = valueAt qs k := by simp [valueAt, List.find?_cons, e']
      rw [valV_neg e, b]; exact ih
theorem KV.any {kvs : List (κ × V)} {vs : List (κ × Value)} (r : KV kvs vs) (k : κ) : (kvs.any fun kv => decide (kv.1 = k)) = vs.any fun kv => decide (kv.1 = k) := by
  unfold KV at r
  induction r with
  | nil => rfl
  | cons h t ih => rw [List.any_cons, List.any_cons, ih, h.1]
theorem KV.repl {kvs : List (κ × V)} {vs : List (κ × Value)} (r : KV kvs vs) (k : κ) {y : V} {u : Value} (ry : RelV y u) :
    KV (kvs.map fun kv => if kv.1 = k then (kv.1, y) else kv) (vs.map fun kv => if kv.1 = k then (kv.1, u) else kv) := by
  unfold KV at r ⊢
  induction r with
  | nil => exact .nil
  | @cons p q ps qs h t ih =>
    rw [List.map_cons, List.map_cons]
    refine .cons ?_ ih
    obtain ⟨h1, h2⟩ := h
    by_cases e : p.1 = k
    · rw [if_pos e, if_pos (h1.symm.trans e)]; exact ⟨h1, ry⟩
    · rw [if_neg e, if_neg (fun z => e (h1.trans z))]; exact ⟨h1, h2⟩
theorem KV.put {kvs : List (κ × V)} {vs : List (κ × Value)} (r : KV kvs vs) (k : κ) {y : V} {u : Value} (ry : RelV y u) : KV (putK kvs k y) (stored vs k u) := by
  unfold putK stored
  rw [r.any k]
  by_cases e : (vs.any fun kv => decide (kv.1 = k)) = true
  · rw [if_pos e, if_pos e]; exact r.repl k ry
  · rw [if_neg e, if_neg e]; exact Paired.snoc r ⟨rfl, ry⟩
theorem KV.drop {kvs : List (κ × V)} {vs : List (κ × Value)} (r : KV kvs vs) (k : κ) : KV (dropK kvs k) (without vs k) := by
  unfold KV at r ⊢
  unfold dropK without
  induction r with
  | nil => exact .nil
  | @cons p q ps qs h t ih =>
    obtain ⟨h1, h2⟩ := h
    rw [List.filter_cons, List.filter_cons]
    by_cases e : p.1 = k
    · have a : ¬ decide (p.1 ≠ k) = true := by simp [e]
      have b : ¬ decide (q.1 ≠ k) = true := by simp [h1.symm.trans e]
      rw [if_neg a, if_neg b]; exact ih
    · have e' : ¬ q.1 = k := fun z => e (h1.trans z)
      have a : decide (p.1 ≠ k) = true := by simp [e]
      have b : decide (q.1 ≠ k) = true := by simp [e']
      rw [if_pos a, if_pos b]; exact .cons ⟨h1, h2⟩ ih
theorem KV.keys {kvs : List (κ × V)} {vs : List (κ × Value)} (r : KV kvs vs) : kvs.map (·.1) = vs.map (·.1) := by
  unfold KV at r
  induction r with
  | nil => rfl
  | cons h t ih => rw [List.map_cons, List.map_cons, ih, h.1]
theorem KV.length {kvs : List (κ × V)} {vs : List (κ × Value)} (r : KV kvs vs) : kvs.length = vs.length := Paired.length r
end
theorem kV_is {P : Program} {w : World} {k : Key} {u : Value} (r : RelV (kV k) u) : (mixKind P w).is k u = true := by
  cases k with
  | inl i => obtain ⟨t, e⟩ := (show ∃ t, u = Value.int i t from r); subst e; exact mixKind_int P w i t
  | inr x => obtain ⟨t, e⟩ := (show ∃ t, u = Value.str x t from r); subst e; exact mixKind_str P w x t
theorem items_are {P : Program} {w : World} : ∀ {ks : List Key} {us : List Value}, Vals (ks.map kV) us → ItemsAre (mixKind P w) ks us
  | [], _, r => by rw [List.map_nil] at r; cases r; exact .nil
  | k :: ks, _, r => by
    rw [List.map_cons] at r
    cases r with
    | cons h t => exact .cons (kV_is h) (items_are t)
abbrev KT (H : Hp) : List (List Key × V) → List (List Key × Addr × Value) → Prop := Paired fun p q => p.1 = q.1 ∧ H q.2.1 = some (.tup (p.1.map kV)) ∧ RelV p.2 q.2.2
theorem KT.val {H : Hp} {kvs : List (List Key × V)} {xs : List (List Key × Addr × Value)} (r : KT H kvs xs) (k : List Key) : RelO (valV kvs k) ((atKey xs k).map (·.2)) := by
  induction r with
  | nil => exact True.intro
  | @cons p q ps qs h t ih =>
    obtain ⟨h1, _, h2⟩ := h
    by_cases e : p.1 = k
    · have e' : q.1 = k := h1.symm.trans e
      have b : atKey (q :: qs) k = some q.2 := by simp [atKey, List.find?_cons, e']
      rw [valV_pos e, b]; exact h2
    · have e' : ¬ q.1 = k := fun z => e (h1.trans z)
      have b : atKey (q :: qs) k = atKey qs k := by simp [atKey, List.find?_cons, e']
      rw [valV_neg e, b]; exact ih
theorem KT.repl {H : Hp} {kvs : List (List Key × V)} {xs : List (List Key × Addr × Value)} (r : KT H kvs xs) (k : List Key) {y : V} {u : Value} (ry : RelV y u) :
    KT H (kvs.map fun kv => if kv.1 = k then (kv.1, y) else kv) (xs.map (putAt k u)) := by
  induction r with
  | nil => exact .nil
  | @cons p q ps qs h t ih =>
    rw [List.map_cons, List.map_cons]
    refine .cons ?_ ih
    obtain ⟨h1, h2, h3⟩ := h
    unfold putAt
    by_cases e : p.1 = k
    · rw [if_pos e, if_pos (h1.symm.trans e)]; exact ⟨h1, h2, ry⟩
    · rw [if_neg e, if_neg (fun z => e (h1.trans z))]; exact ⟨h1, h2, h3⟩
theorem KT.put {H : Hp} {kvs : List (List Key × V)} {xs : List (List Key × Addr × Value)} (r : KT H kvs xs) (k : List Key) {b : Addr} {y : V} {u : Value} (hb : H b = some (.tup (k.map kV))) (ry : RelV y u) :
    KT H (putK kvs k y) (storedH xs k b u) := by
  have e : (kvs.any fun kv => decide (kv.1 = k)) = (atKey xs k).isSome := by
    rw [valV_any, (r.val k).isSome_eq, Option.isSome_map]
  unfold putK storedH
  rw [e]
  by_cases q : (atKey xs k).isSome = true
  · rw [if_pos q, if_pos q]; exact r.repl k ry
  · rw [if_neg q, if_neg q]; exact Paired.snoc r ⟨rfl, hb, ry⟩
theorem KT.keeps {H H' : Hp} {kvs : List (List Key × V)} {xs : List (List Key × Addr × Value)} (r : KT H kvs xs) (ht : ∀ b ys, H b = some (.tup ys) → H' b = some (.tup ys)) : KT H' kvs xs :=
  Paired.mapP r fun _ _ z => ⟨z.1, ht _ _ z.2.1, z.2.2⟩
section
variable {P : Program} {w : World} {H : Hp} {h : Heap} {a : Addr}
theorem rd_of {u : HO} (ok : HOk P w H h) (e : Rd H a u) : ObjOk P w H h a u := e.ok ok
theorem dk_rd {kvs : List (Key × V)} (ok : HOk P w H h) (e : Rd H a (.dK kvs)) : kvs.length ≤ sizeLine ∧ (a == sysModules) = false ∧ ∃ vs, KV kvs vs ∧ h.DictOf (mixKind P w) a vs :=
  show ObjOk P w H h a (.dK kvs) from rd_of ok e
theorem dk_of {kvs : List (Key × V)} (ok : HOk P w H h) (e : H a = some (.dK kvs)) : kvs.length ≤ sizeLine ∧ (a == sysModules) = false ∧ ∃ vs, KV kvs vs ∧ h.DictOf (mixKind P w) a vs := dk_rd ok (.inl e)
theorem key_of {ks : List Key} (ok : HOk P w H h) (e : H a = some (.tup (ks.map kV))) : (tupleKind (mixKind P w)).is h ks a := by
  obtain ⟨_, its, r, o, h1, h2, n, h3⟩ := (show ObjOk P w H h a (.tup (ks.map kV)) from ok a _ e)
  exact ⟨o, its.toArray, n, h1, h2, h3, by simpa using items_are r⟩
theorem dt_rd {kvs : List (List Key × V)} (ok : HOk P w H h) (e : Rd H a (.dT kvs)) : kvs.length ≤ sizeLine ∧ (a == sysModules) = false ∧
    ∃ xs, KT H kvs xs ∧ h.DictOfH (tupleKind (mixKind P w)) a xs := by
  obtain ⟨z, y, xs, r, o, es, ep, h1, h2, h3, h4, h5⟩ := (show ObjOk P w H h a (.dT kvs) from rd_of ok e)
  refine ⟨z, y, xs, r, o, es, ep, h1, h2, h3, h4, fun x hx => ?_, h5⟩
  have all : ∀ {l : List (List Key × V)} {m : List (List Key × Addr × Value)}, KT H l m → ∀ x ∈ m, (tupleKind (mixKind P w)).is h x.1 x.2.1 := by
    intro l m q
    induction q with
    | nil => intro x hx; exact nomatch hx
    | @cons p q ps qs hq t ih =>
      intro x hx
      rcases List.mem_cons.mp hx with e | hx
      · subst e
        exact key_of ok (by rw [← hq.1]; exact hq.2.1)
      · exact ih x hx
  exact all r x hx
theorem dt_of {kvs : List (List Key × V)} (ok : HOk P w H h) (e : H a = some (.dT kvs)) : kvs.length ≤ sizeLine ∧ (a == sysModules) = false ∧
    ∃ xs, KT H kvs xs ∧ h.DictOfH (tupleKind (mixKind P w)) a xs := dt_rd ok (.inl e)
end
def DGet (H : Hp) (a : Addr) (y : V) (r : Option V) : Prop :=
  (∃ kvs k, Rd H a (.dK kvs) ∧ y = kV k ∧ r = valV kvs k) ∨ ∃ kvs k b, Rd H a (.dT kvs) ∧ y = .ref b ∧ H b = some (.tup (k.map kV)) ∧ r = valV kvs k
def DPut (H : Hp) (a : Addr) (y v : V) (H' : Hp) : Prop :=
  (∃ kvs k, H a = some (.dK kvs) ∧ y = kV k ∧ kvs.length < sizeLine ∧ H' = upd H a (.dK (putK kvs k v))) ∨
  ∃ kvs k b, H a = some (.dT kvs) ∧ y = .ref b ∧ H b = some (.tup (k.map kV)) ∧ kvs.length < sizeLine ∧ H' = upd H a (.dT (putK kvs k v))
theorem DGet.k {H : Hp} {a : Addr} {kvs : List (Key × V)} {k : Key} (e : H a = some (.dK kvs)) : DGet H a (kV k) (valV kvs k) := .inl ⟨kvs, k, .inl e, rfl, rfl⟩
theorem DGet.t {H : Hp} {a b : Addr} {kvs : List (List Key × V)} {k : List Key} (e : H a = some (.dT kvs)) (eb : H b = some (.tup (k.map kV))) : DGet H a (.ref b) (valV kvs k) := .inr ⟨kvs, k, b, .inl e, rfl, eb, rfl⟩
theorem DPut.k {H : Hp} {a : Addr} {kvs : List (Key × V)} {k : Key} {v : V} (e : H a = some (.dK kvs)) (hl : kvs.length < sizeLine) : DPut H a (kV k) v (upd H a (.dK (putK kvs k v))) := .inl ⟨kvs, k, e, rfl, hl, rfl⟩
theorem DPut.t {H : Hp} {a b : Addr} {kvs : List (List Key × V)} {k : List Key} {v : V} (e : H a = some (.dT kvs)) (eb : H b = some (.tup (k.map kV))) (hl : kvs.length < sizeLine) :
    DPut H a (.ref b) v (upd H a (.dT (putK kvs k v))) := .inr ⟨kvs, k, b, e, rfl, eb, hl, rfl⟩
section
variable {X : Cx} {pins : List (Addr × Obj)} {σ : St} {H : Hp} {s : Shared} {a : Addr} {y v : V} {u r : Value} {o : Option V} {A : Around} {E : Value → Shared → Prop}
theorem Inv.big (I : Inv X pins σ H s) : sysModules < s.heap.objs.size := by
  have h : mainGlobals < s.heap.objs.size := (I.mod.glob.keeps I.bk).lt
  exact Nat.lt_trans (by decide) h
theorem d_getItem {Q : Value → Shared → Prop} (hu : A.units + 1 < cLine) (I : Inv X pins σ H s) (g : DGet H a y (some v)) (ry : RelV y u) (h : ∀ w' s', Inv X pins σ H s' → RelV v w' → Q w' s') :
    wpAny (model X.prog X.w) A (getItem (.ref a) u) Q E s := by
  rcases g with ⟨kvs, k, e, ey, l⟩ | ⟨kvs, k, b, e, ey, eb, l⟩
  · subst ey
    obtain ⟨z, hd, vs, rel, dd⟩ := dk_rd I.hok e
    obtain ⟨w', hw, rw'⟩ := RelO.some_of (v := v) (o := valueAt vs k) (by rw [l]; exact rel.val k)
    exact wpAny_getItem_of (kV_is ry) dd.mapOf hw (h w' _ (I.tok _) rw')
  · subst ey
    cases (show u = Value.ref b from ry)
    obtain ⟨z, hd, xs, rel, dd⟩ := dt_rd I.hok e
    obtain ⟨w', hw, rw'⟩ := RelO.some_of (v := v) (o := (atKey xs k).map (·.2)) (by rw [l]; exact rel.val k)
    obtain ⟨p, hp, hp2⟩ := Option.map_eq_some_iff.mp hw
    refine wpAny_getItem_heap (tupleKind_room_in1 hu) (key_of I.hok eb) dd hp ?_
    rw [hp2]
    exact h w' _ (I.tok _) rw'
theorem d_write {h' : Heap} {t' : Nat} {ob : HO} (I : Inv X pins σ H s) (mu : Mut (H a)) (hs : Heap.SameBut a s.heap h') (he : ∃ q, h'.get? a = some q) (new : ObjOk X.prog X.w (upd H a ob) h' a ob) :
    Inv X pins σ (upd H a ob) { s with heap := h', toks := t' } :=
  I.write (x := a) (e := a) mu (.inl rfl) (fun b q hb z => (hs.2 b hb).trans z) he new
theorem dk_new {P : Program} {w : World} {H' : Hp} {h' : Heap} {kvs : List (Key × V)} {vs : List (Key × Value)} (z : kvs.length ≤ sizeLine) (hd : (a == sysModules) = false) (rel : KV kvs vs) (dd : h'.DictOf (mixKind P w) a vs) :
    ObjOk P w H' h' a (.dK kvs) := ⟨z, hd, vs, rel, dd⟩
theorem d_setItem {H' : Hp} {Q : Unit → Shared → Prop} (hu : A.units + 1 < cLine) (I : Inv X pins σ H s) (g : DPut H a y v H') (ry : RelV y u) (rv : RelV v r) (h : ∀ s', Inv X pins σ H' s' → Q () s') :
    wpAny (model X.prog X.w) A (setItem (.ref a) u r) Q E s := by
  rcases g with ⟨kvs, k, e, ey, l, eH⟩ | ⟨kvs, k, b, e, ey, eb, l, eH⟩
  · subst ey eH
    obtain ⟨z, hd, vs, rel, dd⟩ := dk_of I.hok e
    have hz : vs.length ≤ sizeLine := by rw [← rel.length]; exact z
    have hl : (putK kvs k v).length ≤ sizeLine := by have := length_putK kvs k v; omega
    refine wpAny_setItem_pairs (hsz := hz) (kV_is ry) dd fun h' dd' hs => h _ ?_
    have he : ∃ q, h'.get? a = some q := let ⟨q, _, _, hq, _⟩ := dd'; ⟨q, hq⟩
    exact d_write I (by rw [e]; exact True.intro) hs he (dk_new hl hd (rel.put k rv) dd')
  · subst ey eH
    cases (show u = Value.ref b from ry)
    obtain ⟨z, hd, xs, rel, dd⟩ := dt_of I.hok e
    have hz : xs.length ≤ sizeLine := by rw [← Paired.length rel]; exact z
    have hl : (putK kvs k v).length ≤ sizeLine := by have := length_putK kvs k v; omega
    refine wpAny_setItem_heap (hsz := hz) (tupleKind_room_in1 hu) (key_of I.hok eb) dd fun h' dd' hs => h _ ?_
    obtain ⟨q, es, ep, hq, h2, h3, h4, _, h5⟩ := dd'
    refine d_write I (by rw [e]; exact True.intro) hs ⟨q, hq⟩ ⟨hl, hd, _, (rel.put k eb rv).keeps fun c ys ec => ?_, q, es, ep, hq, h2, h3, h4, h5⟩
    rw [upd_ne (ne_of ec e (fun z => nomatch z))]
    exact ec
end
section
variable {X : Cx} {pins : List (Addr × Obj)} {σ : St} {H : Hp} {s : Shared} {a : Addr} {kvs : List (Key × V)} {k : Key} {u : Value} {A : Around} {E : Value → Shared → Prop}
end
def NoSl (i : Expr) : Prop := ∀ ov iv, subscripted i false ov iv = operate [ov, iv] (getItem ov iv)
theorem subD_of {prog : Program} {w : World} {A : Around} {E : Value → Shared → Prop} {s : Shared} {env : Env} {value slice : Expr} {pos : Pos} {T id : String} {Q : Value → Shared → Prop}
    (hl : typeLookup (.type T) "__getitem__" = pure (some (.builtin id))) (hs : NoSl slice)
    (h : wpAny (model prog w) A (eval value env) (fun o s₁ => wpAny (model prog w) A (eval slice env) (fun i s₂ => s₂.TypeIs o T ∧ wpAny (model prog w) A (getItem o i) Q E s₂) E s₁) E s) :
    wpAny (model prog w) A (eval (.Subscript value slice pos) env) Q E s := by
  refine Subscript_ (wpAny_mono h (fun o s₁ h₁ => wpAny_mono h₁ (fun i s₂ h₂ => ?_) fun _ _ x => x) fun _ _ x => x)
  obtain ⟨hT, h₂⟩ := h₂
  unfold subscriptTail
  refine wpAny_bind ?_
  rw [getitemInPython_of_ne hT.not_modules]
  refine wpAny_bind (wpAny_specialOf hT hl ?_)
  have fin : wpAny (model prog w) A (subscripted slice false o i) (fun r s₃ => wpAny (model prog w) A (letTemporaryGo value o r >>= fun _ => pure r) Q E s₃) E s₂ := by
    rw [hs o i]
    exact wpAny_operating (wpAny_mono h₂ (fun r s₃ h₃ => wpAny_bind (wpAny_letTemporaryGo (wpAny_pure h₃))) fun _ _ x => x)
  first
    | exact wpAny_pure (wpAny_bind fin)
    | exact wpAny_bind (wpAny_pure (wpAny_bind fin))
    | exact wpAny_bind fin
theorem dict_typeIs {X : Cx} {pins : List (Addr × Obj)} {σ : St} {H : Hp} {s : Shared} {a : Addr} {y : V} {o : Option V} (I : Inv X pins σ H s) (g : DGet H a y o) : s.TypeIs (.ref a) "dict" := by
  rcases g with ⟨kvs, k, e, _, _⟩ | ⟨kvs, k, b, e, _, _, _⟩
  · obtain ⟨_, _, vs, _, dd⟩ := dk_rd I.hok e
    exact dd.typeIs
  · obtain ⟨_, _, xs, _, dd⟩ := dt_rd I.hok e
    exact dd.typeIs
def tDGet (td ty : TE) : TE := fun σ H Q => td σ H fun x H1 => ty σ H1 fun y H2 => ∃ a v, x = .ref a ∧ DGet H2 a y (some v) ∧ Q v H2
def sDPut (td ty tv : TE) : TS := fun D σ H => tv σ H fun v H1 => td σ H1 fun x H2 => ty σ H2 fun y H3 => ∃ a H4, x = .ref a ∧ DPut H3 a y v H4 ∧ D.nx σ H4
section
variable {X : Cx} {o i e value : Expr} {pos pos' tpos : Pos} {td ty tv : TE}
theorem pe_dget (hu : X.A.units + 1 < cLine) (ho : PE X o td) (hi : PE X i ty) (hs : NoSl i) : PE X (.Subscript o i pos) (tDGet td ty) := by
  intro pins s σ H Q I h
  refine subD_of PySem.F.slot_dict_getitem.lookup hs (thn (ho pins s σ H _ I h) fun u s1 ⟨x, H1, I1, rx, q1⟩ => thn (hi pins s1 σ H1 _ I1 q1) fun iv s2 ⟨y, H2, I2, ry, a, v, ex, g, q2⟩ => ?_)
  subst ex
  obtain rfl : u = Value.ref a := rx
  exact ⟨dict_typeIs I2 g, d_getItem hu I2 g ry fun w' s3 I3 rw' => ⟨v, H2, I3, rw', q2⟩⟩
theorem ps_dput (hu : X.A.units + 1 < cLine) (ho : PE X o td) (hi : PE X i ty) (hv : PE X value tv) (hs : swapsWith value (some (.Subscript o i pos')) pos.line X.env = pure false) :
    PS X (.Assign [.Subscript o i pos'] value pos) (sDPut td ty tv) := by
  intro pins s σ H D I h
  refine wpAny_Assign_Subscript (thn (hv pins s σ H _ I h) fun r s1 ⟨v, H1, I1, rv, q1⟩ => thn (ho pins s1 σ H1 _ I1 q1) fun u s2 ⟨x, H2, I2, rx, q2⟩ => thn (hi pins s2 σ H2 _ I2 q2) fun iv s3 ⟨y, H3, I3, ry, a, H4, ex, g, q3⟩ => ?_) hs
  subst ex
  obtain rfl : u = Value.ref a := rx
  exact d_setItem hu I3 g ry rv fun s4 I4 => ⟨σ, H4, I4, q3⟩
end
theorem dt_empty {P : Program} {w : World} {H : Hp} (h : Heap) (hb : sysModules < h.objs.size) : ObjOk P w H (h.push { cls := .type "dict", data := .dict #[] }) h.objs.size (.dT []) :=
  ⟨Nat.zero_le _, beq_eq_false_iff_ne.mpr (Ne.symm (Nat.ne_of_lt hb)), [], .nil, _, #[], 0, Heap.get?_push_size _ rfl, ⟨rfl, rfl, rfl⟩, rfl, rfl, List.nodup_nil⟩
def tDNewT : TE := fun _ H Q => ∀ p, H p = none → Q (.ref p) (upd H p (.dT []))
section
variable {X : Cx} {pos : Pos}
theorem pe_dnewT : PE X (.Dict [] [] pos) tDNewT := fun pins s σ H Q I h =>
  wpAny_Dict_empty ⟨.ref s.heap.objs.size, _, I.laid (a := s.heap.objs.size) (o := .dT []) (t' := s.toks) (fun _ _ q => Heap.get?_push_of_some _ q) (Nat.le_refl _) (dt_empty s.heap I.big), rfl, h _ (I.hok.fresh (Nat.le_refl _))⟩
end
def mergeK (kvs more : List (Key × V)) : List (Key × V) := more.foldl (fun acc kv => putK acc kv.1 kv.2) kvs
theorem KV.merge : ∀ {more : List (Key × V)} {rs : List (Key × Value)} {kvs : List (Key × V)} {vs : List (Key × Value)}, KV more rs → KV kvs vs → KV (mergeK kvs more) (merged vs rs) := by
  intro more rs kvs vs r
  unfold KV at r
  induction r generalizing kvs vs with
  | nil => intro q; exact q
  | @cons p q ps qs h t ih =>
    intro r0
    have e : KV (putK kvs p.1 p.2) (stored vs q.1 q.2) := by
      have := r0.put p.1 h.2
      rw [← h.1]; exact this
    exact ih e
structure M1 (X : Cx) (o : Expr) (m : Str) (apos : Pos) (e : Expr) (cpos : Pos) : Prop where
  base : attributeBase o m X.env (eval o X.env) = eval o X.env
  few : ((backTo cpos (starEach [e] X.env)).all (fun x => !x.1) && (backToKw cpos (keywordEach [] X.env)).all (fun x => x.1.isSome)
    && decide (([e] : List Expr).length + ([] : List Keyword).length + (if ([] : List Keyword).isEmpty then 0 else 1) < 30)) = true
  line : (apos.endLine == cpos.line) = true
  trees : backTo cpos (starEach [e] X.env) = [(false, eval e X.env)]
structure M2 (X : Cx) (o : Expr) (m : Str) (apos : Pos) (e f : Expr) (cpos : Pos) : Prop where
  base : attributeBase o m X.env (eval o X.env) = eval o X.env
  few : ((backTo cpos (starEach [e, f] X.env)).all (fun x => !x.1) && (backToKw cpos (keywordEach [] X.env)).all (fun x => x.1.isSome)
    && decide (([e, f] : List Expr).length + ([] : List Keyword).length + (if ([] : List Keyword).isEmpty then 0 else 1) < 30)) = true
  line : (apos.endLine == cpos.line) = true
  trees : backTo cpos (starEach [e, f] X.env) = [(false, eval e X.env), (false, eval f X.env)]
def IsD (H : Hp) (a : Addr) : Prop := (∃ kvs, Rd H a (.dK kvs)) ∨ ∃ kvs, Rd H a (.dT kvs)
theorem isD_at {X : Cx} {pins : List (Addr × Obj)} {σ : St} {H : Hp} {s : Shared} {a : Addr} (I : Inv X pins σ H s) (d : IsD H a) :
    s.TypeIs (.ref a) "dict" ∧ (∀ b, Value.ref a = .ref b → ∃ ob, s.heap.get? b = some ob ∧ ob.dict = none) ∧ (a == sysModules) = false := by
  rcases d with ⟨kvs, e⟩ | ⟨kvs, e⟩
  · obtain ⟨_, hd, vs, _, dd⟩ := dk_rd I.hok e
    refine ⟨dd.typeIs, fun b q => ?_, hd⟩
    cases q
    obtain ⟨ob, _, _, h1, h2, _⟩ := dd
    exact ⟨ob, h1, h2.2.1⟩
  · obtain ⟨_, hd, xs, _, dd⟩ := dt_rd I.hok e
    refine ⟨dd.typeIs, fun b q => ?_, hd⟩
    cases q
    obtain ⟨ob, _, _, h1, h2, _⟩ := dd
    exact ⟨ob, h1, h2.2.1⟩
section
variable {X : Cx} {pins : List (Addr × Obj)} {σ : St} {H : Hp} {s : Shared} {a : Addr} {y d : V} {u r : Value} {o : Option V} {A : Around} {E : Value → Shared → Prop}
theorem d_get2 {Q : Value → Shared → Prop} (hu : A.units + 1 < cLine) (I : Inv X pins σ H s) (g : DGet H a y o) (ry : RelV y u) (rd : RelV d r) (h : ∀ w' s', Inv X pins σ H s' → RelV (o.getD d) w' → Q w' s') :
    wpAny (model X.prog X.w) A (call (.builtin "dict.get") [.ref a, u, r]) Q E s := by
  rcases g with ⟨kvs, k, e, ey, l⟩ | ⟨kvs, k, b, e, ey, eb, l⟩
  · subst ey
    obtain ⟨z, hd, vs, rel, dd⟩ := dk_rd I.hok e
    refine call_meetsIn PySem.F.slot_dict_get dd.typeIs PySem.F.entry_dict_get (PySem.F.args_dict_get_3 _ _ _) (meets_dict_get_default (mixKind X.prog X.w) a (kV_is ry) hd r) ⟨_, dd.mapOf, h _ _ (I.tok _) ?_⟩
    rw [l]
    exact (rel.val k).getD rd
  · subst ey
    cases (show u = Value.ref b from ry)
    obtain ⟨z, hd, xs, rel, dd⟩ := dt_rd I.hok e
    refine call_meetsIn PySem.F.slot_dict_get dd.typeIs PySem.F.entry_dict_get (PySem.F.args_dict_get_3 _ _ _) (meetsH_dict_get_default (tupleKind (mixKind X.prog X.w)) a b hd r) ⟨tupleKind_room_in1 hu, k, xs, key_of I.hok eb, dd, h _ _ (I.tok _) ?_⟩
    rw [l]
    exact (rel.val k).getD rd
end
def tDGet2 (td ty tx : TE) : TE := fun σ H Q => td σ H fun x H1 => ∃ a, x = .ref a ∧ IsD H1 a ∧ ty σ H1 fun y H2 => tx σ H2 fun z H3 => ∃ o, DGet H3 a y o ∧ Q (o.getD z) H3
section
variable {X : Cx} {o e f : Expr} {apos cpos : Pos} {td ty tx : TE}
theorem pe_dget2 (hu : X.A.units + 1 < cLine) (ho : PE X o td) (he : PE X e ty) (hf : PE X f tx) (m : M2 X o "get" apos e f cpos) : PE X (.Call (.Attribute o "get" apos) [e, f] [] cpos) (tDGet2 td ty tx) := by
  intro pins s σ H Q I h
  refine wpAny_Call_method m.base m.few m.line PySem.F.plainAttrs_dict PySem.F.slot_dict_get PySem.F.type_dict_get (thn (ho pins s σ H _ I h) fun u s1 ⟨x, H1, I1, rx, a, ex, d, q1⟩ => ?_)
  subst ex
  obtain rfl : u = Value.ref a := rx
  obtain ⟨t1, t2, _⟩ := isD_at I1 d
  refine ⟨t1, t2, ?_⟩
  rw [m.trees]
  refine Calls.callWith_builtin rfl (Calls.evalArgs_plain (Calls.spliced_cons (thn (he pins s1 σ H1 _ I1 q1) fun iv s2 ⟨y, H2, I2, ry, q2⟩ =>
    Calls.spliced_cons (thn (hf pins s2 σ H2 _ I2 q2) fun fv s3 ⟨z, H3, I3, rz, ov, g, q3⟩ => Calls.spliced_nil ?_))))
  exact d_get2 hu I3 g ry rz fun w' s4 I4 rw' => ⟨_, H3, I4, rw', q3⟩
end
section
variable {X : Cx} {pins : List (Addr × Obj)} {σ : St} {H : Hp} {s : Shared} {a : Addr} {kvs : List (Key × V)} {A : Around} {E : Value → Shared → Prop}
end
section
variable {X : Cx} {pins : List (Addr × Obj)} {σ : St} {H : Hp} {s : Shared} {a : Addr} {y : V} {u : Value} {A : Around} {E : Value → Shared → Prop}
end
end L2
namespace Att
open PySem PySem.W PySem.Calls PyProof.Rows
theorem ints_of_wellAll {P : Params} {h : Heap} : ∀ (ns : List Int) (vs : List Value), WellAll P h vs (ns.map WData.int) → IntsAre vs ns := by
  intro ns
  induction ns with
  | nil =>
    intro vs w
    rw [List.map_nil] at w
    cases w
    exact .nil
  | cons n ns ih =>
    intro vs w
    rw [List.map_cons] at w
    cases w with
    | cons a b =>
      cases a
      exact .cons _ _ (ih _ b)
theorem script_of {l : OpenLaw} {n : Nat} (hn : l.most = some n) {P : Params} {h : Heap} {args : List WData} {vals : List Value}
    (hpre : l.row.toRowW.claim.pre args = true) (hwl : WellAll P h vals args) :
    ∃ a vs ns, vals = [Value.ref a] ∧ args = [WData.list (ns.map WData.int)] ∧ h.get? a = some { cls := .type "list", data := .seq vs.toArray } ∧ IntsAre vs ns ∧ ns.length ≤ n := by
  have hsh : WShape.hasAll [] args [.list .int] = true := (pre_splitW hpre).1
  have hc : l.pre.holds [] { args := args } = true := (pre_splitW hpre).2
  obtain ⟨d, r, rfl, h1, h2⟩ := hasAllW_cons hsh
  obtain rfl := hasAllW_nil h2
  obtain ⟨xs, rfl, h3⟩ := hasW_list h1
  obtain ⟨ns, rfl⟩ := items_int h3
  have hlen : ns.length ≤ n := by
    unfold OpenLaw.pre at hc
    have h4 : (WTm.not (.lt (.lit (.int (n : Int))) (.len (.arg 0)))).holds [] { args := [.list (ns.map .int)] } = true := by
      have h4 := (holds_andW hc).1
      rw [hn] at h4
      exact h4
    have h5 := condW_of h4 (w_not (w_lt w_lit (w_len_list (w_arg rfl))))
    rw [List.length_map] at h5
    refine Nat.le_of_not_lt fun q => ?_
    have q' : (n : Int) < ((ns.length : Nat) : Int) := by omega
    first
      | (rw [decide_eq_true q'] at h5; exact absurd h5 (by decide))
      | (simp at h5; omega)
  cases hwl with
  | cons w1 w2 =>
    cases w2
    cases w1 with
    | list ho hall => exact ⟨_, _, ns, rfl, rfl, ho, ints_of_wellAll ns _ hall, hlen⟩
theorem post_true (l : OpenLaw) (args : List WData) : l.row.toRowW.claim.post args (.bool true) args = true :=
  postW_of (r := l.row.toRowW) (X := (true == true))
    (show WShape.has [] (.bool true) .bool = true by first | rfl | decide | simp [WShape.has, WShape.arms, WShape.armsAll])
    (show (WTm.eq .res (.lit (.bool true))).value [] { args := args, res := some (.bool true), after := args } = some (.bool (true == true)) from w_eq_bool (w_res rfl) w_lit) rfl
theorem attach_call {l : OpenLaw} {n : Nat} {q : Program} {loose : List Str} {XP : (Str → Option Value) → Heap → Prop} {YP : World → Heap → Prop} {d : DefRec}
    (hn : l.most = some n) (hdf : d.params.defaults = [])
    (call : ∀ (w : World) (s₀ s₁ : Shared) (mg mb : Str → Option Value) (fa : Addr) (o : Obj) (pm cd doc : Value) (a : Addr) (vs : List Value) (ns : List Int),
      Ground q loose [] XP w s₀ mg mb s₁.heap → YP w s₁.heap →
      s₁.heap.get? fa = some o → o.data = .func (docDef d.name d.params d.body d.scope pm cd doc) → s₁.heap.CodeRec cd d.name → mg d.name = some (.ref fa) →
      s₁.heap.get? a = some { cls := .type "list", data := .seq vs.toArray } → IntsAre vs ns → ns.length ≤ n → s₁.gens = #[] →
      codeAny (model l.prog w) callerA (.call (.ref fa) ⟨[.ref a], []⟩) (fun r s' => r = .ok (.ret (.bool true)) ∧ OldK s₁.heap s'.heap ∧ s'.os = s₁.os ∧ AllBare s'.gens) s₁) :
    WalkO q loose XP YP l.row.toRowW d [] (fun f vs => PySem.call f vs) := by
  intro w s₀ s₁ mg mb G Y fa o pm cd doc dV kV ho hd hcd hD hmg hg args vals as hpre hlay hrd hwl hlo
  obtain rfl : dV = .none := Dflts.none hD hdf
  obtain rfl : kV = .none := Dflts.noKw hD
  obtain ⟨a, vs, ns, rfl, rfl, hobj, hints, hlen⟩ := script_of hn hpre hwl
  refine enter_call (codeAny_mono (call w s₀ s₁ mg mb fa o pm cd doc a vs ns G Y ho (fd_plain hd) hcd hmg hobj hints hlen hg) fun r s' hq => ?_)
  obtain ⟨rfl, h2, h3, h4⟩ := hq
  exact ⟨.inl ⟨.bool true, .bool true, [], rfl, fun _ => rfl, .bool true, post_true l _, fun _ => ⟨List.Pairwise.nil, fun _ hm => (nomatch hm)⟩⟩, h2, h3, h4⟩
section
variable {prog : Program} {w : World} {A : Around} {E : Value → Shared → Prop} {s : Shared} {K : Frag}
end
end Att
namespace L2
open PySem PySem.Spec PyProof.Rows
theorem vals_ints : ∀ {vs : List Value} {ns : List Int}, IntsAre vs ns → Vals (ns.map V.int) vs
  | _, _, .nil => .nil
  | _, _, .cons n t h => .cons ⟨t, rfl⟩ (vals_ints h)
def Only (H : Hp) : Prop := ∀ b, H b = none ∨ ∃ o xs, H b = some (.frz o (.lst xs))
theorem law_call {P : Program} {w : World} {K : PySem.W.Frag} {mg mb : Str → Option Value} {CX : CXT} {k : Nat} {fa a : Addr} {fd : FuncData} {x : Str} {sp : Sp} {s₁ : Shared} {vs : List Value} {ns : List Int}
    (KX : K.In s₁.heap) (hns : s₁.heap.Ns mainGlobals mg) (hb : s₁.heap.Ns builtinsNs mb) (hbb : ∀ x : Str, x ≠ "__name__" → mb x = bootBuiltins x) (hlim : s₁.heap.NoLimit) (hg : s₁.gens = #[])
    (ha : s₁.heap.get? a = some { cls := .type "list", data := .seq vs.toArray }) (hi : IntsAre vs ns) (hl : ns.length ≤ sizeLine) (hr : Room k callerA)
    (F : ∀ base : Heap, K.In base → base.Ns mainGlobals mg → FnOk P w K mg base CX k fa fd [x] sp) (hbind : ∀ (s : Shared) (u : Value), BindsTo s fd ⟨[u], []⟩ [(x, u)])
    (hsp : ∀ H : Hp, Only H → SqL K H a (ns.map V.int) → sp [.ref a] H (fun v _ => v = .bl true) fun _ _ _ => False)
    (hCX : ∀ H e s', CX [] H s₁ (fun _ _ _ => False) e s' → False) :
    codeAny (model P w) callerA (.call (.ref fa) ⟨[.ref a], []⟩) (fun r s' => r = .ok (.ret (.bool true)) ∧ OldK s₁.heap s'.heap ∧ s'.os = s₁.os ∧ AllBare s'.gens) s₁ := by
  have rv := vals_ints hi
  have lenV := hi.length
  have core : ∀ H : Hp, Only H → SqL K H a (ns.map V.int) → HOk P w H s₁.heap → (∀ b, H b ≠ none → b = a) → (H a ≠ none → K.lookup a = none) →
      codeAny (model P w) callerA (.call (.ref fa) ⟨[.ref a], []⟩) (fun r s' => r = .ok (.ret (.bool true)) ∧ OldK s₁.heap s'.heap ∧ s'.os = s₁.os ∧ AllBare s'.gens) s₁ := by
    intro H hO hS hok hA hK
    have base_of : ∀ {b : Addr} {o : Obj}, s₁.heap.get? b = some o → H b = none → (hidT s₁.heap H).get? b = some o := fun e n => hidT_get e n
    have noA : ∀ {b : Addr} {o : Obj} {es : Array DictEntry} {ep : Nat}, s₁.heap.get? b = some o → o.data = .dict es ep → H b = none := fun {b o es ep} e d => by
      cases q : H b with
      | none => rfl
      | some u =>
        have e' : b = a := hA b (by rw [q]; simp)
        subst e'
        rw [ha] at e; cases e
        have d' : Data.seq vs.toArray _ = Data.dict es ep := d
        cases d'
    have nsK : ∀ {b : Addr} {m : Str → Option Value}, s₁.heap.Ns b m → (hidT s₁.heap H).Ns b m := fun {b m} ⟨o, es, ep, e, d, r⟩ => ⟨o, es, ep, base_of e (noA e d), d, r⟩
    have hKb : K.In (hidT s₁.heap H) := fun b o e => base_of (KX b o e) (by
      cases q : H b with
      | none => rfl
      | some u =>
        have e' : b = a := hA b (by rw [q]; simp)
        subst e'
        rw [hK (by rw [q]; simp)] at e; cases e)
    have hM : Mod K mg (hidT s₁.heap H) := ⟨hKb, nsK hns, ⟨mb, nsK hb, hbb⟩, let ⟨mc, h1, h2⟩ := hlim; ⟨mc, nsK h1, h2⟩⟩
    have e0 : Env0 P w K mg (hidT s₁.heap H) callerA [] s₁ H := ⟨rfl, hM, fun b o e => of_hidT e, Nat.le_of_eq (hidT_size _ _), trivial, fun b hb => absurd (show b ∈ ([] : List Addr) from hb) (by simp), hok, .of_eq hg⟩
    refine codeAny_mono ((F _ hKb (nsK hns)).run callerA [] s₁ H ⟨[.ref a], []⟩ [.ref a] [.ref a] _ _ hr e0 (hbind s₁ (.ref a)) (.cons rfl .nil) (hsp H hO hS)) fun r s' h => ?_
    cases r with
    | error e => exact (hCX H e s' h).elim
    | ok fl =>
      cases fl with
      | next => exact False.elim h
      | brk => exact False.elim h
      | cont => exact False.elim h
      | ret u =>
        obtain ⟨v, H', os, bare, un, hok', r', q⟩ := h
        have q' : v = .bl true := q
        subst q'
        obtain rfl : u = Value.bool true := r'
        refine ⟨rfl, OldK.of_keep fun b o e => ?_, os, bare⟩
        cases q : H b with
        | none => exact un.keep b o e q (by intro z; exact absurd (show b ∈ ([] : List Addr) from z) (by simp)) (by simp)
        | some u =>
          rcases hO b with z | ⟨ob, xs, z⟩
          · rw [q] at z; cases z
          · have z2 := un.frzs b ob _ z
            obtain ⟨e1, _⟩ := hok b _ z
            obtain ⟨e2, _⟩ := hok' b _ z2
            rw [e] at e1; cases e1
            exact e2
  cases hk : K.lookup a with
  | some o =>
    have e := KX a o hk
    rw [ha] at e
    cases e
    refine core (fun _ => none) (fun _ => .inl rfl) (.inr ⟨_, vs.toArray, _, hk, rfl, rfl, rfl, by rw [List.size_toArray, lenV]; exact hl, by simpa using rv⟩) (fun b u z => by have z' : (none : Option HO) = some u := z; cases z') (fun b z => absurd rfl z) fun z => absurd rfl z
  | none =>
    refine core (fun b => if b = a then some (.frz { cls := .type "list", data := .seq vs.toArray } (.lst (ns.map V.int))) else none) (fun b => ?_) (.inl (.inr ⟨{ cls := .type "list", data := .seq vs.toArray }, if_pos rfl⟩)) (fun b u z => ?_) (fun b z => ?_) fun _ => hk
    · by_cases hb : b = a
      · exact .inr ⟨_, _, if_pos hb⟩
      · exact .inl (if_neg hb)
    · by_cases hb : b = a
      · have z' := (if_pos hb).symm.trans z
        cases z'
        subst hb
        exact ⟨ha, by rw [List.length_map]; exact hl, vs, _, rv, ha⟩
      · have z' := (if_neg hb).symm.trans z
        cases z'
    · by_cases hb : b = a
      · exact hb
      · exact absurd (if_neg hb) z
end L2
namespace L2
open PySem PySem.Spec PyProof.Rows
abbrev KOf {K : PySem.W.Frag} {h : Heap} (_ : K.In h) : PySem.W.Frag := K
theorem walk_of {l : PySem.W.OpenLaw} {n k : Nat} {q : Program} {loose : List Str} {XP : (Str → Option Value) → Heap → Prop} {YP : World → Heap → Prop} {d : DefRec} {K : Params → PySem.W.Frag} {CX : World → CXT} {sp : World → Sp} {x : Str}
    (hn : l.most = some n) (hn2 : n ≤ sizeLine) (hdf : d.params.defaults = []) (hr : Room k callerA)
    (hY : ∀ (w : World) (h : Heap), YP w h → (K w.params).In h)
    (F : ∀ (w : World) (mg : Str → Option Value) (fa : Addr) (h : Heap), (K w.params).In h → h.Ns mainGlobals mg → mg d.name = some (.ref fa) →
      ∃ fd : FuncData, (∀ (s : Shared) (u : Value), BindsTo s fd ⟨[u], []⟩ [(x, u)]) ∧
        ∀ base : Heap, (K w.params).In base → base.Ns mainGlobals mg → FnOk l.prog w (K w.params) mg base (CX w) k fa fd [x] (sp w))
    (hsp : ∀ (w : World) (H : Hp) (a : Addr) (ns : List Int), ns.length ≤ n → Only H → SqL (K w.params) H a (ns.map V.int) → sp w [.ref a] H (fun v _ => v = .bl true) fun _ _ _ => False)
    (hCX : ∀ (w : World) (H : Hp) (s : Shared) (e : Value) (s' : Shared), CX w [] H s (fun _ _ _ => False) e s' → False) :
    PySem.W.WalkO q loose XP YP l.row.toRowW d [] (fun f vs => PySem.call f vs) := by
  refine Att.attach_call hn hdf fun w s₀ s₁ mg mb fa o pm cd doc a vs ns G Y ho hd hcd hmg hobj hints hlen hg => ?_
  have KX := hY w _ Y
  obtain ⟨fd, hb, hF⟩ := F w mg fa _ KX G.T.g hmg
  exact law_call KX G.T.g G.T.b G.T.builtins G.T.nolimit hg hobj hints (Nat.le_trans hlen hn2) hr hF hb (fun H hO hS => hsp w H a ns hlen hO hS) fun H e s' => hCX w H s₁ e s'
theorem walk_ofK {l : PySem.W.OpenLaw} {n k : Nat} {q : Program} {loose : List Str} {XP : (Str → Option Value) → Heap → Prop} {YP : World → Heap → Prop} {d : DefRec} {K : Params → PySem.W.Frag} {CX : CXT} {sp : PySem.W.Frag → Sp} {x : Str}
    (hn : l.most = some n) (hn2 : n ≤ sizeLine) (hdf : d.params.defaults = []) (hr : Room k callerA)
    (hY : ∀ (w : World) (h : Heap), YP w h → (K w.params).In h)
    (F : ∀ (w : World) (mg : Str → Option Value) (fa : Addr) (h : Heap), (K w.params).In h → h.Ns mainGlobals mg → mg d.name = some (.ref fa) →
      ∃ fd : FuncData, (∀ (s : Shared) (u : Value), BindsTo s fd ⟨[u], []⟩ [(x, u)]) ∧
        ∀ base : Heap, (K w.params).In base → base.Ns mainGlobals mg → FnOk l.prog w (K w.params) mg base CX k fa fd [x] (sp (K w.params)))
    (hsp : ∀ (K : PySem.W.Frag) (H : Hp) (a : Addr) (ns : List Int), ns.length ≤ n → Only H → SqL K H a (ns.map V.int) → sp K [.ref a] H (fun v _ => v = .bl true) fun _ _ _ => False)
    (hCX : ∀ (H : Hp) (s : Shared) (e : Value) (s' : Shared), CX [] H s (fun _ _ _ => False) e s' → False) :
    PySem.W.WalkO q loose XP YP l.row.toRowW d [] (fun f vs => PySem.call f vs) :=
  walk_of (K := K) (CX := fun _ => CX) (sp := fun w => sp (K w.params)) hn hn2 hdf hr hY F (fun w H a ns h1 h2 h3 => hsp (K w.params) H a ns h1 h2 h3) fun _ H s e s' => hCX H s e s'
end L2
/- THE LAST THEOREM (shape; LID, My.* are yours):
   My.Adr: a structure of the addresses that your layer names (classes, functions); My.Txt K t: a structure (Prop) of the equations over K;
   My.txt_mk : {K} {implicit addresses ..} (e1 : nsIn K mainGlobals "law" = some (some (.ref f))) (e2 : K.lookup f = some ⟨oc, od, .func (fnOf "law" "law" params body scope dV kV doc pm an cdv ct), sl⟩) (e3 : codeIn K cdv "law" = true) .. : ∃ t, My.Txt K t
set_option maxRecDepth 100000 in
set_option maxHeartbeats 0 in
theorem PySem.Challenge.cw_LID_holds : PySem.Challenge.rw_LID.Holds := by
  w_on; o_law; k_head; (case hw => w_witness2)
  k_fill
  refine L2.walk_of (l := PySem.Challenge.rw_LID) (n := 63) (k := 40) (x := "script") (CX := fun w => ..) (sp := fun _ => My.sp_law) rfl (by decide) rfl ⟨rfl, by decide, by decide⟩ (fun w h Y => PySem.W.kIn_of Y) ?F ?S ?C
  case F =>
    intro w mg fa h KX G hmg
    have T : ∃ t, My.Txt (L2.KOf KX) t := by
      dsimp only [L2.KOf]                          -- K must stand as «<heap const> w.params» for k_is
      refine' My.txt_mk ?e1 ?e2 ?e3 ..
      (case e1 => PySem.W.k_is)                    -- in the order: a name -> its address -> its object -> its parts
      (case e2 => PySem.W.k_is)
      ..
    obtain ⟨t, T⟩ := T
    have e0 := hmg.symm.trans (PySem.W.mg_of KX G T.law)
    cases e0                                       -- fa is the law's own address
    exact ⟨_, fun s u => .of_eq rfl, fun base kb nb => My.law_fn T kb nb⟩     -- if «.of_eq rfl» comes too early: refine' ⟨_, ?b, fun base kb nb => My.law_fn T kb nb⟩; exact fun s u => .of_eq rfl
  case S => exact fun w H a ns hl hO hS => ..
  case C => exact ..
(the tactic k_is has no namespace: write k_is) -/
namespace L2
open PySem PySem.Spec PyProof.Rows
def defArgs (s : Stmt) : Arguments := match s with
  | .FunctionDef _ a _ _ _ _ _ _ _ _ => a
  | _ => { posonlyargs := [], args := [], vararg := none, kwonlyargs := [], kw_defaults := [], kwarg := none, defaults := [] }
def defBody (s : Stmt) : List Stmt := match s with
  | .FunctionDef _ _ b _ _ _ _ _ _ _ => b
  | _ => []
def defScope (s : Stmt) : Scope := match s with
  | .FunctionDef _ _ _ _ _ _ sc _ _ _ => sc
  | _ => { kind := .function, names := [], isGenerator := false, isCoroutine := false }
abbrev CX0 : CXT := fun _ _ _ _ _ _ => False
abbrev E0 : XK := fun _ _ _ => False
theorem pass0 {X : Cx} : Passes CX0 X E0 := fun _ _ _ _ _ _ _ h => h.elim
structure Fun (K : PySem.W.Frag) (x qual : Str) (st : Stmt) (f : Addr) (fd : FuncData) : Prop where
  ex : ∃ (oc : Value) (od : Option Addr) (kV doc pm : Value) (an : Option Addr) (cdv ct : Value) (osl : Array (Option Value)),
    fd = PySem.W.fnOf x qual (defArgs st) (defBody st) (defScope st) .none kV doc pm an cdv ct ∧ K.lookup f = some ⟨oc, od, .func fd, osl⟩ ∧ PySem.W.codeIn K cdv qual = true
  kp : PySem.W.keepIn K (.ref f) = true
section
variable {P : Program} {w : World} {K : PySem.W.Frag} {mg : Str → Option Value} {base : Heap}
theorem Fun.ok {x qual : Str} {st : Stmt} {f : Addr} {fd : FuncData} {N ps : List Str} {k : Nat} {sp : Sp} (F : Fun K x qual st f fd) (S : FnScope N ps (defScope st)) (len : ∀ vs H Q E, sp vs H Q E → vs.length = ps.length)
    (hbody : ∀ (cdv : Value) (A : Around) (outer : List Env) (s : Shared) (H : Hp) (vs : List V) (Q : VK) (E : XK), Room k (A.deeper (envOfC qual (defScope st) s.heap.objs.size f cdv)) → sp vs H Q E →
      ∃ t, PSs (cxOf CX0 P w K mg base N qual (defScope st) f cdv A outer s H E).nox (defBody st) t ∧ t { nx := fun _ H' => Q .non H', rt := Q } (start N vs) H) : FnOk P w K mg base CX0 (k + 1) f fd ps sp := by
  obtain ⟨oc, od, kV, doc, pm, an, cdv, ct, osl, rfl, lk, hcd⟩ := F.ex
  refine fn_of lk hcd S len fun A outer s H vs Q E hr hsp => ?_
  obtain ⟨t, h, q⟩ := hbody cdv A outer s H vs Q E hr hsp
  exact ⟨t, h.nox, q⟩
theorem Fun.binds {x qual : Str} {st : Stmt} {f : Addr} {fd : FuncData} {ps : List Str} (F : Fun K x qual st f fd)
    (h : ∀ (kV doc pm : Value) (an : Option Addr) (cdv ct : Value) (us : List Value), us.length = ps.length → bindArgs (PySem.W.fnOf x qual (defArgs st) (defBody st) (defScope st) .none kV doc pm an cdv ct) ⟨us, []⟩ = pure (ps.zip us)) : Binds K fd ps [] := by
  obtain ⟨oc, od, kV, doc, pm, an, cdv, ct, osl, rfl, lk, hcd⟩ := F.ex
  exact .all (h kV doc pm an cdv ct)
theorem fun_mk {x qual : Str} {st : Stmt} {f : Addr} {oc : Value} {od an : Option Addr} {osl : Array (Option Value)} {kV doc pm cdv ct : Value} (l : K.lookup f = some ⟨oc, od, .func (PySem.W.fnOf x qual (defArgs st) (defBody st) (defScope st) .none kV doc pm an cdv ct), osl⟩)
    (c : PySem.W.codeIn K cdv qual = true) (k : PySem.W.keepIn K (.ref f) = true) : Fun K x qual st f (PySem.W.fnOf x qual (defArgs st) (defBody st) (defScope st) .none kV doc pm an cdv ct) := ⟨⟨oc, od, kV, doc, pm, an, cdv, ct, osl, rfl, l, c⟩, k⟩
end
theorem hu_of {A : Around} {k : Nat} (hr : Room k A) : A.units + 1 < cLine := Nat.lt_of_le_of_lt (Nat.add_le_add_left (by decide : 1 ≤ 64) _) hr.units
theorem small1000 {n : Nat} (h : n ≤ 1000) : n < sizeLine := Nat.lt_of_le_of_lt h (by decide)
section
variable {X : Cx}
theorem pv (i : Nat) {x : Str} {pos : Pos} (hN : X.N[i]? = some x := by rfl) (hv : Vis X.env.scope x := by first | exact Or.inl rfl | exact Or.inr (Or.inl rfl) | exact Or.inr (Or.inr rfl)) (hd : (x == ("__debug__" : Str)) = false := by decide)
    (hcd : (x == ("__classdict__" : Str)) = false := by decide) : PE X (.Name x pos) (tVar i) := pe_var hN hv hd hcd
end
theorem iteF {A B : Prop} (h : B) : if false = true then A else B := by
  rw [if_neg Bool.false_ne_true]
  exact h
theorem iteT {A B : Prop} (h : A) : if true = true then A else B := by
  rw [if_pos rfl]
  exact h
theorem ite2 {c A B : Prop} [Decidable c] (h1 : c → A) (h2 : ¬ c → B) : if c then A else B := by
  by_cases h : c
  · rw [if_pos h]
    exact h1 h
  · rw [if_neg h]
    exact h2 h
def Same (H H' : Hp) : Prop := ∀ b o, H b = some o → H' b = some o
theorem Same.refl (H : Hp) : Same H H := fun _ _ h => h
theorem Same.trans {H H1 H2 : Hp} (a : Same H H1) (b : Same H1 H2) : Same H H2 := fun c o h => b c o (a c o h)
theorem Same.free {H H' : Hp} (e : Same H H') {l : Addr} (h : H' l = Option.none) : H l = Option.none := by
  cases q : H l with
  | none => rfl
  | some o =>
    rw [e l o q] at h
    cases h
theorem Same.seq {K : PySem.W.Frag} {H H' : Hp} {a : Addr} {xs : List V} (e : Same H H') (h : SqL K H a xs) : SqL K H' a xs := by
  rcases h with (h | ⟨o, h⟩) | h
  · exact .inl (.inl (e _ _ h))
  · exact .inl (.inr ⟨o, e _ _ h⟩)
  · exact .inr h
section
variable {X : Cx}
end
section
variable {κ : Type} [DecidableEq κ]
theorem nd_snoc : ∀ {l : List κ} {k : κ}, l.Nodup → ¬ k ∈ l → (l ++ [k]).Nodup
  | [], k, _, _ => by simp
  | a :: r, k, h, hk => by
    obtain ⟨h1, h2⟩ := List.nodup_cons.mp h
    show (a :: (r ++ [k])).Nodup
    refine List.nodup_cons.mpr ⟨fun m => ?_, nd_snoc h2 fun m => hk (List.mem_cons.mpr (Or.inr m))⟩
    rcases List.mem_append.mp m with q | q
    · exact h1 q
    · exact hk (List.mem_cons.mpr (Or.inl (List.mem_singleton.mp q).symm))
end
end L2
namespace L2
open PySem PySem.Spec PyProof.Rows
theorem lookup_cons_or {β : Type} {x n : Str} {b c : β} {l : List (Str × β)} (h : ((n, b) :: l).lookup x = some c) : (x = n ∧ b = c) ∨ l.lookup x = some c := by
  rw [List.lookup_cons] at h
  cases e : x == n with
  | true =>
    rw [e] at h
    exact .inl ⟨eq_of_beq e, Option.some.inj h⟩
  | false =>
    rw [e] at h
    exact .inr h
theorem lookup_cons_some {β : Type} {x n : Str} {b : β} {l : List (Str × β)} (h : x = n ∨ ∃ c, l.lookup x = some c) : ∃ c, ((n, b) :: l).lookup x = some c := by
  rw [List.lookup_cons]
  cases e : x == n with
  | true => exact ⟨b, rfl⟩
  | false =>
    rcases h with h | h
    · subst h
      simp at e
    · exact h
theorem closFor_go {env : Env} : ∀ (names : List (Str × NameKind)) (acc : List (Str × Addr)), (∀ y ∈ names, y.2 = .free → ∃ c, env.cells.lookup y.1 = some c) →
    (∀ x c, acc.lookup x = some c → env.cells.lookup x = some c) →
    ∃ cl, (forIn names acc (fun x r => if (x.2 == NameKind.free) = true then (cellOf env x.1 >>= fun c => pure (ForInStep.yield ((x.1, c) :: r))) else pure (ForInStep.yield r)) : Sem (List (Str × Addr))) = pure cl ∧
      (∀ x c, cl.lookup x = some c → env.cells.lookup x = some c) ∧ (∀ y ∈ names, y.2 = .free → ∃ c, cl.lookup y.1 = some c) ∧ (∀ x c, acc.lookup x = some c → ∃ c', cl.lookup x = some c')
  | [], acc, _, h => ⟨acc, rfl, h, (fun _ z => nomatch z), fun x c e => ⟨c, e⟩⟩
  | (n, k) :: r, acc, hn, h => by
    rw [List.forIn_cons]
    by_cases hk : k = .free
    · subst hk
      obtain ⟨c, hc⟩ := hn (n, .free) List.mem_cons_self rfl
      have e1 : (cellOf env n : Sem Addr) = pure c := by
        have hc' : env.cells.lookup n = some c := hc
        unfold cellOf
        rw [hc']
      obtain ⟨cl, e, h1, h2, h3⟩ := closFor_go r ((n, c) :: acc) (fun y hy => hn y (List.mem_cons_of_mem _ hy)) (fun x c' e => by
        rcases lookup_cons_or e with ⟨e1, e2⟩ | e
        · subst e1; subst e2; exact hc
        · exact h x c' e)
      refine ⟨cl, ?_, h1, ?_, fun x c' e => ?_⟩
      · show ((if ((n, NameKind.free).2 == NameKind.free) = true then (cellOf env n >>= fun c => pure (ForInStep.yield ((n, c) :: acc))) else pure (ForInStep.yield acc)) >>= _) = _
        rw [if_pos (show ((n, NameKind.free).2 == NameKind.free) = true from rfl), e1]
        exact e
      · intro y hy hf
        rcases List.mem_cons.mp hy with rfl | hy
        · exact h3 n c (by simp)
        · exact h2 y hy hf
      · obtain ⟨c2, e2⟩ := lookup_cons_some (n := n) (b := c) (.inr ⟨c', e⟩)
        exact h3 x c2 e2
    · obtain ⟨cl, e, h1, h2, h3⟩ := closFor_go r acc (fun y hy => hn y (List.mem_cons_of_mem _ hy)) h
      refine ⟨cl, ?_, h1, ?_, h3⟩
      · show ((if ((n, k).2 == NameKind.free) = true then (cellOf env n >>= fun c => pure (ForInStep.yield ((n, c) :: acc))) else pure (ForInStep.yield acc)) >>= _) = _
        rw [if_neg (by simpa using hk)]
        exact e
      · intro y hy hf
        rcases List.mem_cons.mp hy with rfl | hy
        · exact absurd hf hk
        · exact h2 y hy hf
theorem closFor {scope : Scope} {env : Env} (h : ∀ y ∈ scope.names, y.2 = .free → ∃ c, env.cells.lookup y.1 = some c) :
    ∃ cl, closureFor scope env = pure cl ∧ (∀ x c, cl.lookup x = some c → env.cells.lookup x = some c) ∧ (∀ y ∈ scope.names, y.2 = .free → ∃ c, cl.lookup y.1 = some c) := by
  obtain ⟨cl, e, h1, h2, _⟩ := closFor_go scope.names [] h (fun x c e => by simp at e)
  refine ⟨cl, ?_, h1, h2⟩
  unfold closureFor
  show ((forIn scope.names [] (fun x r => if (x.2 == NameKind.free) = true then (cellOf env x.1 >>= fun c => pure (ForInStep.yield ((x.1, c) :: r))) else pure (ForInStep.yield r)) : Sem (List (Str × Addr))) >>= fun r => pure r) = _
  rw [e]
  rfl
def relK (env : Env) (x : Str) (k : NameKind) : NameKind := if (k == .free && env.scope.kind == .function && env.kindOf x == some .cell) = true then .cell else k
theorem lookup_relabel {env : Env} {x : Str} : ∀ (names : List (Str × NameKind)),
    (names.map fun (n, k) => if (k == NameKind.free && env.scope.kind == .function && env.kindOf n == some .cell) = true then (n, NameKind.cell) else (n, k)).lookup x = (names.lookup x).map (relK env x)
  | [] => rfl
  | (n, k) :: r => by
    have ih := lookup_relabel (env := env) (x := x) r
    have e : (if (k == NameKind.free && env.scope.kind == .function && env.kindOf n == some .cell) = true then (n, NameKind.cell) else (n, k)) = (n, relK env n k) := by
      unfold relK
      split <;> rfl
    show List.lookup x ((if (k == NameKind.free && env.scope.kind == .function && env.kindOf n == some .cell) = true then (n, NameKind.cell) else (n, k)) :: _) = _
    rw [e, List.lookup_cons, List.lookup_cons]
    cases hx : x == n with
    | true =>
      have := eq_of_beq hx
      subst this
      rfl
    | false => exact ih
theorem kindOf_comp {scope : Scope} {cl : List (Str × Addr)} {C : Addr} {env : Env} {x : Str} : (compEnvC scope cl C env).kindOf x = (scope.names.lookup x).map (relK env x) := lookup_relabel (env := env) (x := x) scope.names
theorem relK_free {env : Env} {x : Str} : relK env x .free = .cell ∨ relK env x .free = .free := by
  unfold relK
  split
  · exact .inl rfl
  · exact .inr rfl
theorem relK_of {env : Env} {x : Str} {k : NameKind} (h : relK env x k = .cell ∨ relK env x k = .free) : k = .cell ∨ k = .free := by
  unfold relK at h
  split at h
  · rename_i z
    simp only [Bool.and_eq_true, beq_iff_eq] at z
    exact .inr z.1.1
  · exact h
def capt (caps : List (Option Nat)) (σ : St) : St := caps.map fun o => match o with
  | none => none
  | some j => (σ[j]?).join
def compOk (oN : List Str) (osc : Scope) (N : List Str) (caps : List (Option Nat)) (sc : Scope) : Bool :=
  (sc.kind == .function) && decide N.Nodup && (N.length == caps.length) && sc.names.all (fun y => !(y.2 == .cell)) &&
  sc.names.all (fun y => !(y.2 == .local) || sc.names.lookup y.1 == some .local) &&
  sc.names.all (fun y => !(y.2 == .free) || (osc.names.lookup y.1 == some .cell || osc.names.lookup y.1 == some .free)) &&
  (N.zip caps).all (fun p => match p.2 with
    | none => true
    | some j => oN[j]? == some p.1 && sc.names.lookup p.1 == some .free)
structure CompOk (oN : List Str) (osc : Scope) (N : List Str) (caps : List (Option Nat)) (sc : Scope) : Prop where
  kind : sc.kind = .function
  nd : N.Nodup
  len : N.length = caps.length
  nocell : ∀ y ∈ sc.names, y.2 ≠ .cell
  loc : ∀ y ∈ sc.names, y.2 = .local → sc.names.lookup y.1 = some .local
  fr : ∀ y ∈ sc.names, y.2 = .free → osc.names.lookup y.1 = some .cell ∨ osc.names.lookup y.1 = some .free
  cap : ∀ (i j : Nat) (x : Str), N[i]? = some x → caps[i]? = some (some j) → oN[j]? = some x ∧ sc.names.lookup x = some .free
theorem compOk_of {oN : List Str} {osc : Scope} {N : List Str} {caps : List (Option Nat)} {sc : Scope} (h : compOk oN osc N caps sc = true) : CompOk oN osc N caps sc := by
  unfold compOk at h
  simp only [Bool.and_eq_true, List.all_eq_true, decide_eq_true_eq, beq_iff_eq, Bool.or_eq_true, Bool.not_eq_true', beq_eq_false_iff_ne, ne_eq] at h
  obtain ⟨⟨⟨⟨⟨⟨h1, h2⟩, h3⟩, h4⟩, h5⟩, h6⟩, h7⟩ := h
  refine ⟨h1, h2, h3, h4, fun y hy e => ?_, fun y hy e => ?_, fun i j x hi hj => ?_⟩
  · rcases h5 y hy with z | z
    · exact absurd e z
    · exact z
  · rcases h6 y hy with z | z
    · exact absurd e z
    · exact z
  · have hm : (x, some j) ∈ N.zip caps := by
      refine List.mem_of_getElem? (i := i) ?_
      rw [List.getElem?_zip_eq_some]
      exact ⟨hi, hj⟩
    have := h7 _ hm
    simpa using this
def cxComp (X : Cx) (N : List Str) (scope : Scope) (cl : List (Str × Addr)) (C : Addr) (fp : List Addr) (s : Shared) (H : Hp) : Cx :=
  { X with N := N, s₀ := s, H₀ := H, env := compEnvC scope cl C X.env, outer := X.stack, ex := fp, fn := fun _ => false, pn := [], xe := fun _ _ => False }
section
variable {X : Cx} {pins : List (Addr × Obj)} {σ : St} {H : Hp} {s : Shared} {N : List Str} {caps : List (Option Nat)} {scope : Scope} {cl : List (Str × Addr)} {fp : List Addr}
theorem inv_comp (I : Inv X pins σ H s) (hf : ∀ b ∈ fp, FpOk X pins H b) (ho : ∀ b ∈ fp, ∃ o, s.heap.get? b = some o) (S : CompOk X.N X.env.scope N caps scope)
    (c1 : ∀ x c, cl.lookup x = some c → X.env.cells.lookup x = some c) (c2 : ∀ y ∈ scope.names, y.2 = .free → ∃ c, cl.lookup y.1 = some c)
    {h' : Heap} {m : Str → Option Value} {tk : Nat} (hn : h'.Ns s.heap.objs.size m) (hk : ∀ b u, s.heap.get? b = some u → h'.get? b = some u) :
    Inv (cxComp X N scope cl s.heap.objs.size fp s H) [] (capt caps σ) H { s with heap := h', toks := tk } := by
  have noS : ∀ b ∈ fp, b ∉ frs X.stack := fun b hb z => by
    obtain ⟨_, f1, f2, _⟩ := hf b hb
    rcases List.mem_cons.mp (I.stkSub b z) with e | e
    · exact f1 e
    · exact f2 e
  have frOf : ∀ x, scope.names.lookup x = some .free → ∃ c, cl.lookup x = some c := fun x e => c2 (x, .free) (PySem.mem_of_lookup e) rfl
  refine ⟨⟨I.ok.mod, S.kind, I.ok.glob, I.ok.blt, Nat.le_refl _, fun x y c e1 e2 => I.ok.inj x y c (c1 x c e1) (c1 y c e2), fun x hx => ?_, fun x c z _ => absurd (show false = true from z) (by decide), I.ok.hd, I.ok.frames, .inl rfl,
    fun b hb => ⟨?_, fun x c e => (hf b hb).2.2.2.2.1 x c (c1 x c e)⟩, I.bs, Nat.le_trans I.ok.bsz I.sz, fun b o e hb => ?_, noS, I.stack, I.stkFree⟩,
    rfl, I.bare, Un.kept hk, ⟨m, hn, fun i x v e1 e2 e3 => ?_⟩, fun x c e => ?_, I.hok.fresh (Nat.le_refl _), fun x c e => I.freeC x c (c1 x c e), fun p hp => absurd (show p ∈ ([] : List (Addr × Obj)) from hp) (by simp), I.hok.kept hk, ?_⟩
  · have hx' : (scope.names.lookup x).map (relK X.env x) = some .cell ∨ (scope.names.lookup x).map (relK X.env x) = some .free := by
      rw [← kindOf_comp (cl := cl) (C := s.heap.objs.size)]
      exact hx
    cases e : scope.names.lookup x with
    | none =>
      rw [e] at hx'
      rcases hx' with z | z <;> cases z
    | some k =>
      rw [e] at hx'
      have z : relK X.env x k = .cell ∨ relK X.env x k = .free := by
        rcases hx' with z | z
        · exact .inl (Option.some.inj z)
        · exact .inr (Option.some.inj z)
      rcases relK_of z with z | z
      · subst z
        exact absurd rfl (S.nocell _ (PySem.mem_of_lookup e))
      · subst z
        exact frOf x e
  · obtain ⟨o, e⟩ := ho b hb
    exact Nat.ne_of_lt (Heap.lt_size e)
  · obtain ⟨_, _, _, f3, _⟩ := hf b hb
    rcases f3 with z | z
    · exact I.ok.noex b o e z
    · exact absurd (Nat.lt_of_lt_of_le (Heap.lt_size e) (Nat.le_trans I.ok.bsz z)) (Nat.lt_irrefl _)
  · have hi : i < caps.length := by
      unfold capt at e2
      obtain ⟨h1, _⟩ := List.getElem?_eq_some_iff.mp e2
      simpa using h1
    have ec : (capt caps σ)[i]? = (caps[i]?).map fun o => match o with
        | none => none
        | some j => (σ[j]?).join := by
      unfold capt
      rw [List.getElem?_map]
    rw [e2] at ec
    cases q : caps[i]? with
    | none =>
      rw [q] at ec
      cases ec
    | some o =>
      rw [q] at ec
      cases o with
      | none =>
        cases (Option.some.inj ec)
      | some j =>
        have ej : σ[j]? = some (some v) := by
          have z : some v = (σ[j]?).join := Option.some.inj ec
          cases q2 : σ[j]? with
          | none => rw [q2] at z; cases z
          | some w => rw [q2] at z; exact congrArg some z.symm
        obtain ⟨n1, n2⟩ := S.cap i j x e1 q
        have vis : X.env.kindOf x = some .cell ∨ X.env.kindOf x = some .free := S.fr (x, .free) (PySem.mem_of_lookup n2) rfl
        obtain ⟨m0, _, hl⟩ := I.loc
        obtain ⟨u, r, l⟩ := hl j x v n1 ej (.inr vis)
        refine ⟨u, r, ?_⟩
        rcases l with ⟨k, _⟩ | ⟨_, c, ec, z⟩
        · rw [k] at vis
          rcases vis with z | z <;> cases z
        · obtain ⟨c', e'⟩ := frOf x n2
          have : c' = c := Option.some.inj ((c1 x c' e').symm.trans ec)
          subst this
          refine .inr ⟨?_, c', e', ?_⟩
          · have kk : (compEnvC scope cl s.heap.objs.size X.env).kindOf x = some (relK X.env x .free) := by rw [kindOf_comp, n2]; rfl
            rcases relK_free (env := X.env) (x := x) with z | z
            · rw [z] at kk; exact .inl kk
            · rw [z] at kk; exact .inr kk
          · obtain ⟨o, ho1, ho2⟩ := z
            exact ⟨o, hk _ _ ho1, ho2⟩
  · obtain ⟨v, o, ho1, ho2⟩ := I.cell x c (c1 x c e)
    exact ⟨v, o, hk _ _ ho1, ho2⟩
  · show (capt caps σ).length = N.length
    unfold capt
    rw [List.length_map]
    exact S.len.symm
end
end L2
namespace L2
open PySem PySem.Spec PyProof.Rows
def PF (X : Cx) (ifs : List Expr) (t : TT) : Prop :=
  ∀ (pins : List (Addr × Obj)) (s : Shared) (σ : St) (H : Hp) (Q : Bool → Hp → Prop), Inv X pins σ H s → t σ H Q →
    wpAny (model X.prog X.w) X.A (forIn ifs true fun c r => if r = true then do let ok ← isTrue c X.env (eval c X.env); pure (ForInStep.yield ok) else pure (ForInStep.yield r)) (TP X pins σ Q) X.xe s
def tYes : TT := fun _ H Q => Q true H
section
variable {X : Cx}
theorem pf_nil : PF X [] tYes := fun _ _ _ H _ I h => wpAny_pure ⟨H, I, h⟩
end
theorem compLoop_any {prog : Program} {w : World} {A : Around} {R : Result → Shared → Prop} {s : Shared} {elt target iter : Expr} {ifs : List Expr} {scope : Scope} {pos : Pos} {it acc : Value} {env : Env} (I : Nat → Shared → Prop)
    (turn : ∀ n s, I n s → wpAny (model prog w) A (pyNext it) (fun r s₁ => match r with
      | none => R (.ok .next) s₁
      | some v => wpAny (model prog w) A (letOwnedTupleGo target it v) (fun _ s₁' => wpAny (model prog w) A (assign target env v) (fun _ s₂ =>
          wpAny (model prog w) A (forIn ifs true fun c r => if r = true then do let ok ← isTrue c env (eval c env); pure (ForInStep.yield ok) else pure (ForInStep.yield r)) (fun ok s₃ =>
            if ok = true then wpAny (model prog w) A (eval elt env) (fun x s₄ =>
              wpAny (model prog w) A (call (.builtin "list.append") [acc, x]) (fun _ s₅ => ∃ m, m < n ∧ I m s₅) (fun _ _ => False) s₄) (fun _ _ => False) s₃
            else ∃ m, m < n ∧ I m s₃) (fun _ _ => False) s₂) (fun _ _ => False) s₁') (fun _ _ => False) s₁) (fun _ _ => False) s)
    (n : Nat) (h : I n s) :
    codeAny (model prog w) A (.compLoop (.ListComp elt [⟨target, iter, ifs, 0⟩] scope pos) 0 it acc env) R s := by
  refine codeAny_loop rfl I (fun n s hI => ?_) n h
  show wpAny _ A ((compTurn (.ListComp elt [⟨target, iter, ifs, 0⟩] scope pos) 0 it acc env).onRaise (fun x => do noteFrame x env; theTreesLotGoes x)) _ _ s
  refine wpAny_noted ?_
  rw [compTurn_list]
  refine wpAny_bind (wpAny_standAt (wpAny_bind (wpAny_mono (turn n s hI) (fun r s₁ h₁ => ?_) fun _ _ z => False.elim z)))
  cases r with
  | none => exact wpAny_pure h₁
  | some v =>
    refine wpAny_bind (wpAny_mono h₁ (fun _ s₁' h₁' => ?_) fun _ _ z => False.elim z)
    refine wpAny_bind (wpAny_mono h₁' (fun _ s₂ h₂ => wpAny_bind (wpAny_mono h₂ (fun ok s₃ h₃ => ?_) fun _ _ z => False.elim z)) fun _ _ z => False.elim z)
    cases ok with
    | false => exact wpAny_pure ⟨rfl, h₃⟩
    | true =>
      exact wpAny_bind (wpAny_bind (wpAny_mono h₃ (fun x s₄ h₄ => wpAny_bind (wpAny_mono h₄ (fun _ s₅ h₅ => wpAny_pure (wpAny_pure ⟨rfl, h₅⟩)) fun _ _ z => False.elim z)) fun _ _ z => False.elim z))
def CompW (J : It) (g : TG) (tf : TT) (te : TE) (D : Addr) (QE : Hp → Prop) (W : Nat → Nat → St → Hp → Prop) : Prop := ∀ i m σ H, W i m σ H →
  (J.stop i H ∧ QE H) ∨ (J.go i H ∧ ∃ N : St → Hp → Prop, (∀ σ' H', N σ' H' → ∃ m', m' < m ∧ W (i + 1) m' σ' H') ∧ ∀ x H', J.yld i H x H' → g x σ H' fun σ2 H2 => tf σ2 H2 fun b H3 =>
    if b = true then te σ2 H3 fun v H4 => ∃ xs, H4 D = some (.lst xs) ∧ xs.length < sizeLine ∧ N σ2 (upd H4 D (.lst (xs ++ [v]))) else N σ2 H3)
def tComp (caps : List (Option Nat)) (wi : TI) (g : TG) (tf : TT) (te : TE) : TE := fun σ H Q => wi σ H fun J H1 => ∀ D, H1 D = none →
  ∃ W : Nat → Nat → St → Hp → Prop, (∃ m, W 0 m (capt caps σ) (upd H1 D (.lst []))) ∧ CompW J g tf te D (fun H' => Q (.ref D) H') W
section
variable {X : Cx} {pins : List (Addr × Obj)} {σ : St} {H : Hp} {s : Shared} {N : List Str} {caps : List (Option Nat)} {scope : Scope} {elt tg iter : Expr} {ifs : List Expr} {wi : TI} {g : TG} {tf : TT} {te : TE} {pos : Pos}
theorem comp_core {RR : Value → Addr → Result → Shared → Prop} {cl : List (Str × Addr)} {Q : VK} (hc : X.calm = true) (S : CompOk X.N X.env.scope N caps scope) (hi : PI X tg iter wi)
    (hg : ∀ cl C fp s H, PG (cxComp X N scope cl C fp s H) tg g) (hf : ∀ cl C fp s H, PF (cxComp X N scope cl C fp s H) ifs tf) (he : ∀ cl C fp s H, PE (cxComp X N scope cl C fp s H) elt te)
    (c1 : ∀ x c, cl.lookup x = some c → X.env.cells.lookup x = some c) (c2 : ∀ y ∈ scope.names, y.2 = .free → ∃ c, cl.lookup y.1 = some c)
    (I : Inv X pins σ H s) (h : tComp caps wi g tf te σ H Q)
    (fin : ∀ (D C : Addr) (m : Str → Option Value) (H5 : Hp) (s5 : Shared), Inv X pins σ H5 s5 → s5.heap.Ns C m → FpOk X pins H5 C → Q (.ref D) H5 → RR (.ref D) C (.ok .next) s5) :
    wpAny (model X.prog X.w) X.A (eval iter X.env) (fun x s₁ => wpAny (model X.prog X.w) X.A (pyIter x) (fun it s₂ => wpAny (model X.prog X.w) X.A (newList []) (fun acc s₃ =>
      wpAny (model X.prog X.w) X.A (newFunctionEnv scope X.env.globals cl [] X.env.qual none .none (some X.env)) (fun cenv s₄ =>
        codeAny (model X.prog X.w) X.A (.compStart (.ListComp elt [⟨tg, iter, ifs, 0⟩] scope pos) 0 it acc { cenv with scope := relabel scope X.env }) (RR acc cenv.locals) s₄) X.xe s₃) X.xe s₂) X.xe s₁) X.xe s := by
  refine thn (hi pins s σ H _ I h) fun v s1 h1 => thn h1 fun itv s2 h2 => ?_
  obtain ⟨it, fp, tn, J, H2, e, I2, T, st2, f2, q⟩ := h2
  subst e
  have nD : H2 s2.heap.objs.size = none := I2.hok.fresh (Nat.le_refl _)
  obtain ⟨W, ⟨m0, w0⟩, turn⟩ := q s2.heap.objs.size nD
  refine wpAny_newObj_type ?_
  have I3 : Inv X pins σ (upd H2 s2.heap.objs.size (.lst [])) { s2 with heap := s2.heap.push { cls := .type "list", data := .seq ([] : List Value).toArray } } :=
    I2.laid (t' := s2.toks) (o := .lst []) (fun b ob e => Heap.get?_push_of_some _ e) (Nat.le_refl _) ⟨Nat.zero_le _, [], 0, .nil, Heap.get?_push_size _ rfl⟩
  have ob2 : ∀ b ∈ fp, ∃ o, s2.heap.get? b = some o := fun b hb => let ⟨o, e, _⟩ := T.obj 0 s2.heap st2 b hb; ⟨o, e⟩
  have nfD : ∀ b ∈ fp, b ≠ s2.heap.objs.size := fun b hb => let ⟨o, e⟩ := ob2 b hb; Nat.ne_of_lt (Heap.lt_size e)
  generalize hs3 : ({ s2 with heap := s2.heap.push { cls := .type "list", data := .seq ([] : List Value).toArray } } : Shared) = s3 at I3
  have eh : s3.heap = s2.heap.push { cls := .type "list", data := .seq ([] : List Value).toArray } := by rw [← hs3]
  generalize hD : s2.heap.objs.size = D at *
  generalize hH3 : upd H2 D (.lst []) = H3 at I3 w0
  have f3 : ∀ b ∈ fp, FpOk X pins H3 b := fun b hb => ⟨by rw [← hH3, upd_ne (nfD b hb)]; exact (f2 b hb).1, (f2 b hb).2⟩
  have ob3 : ∀ b ∈ fp, ∃ o, s3.heap.get? b = some o := fun b hb => let ⟨o, e⟩ := ob2 b hb; ⟨o, by rw [eh]; exact Heap.get?_push_of_some _ e⟩
  have st3 : tn 0 s3.heap := T.keep 0 _ _ st2 fun b hb o e => by rw [eh]; exact Heap.get?_push_of_some _ e
  show wpAny (model X.prog X.w) X.A (newFunctionEnv scope X.env.globals cl [] X.env.qual none .none (some X.env)) _ X.xe s3
  refine wpAny_newFunctionEnv S.nocell (by intro y hy; simp at hy) (fun h₁ hns₁ hsb₁ => ?_) S.kind
  have k1 : ∀ b u, s3.heap.get? b = some u → h₁.get? b = some u := fun b u e => hsb₁.extBut b u (Nat.ne_of_lt (Heap.lt_size e)) (Heap.get?_push_of_some _ e)
  have J0 := inv_comp (tk := s3.toks + ([] : List (Str × Value)).length) I3 f3 ob3 S c1 c2 hns₁ k1
  generalize hC : s3.heap.objs.size = C at *
  generalize hX' : cxComp X N scope cl C fp s3 H3 = X' at J0
  have st4 : tn 0 h₁ := T.keep 0 _ _ st3 fun b hb o e => k1 b o e
  have stat : ∀ {H' : Hp}, (∀ b ∈ fp, H' b = none) → ∀ b ∈ fp, FpOk X' [] H' b := fun {H'} hn b hb => by
    subst hX'
    exact ⟨hn b hb, (J0.ok.exf b hb).1, J0.ok.exfs b hb, .inl hb, (J0.ok.exf b hb).2, fun p hp => absurd (show p ∈ ([] : List (Addr × Obj)) from hp) (by simp)⟩
  have loop : ∀ s4 : Shared, s4 = { s3 with heap := h₁, toks := s3.toks + ([] : List (Str × Value)).length } →
      codeAny (model X.prog X.w) X.A (.compLoop (.ListComp elt [⟨tg, iter, ifs, 0⟩] scope pos) 0 (.ref it) (.ref D) (compEnvC scope cl C X.env)) (RR (.ref D) C) s4 := by
    rintro s4 rfl
    refine compLoop_any (fun n s' => ∃ i σ' H', Inv X' [] σ' H' s' ∧ tn i s'.heap ∧ (∀ b ∈ fp, H' b = none) ∧ W i n σ' H') ?_ m0 ⟨0, _, H3, J0, st4, fun b hb => (f3 b hb).1, w0⟩
    rintro n s4 ⟨i, σ4, H4, J4, st4, fr4, w4⟩
    rcases turn i n σ4 H4 w4 with ⟨stop, qn⟩ | ⟨go, Nn, hNn, step⟩
    · have d := T.done X' (by subst hX'; rfl) (by subst hX'; rfl) (by subst hX'; rfl) (by subst hX'; exact hc) i [] s4 σ4 H4 (fun _ _ => False) J4 (stat fr4) st4 stop
      have eA : X'.A = X.A := by subst hX'; rfl
      rw [eA] at d
      refine wpAny_mono d (fun r s5 hr => ?_) fun _ _ z => z
      obtain ⟨hr, J5⟩ := hr
      subst hr
      have I5 : Inv X pins σ H4 s5 := by
        subst hX'
        exact I3.call' J5.os J5.base J5.hok J5.bare fun b hb => ⟨(f3 b hb).2.2.2.1, (f3 b hb).2.1, (f3 b hb).2.2.2.2.1, (f3 b hb).2.2.2.2.2⟩
      obtain ⟨m, hn, _⟩ := J5.loc
      have fr := J5.free
      subst hX'
      exact fin D C m H4 s5 I5 hn (I3.fpOk (b := C) (Nat.le_of_eq hC) fr) qn
    · have d := T.item X' (by subst hX'; rfl) (by subst hX'; rfl) (by subst hX'; rfl) (by subst hX'; exact hc) i [] s4 σ4 H4 (fun _ _ => False) J4 (stat fr4) st4 go
      have eA : X'.A = X.A := by subst hX'; rfl
      rw [eA] at d
      refine wpAny_mono d (fun r s5 hr => ?_) fun _ _ z => z
      obtain ⟨u, hr, h5⟩ := hr
      subst hr
      refine wpAny_mono h5 (fun _ s6 q6 => ?_) fun _ _ z => z
      obtain ⟨x, H6, J6, r6, y6, st6, fr6⟩ := q6
      have J6' := J6.pinned (stat fr6) (T.obj _ _ st6)
      have again : ∀ {H9 : Hp} {s9 : Shared} {σ9 : St}, Inv X' ([] ++ pinsAt fp s6.heap) σ9 H9 s9 → Nn σ9 H9 → ∃ m, m < n ∧ ∃ i σ' H', Inv X' [] σ' H' s9 ∧ tn i s9.heap ∧ (∀ b ∈ fp, H' b = none) ∧ W i m σ' H' := fun {H9 s9 σ9} J9 q9 => by
        obtain ⟨m', hm, w9⟩ := hNn σ9 H9 q9
        refine ⟨m', hm, i + 1, σ9, H9, J9.unpinned, T.keep _ _ _ st6 fun b hb o e => (J9.pin (b, o) (List.mem_append_right _ (List.mem_append_right _ (mem_pinsAt hb e)))).1, fun b hb => ?_, w9⟩
        obtain ⟨o, e, d⟩ := T.obj _ _ st6 b hb
        exact (J9.pin (b, o) (List.mem_append_right _ (List.mem_append_right _ (mem_pinsAt hb e)))).2.1
      subst hX'
      refine wpAny_mono (hg cl C fp s3 H3 _ s6 σ4 H6 x u _ J6' r6 (step x H6 y6)) (fun _ s7 q7 => ?_) fun _ _ z => z
      obtain ⟨σ7, H7, J7, q7⟩ := q7
      refine wpAny_mono (hf cl C fp s3 H3 _ s7 σ7 H7 _ J7 q7) (fun ok s8 q8 => ?_) fun _ _ z => z
      obtain ⟨H8, J8, q8⟩ := q8
      cases ok with
      | false =>
        rw [if_neg (by decide)] at q8
        rw [if_neg (by decide)]
        exact again J8 q8
      | true =>
        rw [if_pos rfl] at q8
        rw [if_pos rfl]
        refine wpAny_mono (he cl C fp s3 H3 _ s8 σ7 H8 _ J8 q8) (fun v9 s9 q9 => ?_) fun _ _ z => z
        obtain ⟨y, H9, J9, r9, xs, hD9, hz, q9⟩ := q9
        refine wpAny_mono (mt_append (X := cxComp X N scope cl C fp s3 H3) _ s9 σ7 H9 (.ref D) [y] (.ref D) [v9] (fun _ H' => Nn σ7 H') J9 rfl (.cons r9 .nil) ⟨D, xs, y, rfl, rfl, hD9, hz, q9⟩) (fun _ s10 q10 => ?_) fun _ _ z => z
        obtain ⟨_, H10, J10, _, q10⟩ := q10
        exact again J10 q10
  exact codeAny_compStart_list (loop _ rfl) (T.self _ 0 _ _ _ st4 (loop _ rfl))
theorem pe_comp (hc : X.calm = true) (ho : compOk X.N X.env.scope N caps scope = true) (hi : PI X tg iter wi)
    (hg : ∀ cl C fp s H, PG (cxComp X N scope cl C fp s H) tg g) (hf : ∀ cl C fp s H, PF (cxComp X N scope cl C fp s H) ifs tf) (he : ∀ cl C fp s H, PE (cxComp X N scope cl C fp s H) elt te)
    (hs : ∀ x, foldedSetIterable iter X.env x = pure x := by intro _; rfl) : PE X (.ListComp elt [⟨tg, iter, ifs, 0⟩] scope pos) (tComp caps wi g tf te) := by
  intro pins s σ H Q I h
  have S := compOk_of ho
  obtain ⟨cl, hcl, c1, c2⟩ := closFor (scope := scope) (env := X.env) (fun y hy e => I.ok.has y.1 (S.fr y hy e))
  rw [eval_ListComp]
  refine wpAny_comprehension_free (use := none) rfl hs hcl S.kind S.loc (comp_core (RR := fun acc C => compPost (model X.prog X.w) X.A X.xe none (EP X pins σ Q) acc C) hc S hi hg hf he c1 c2 I h ?_)
  intro D C m H5 s5 I5 hn fC q
  exact ⟨m, hn, fun h' sb => ⟨.ref D, H5, I5.turned (t' := s5.toks) (fun b o hb e => (sb.2 b hb).trans e) fC.1 fC.2.1 fC.2.2.2.1 fC.2.2.2.2.1 fC.2.2.2.2.2, rfl, q⟩⟩
theorem ps_setComp {i : Nat} {x : Str} {px spos : Pos} (hN : X.N.Nodup) (hix : X.N[i]? = some x) (hx : X.env.scope.names.lookup x = some .local) (hc : X.calm = true) (ho : compOk X.N X.env.scope N caps scope = true) (hi : PI X tg iter wi)
    (hg : ∀ cl C fp s H, PG (cxComp X N scope cl C fp s H) tg g) (hf : ∀ cl C fp s H, PF (cxComp X N scope cl C fp s H) ifs tf) (he : ∀ cl C fp s H, PE (cxComp X N scope cl C fp s H) elt te)
    (hsw : swapsWith (.ListComp elt [⟨tg, iter, ifs, 0⟩] scope pos) (some (.Name x px)) spos.line X.env = pure true := by rfl)
    (hs : ∀ x, foldedSetIterable iter X.env x = pure x := by intro _; rfl) : PS X (.Assign [.Name x px] (.ListComp elt [⟨tg, iter, ifs, 0⟩] scope pos) spos) (tAsg (tComp caps wi g tf te) (gName i)) := by
  intro pins s σ H D I h
  have S := compOk_of ho
  obtain ⟨cl, hcl, c1, c2⟩ := closFor (scope := scope) (env := X.env) (fun y hy e => I.ok.has y.1 (S.fr y hy e))
  rw [exec_Assign_Name_used _ _ _ _ hsw]
  refine wpAny_bind (wpAny_standAt (wpAny_bind ?_))
  show wpAny _ X.A (do let _ ← comprehension (.ListComp elt [⟨tg, iter, ifs, 0⟩] scope pos) scope X.env _ (newList []) false (eval iter X.env) (some (assign (.Name x px) X.env))) _ _ s
  refine wpAny_bind (wpAny_mono (wpAny_comprehension_free (use := some (assign (.Name x px) X.env)) (Q := fun _ s' => SP X pins D .next s') rfl hs hcl S.kind S.loc
    (comp_core (RR := fun acc C => compPost (model X.prog X.w) X.A X.xe (some (assign (.Name x px) X.env)) (fun _ s' => SP X pins D .next s') acc C) hc S hi hg hf he c1 c2 I h ?_)) (fun _ s' hq => wpAny_pure (wpAny_pure hq)) fun _ _ e => e)
  intro Da C m H5 s5 I5 hn fC q
  obtain ⟨oC, es, ep, hoC, hd, hrest⟩ := id hn
  have I5' := I5.pinned (fp := [C]) (fun b hb => by
    have e : b = C := by simpa using hb
    subst e; exact fC) (fun b hb => by
    have e : b = C := by simpa using hb
    subst e; exact ⟨oC, hoC, fun v z => by rw [hd] at z; cases z⟩)
  show wpAny _ X.A (assign (.Name x px) X.env (.ref Da)) _ _ _
  refine wpAny_assign_Name (store_ok I5' hN hix (.inl hx) (v := .ref Da) rfl (fun s6 I6 => ?_) (.inr hx))
  have pC := I6.pin (C, oC) (List.mem_append_right _ (List.mem_append_right _ (mem_pinsAt (by simp) hoC)))
  refine ⟨m, ⟨oC, es, ep, pC.1, hd, hrest⟩, fun h' sb => ?_⟩
  exact ⟨_, H5, I6.unpinned.turned (t' := s6.toks) (fun b o hb e => (sb.2 b hb).trans e) fC.1 fC.2.1 fC.2.2.2.1 fC.2.2.2.2.1 fC.2.2.2.2.2, q⟩
end
end L2
namespace L2
open PySem PySem.Spec PyProof.Rows
theorem comp_by {J : It} {g : TG} {tf : TT} {te : TE} {D : Addr} {QE : Hp → Prop} {σ : St} {H : Hp} (n : Nat) (Pv : Nat → St → Hp → Prop) (h0 : Pv 0 σ H) (hgo : ∀ i σ H, i < n → Pv i σ H → J.go i H) (hst : ∀ σ H, Pv n σ H → J.stop n H ∧ QE H)
    (hs : ∀ i σ H, i < n → Pv i σ H → ∀ x H', J.yld i H x H' → g x σ H' fun σ2 H2 => tf σ2 H2 fun b H3 => if b = true then te σ2 H3 fun v H4 => ∃ xs, H4 D = some (.lst xs) ∧ xs.length < sizeLine ∧ Pv (i + 1) σ2 (upd H4 D (.lst (xs ++ [v]))) else Pv (i + 1) σ2 H3) :
    ∃ W : Nat → Nat → St → Hp → Prop, (∃ m, W 0 m σ H) ∧ CompW J g tf te D QE W := by
  refine ⟨fun i m σ H => m = n - i ∧ i ≤ n ∧ Pv i σ H, ⟨n, by simp, Nat.zero_le _, h0⟩, ?_⟩
  rintro i m σ H ⟨rfl, hi, p⟩
  by_cases hlt : i < n
  · exact .inr ⟨hgo i σ H hlt p, Pv (i + 1), fun σ' H' p' => ⟨n - (i + 1), by omega, rfl, hlt, p'⟩, hs i σ H hlt p⟩
  · have e : i = n := by omega
    subst e
    exact .inl (hst σ H p)
def Its (z : Str) : It := ⟨fun i _ => i < z.cps.size, fun i H x H' => H' = H ∧ ∃ c, z.cps[i]? = some c ∧ x = .str ⟨#[c]⟩, fun i _ => i = z.cps.size⟩
theorem go_str {M : Model} {A : Around} {E : Value → Shared → Prop} {s : Shared} {tg : Expr} {it : Addr} {x : Str} {t : Tok} {Q : Unit → Shared → Prop} (hQ : Q () s) : wpAny M A (letOwnedTupleGo tg (.ref it) (.str x t)) Q E s := by
  unfold letOwnedTupleGo
  cases tg <;> exact wpAny_pure hQ
theorem turn_str {P : Program} {w : World} {K : PySem.W.Frag} {tg : Expr} (it : Addr) (z : Str) (t : Tok) (ty : String) (hty : ty = "str_ascii_iterator" ∨ ty = "str_iterator") :
    Turn P w K tg (Its z) [it] it (fun i h => h.IsStrIter it ty z t i) where
  mem := by simp
  obj := fun i h st b hb => by
    have e : b = it := by simpa using hb
    subst e
    obtain ⟨o, e, c, d⟩ := st
    exact ⟨o, e, fun v z => by rw [d] at z; cases z⟩
  keep := fun i h h' st k => let ⟨o, ho, r⟩ := st; ⟨o, k it (by simp) o ho, r⟩
  item := by
    intro X hP hw hK hc i pins s σ H E I hf st hg
    subst hP hw hK
    obtain ⟨f0, f1, f2, f3, f4, f5⟩ := hf it (by simp)
    have W : Walks X.prog X.w X.A it [it] [it] z.cps.size (SignAt z) (fun i h => h.IsStrIter it ty z t i) := by
      rcases hty with rfl | rfl
      · exact Walks.strAscii (I.ok.hd hc) it z t
      · exact Walks.strWide (I.ok.hd hc) it z t
    refine W.item i s _ _ hg st fun v h' tk hv st' kk => ?_
    obtain ⟨c, u, hx, rfl⟩ := hv
    have I1 : Inv X pins σ H { s with heap := h', toks := tk } := I.turned (fun b o hb e => kk b o (by simpa using hb) e) f0 f1 f3 f4 f5
    exact ⟨_, rfl, go_str ⟨.str ⟨#[c]⟩, H, I1, ⟨u, rfl⟩, ⟨rfl, c, hx, rfl⟩, st', fun b hb => (hf b hb).1⟩⟩
  done := by
    intro X hP hw hK hc i pins s σ H E I hf st hg
    subst hP hw hK
    obtain ⟨f0, f1, f2, f3, f4, f5⟩ := hf it (by simp)
    have W : Walks X.prog X.w X.A it [it] [it] z.cps.size (SignAt z) (fun i h => h.IsStrIter it ty z t i) := by
      rcases hty with rfl | rfl
      · exact Walks.strAscii (I.ok.hd hc) it z t
      · exact Walks.strWide (I.ok.hd hc) it z t
    have e : i = z.cps.size := hg
    subst e
    exact W.done s _ _ st fun h' tk kk => ⟨rfl, I.turned (fun b o hb e => kk b o (by simpa using hb) e) f0 f1 f3 f4 f5⟩
  self := fun _ _ _ _ _ st h => by
    rcases hty with rfl | rfl
    · exact wpAny_pyIter_striter_ascii st h
    · exact wpAny_pyIter_striter_wide st h
section
variable {X : Cx} {tg : Expr}
def iStr (tl : TE) : TI := fun σ H R => tl σ H fun x H1 => ∃ z, x = .str z ∧ R (Its z) H1
theorem pi_str {l : Expr} {tl : TE} (hl : PE X l tl) : PI X tg l (iStr tl) := by
  intro pins s σ H R I h
  refine thn (hl pins s σ H _ I h) fun v s1 ⟨x, H1, I1, r1, q1⟩ => ?_
  obtain ⟨z, e, q⟩ := q1
  subst e
  obtain ⟨t, rfl⟩ := r1
  have fin : ∀ ty, (ty = "str_ascii_iterator" ∨ ty = "str_iterator") → PIE X pins σ tg R (.ref s1.heap.objs.size) { s1 with heap := s1.heap.push { cls := .type ty, data := .fields #[.str z t, .int 0 0] } } := fun ty hty => by
    refine ⟨s1.heap.objs.size, [s1.heap.objs.size], _, _, H1, rfl, I1.kept (t' := s1.toks) fun b o e => Heap.get?_push_of_some _ e, turn_str _ z t ty hty, ⟨_, Heap.get?_push_size _ rfl, rfl, rfl⟩, fun b hb => ?_, q⟩
    have e : b = s1.heap.objs.size := by simpa using hb
    subst e
    exact I1.fpOk (Nat.le_refl _) (I1.hok.fresh (Nat.le_refl _))
  cases ha : z.cps.all (· < 128)
  · exact wpAny_pyIter_wide ha (fin _ (.inr rfl))
  · exact wpAny_pyIter_ascii ha (fin _ (.inl rfl))
end
def cutS (z : Str) (lo hi : Option Int) : Str := ⟨((z.cps.toList.drop (HT.sIx z.length 0 lo)).take (HT.sIx z.length z.length hi - HT.sIx z.length 0 lo)).toArray⟩
theorem strSlice_pick (lo hi : Option Int) (n : Nat) : Builtin.Str.strSliceIndices lo hi 1 n = (List.range (HT.sIx n n hi - HT.sIx n 0 lo)).map (HT.sIx n 0 lo + ·) := by
  have h : Builtin.Str.strSliceIndices lo hi 1 n = sliceRange ((HT.sIx n 0 lo : Nat) : Int) ((HT.sIx n n hi : Nat) : Int) 1 := by
    unfold Builtin.Str.strSliceIndices
    simp only [show (1 : Int) > 0 by decide, if_true]
    congr 1
    · cases lo with
      | none => rfl
      | some i =>
        rw [← HT.clip_eq i n 0]
        show max 0 (min (if i < 0 then i + (n : Int) else i) (n : Int)) = _
        split <;> omega
    · cases hi with
      | none => rfl
      | some i =>
        rw [← HT.clip_eq i n n]
        show max 0 (min (if i < 0 then i + (n : Int) else i) (n : Int)) = _
        split <;> omega
  rw [h]
  unfold sliceRange
  simp only [show (1 : Int) > 0 by decide, if_true]
  have e2 : (if ((HT.sIx n 0 lo : Nat) : Int) < ((HT.sIx n n hi : Nat) : Int) then (((HT.sIx n n hi : Nat) : Int) - ((HT.sIx n 0 lo : Nat) : Int) + 1 - 1) / 1 else 0).toNat = HT.sIx n n hi - HT.sIx n 0 lo := by
    split
    · rw [Int.ediv_one]; omega
    · omega
  rw [e2]
  apply List.map_congr_left
  intro k _
  omega
theorem pick_signs (xs : Array Nat) (i k : Nat) : (((List.range k).map (i + ·)).filterMap (xs[·]?)) = (xs.toList.drop i).take k := by
  induction k with
  | zero => simp
  | succ k ih =>
    rw [List.range_succ, List.map_append, List.filterMap_append, ih, List.take_succ]
    congr 1
    simp only [List.map_cons, List.map_nil, List.getElem?_drop, Array.getElem?_toList]
    cases h : xs[i + k]? <;> simp [h]
theorem cutS_length (z : Str) (lo hi : Option Int) : (cutS z lo hi).length ≤ z.length := by
  show ((z.cps.toList.drop _).take _).toArray.size ≤ z.length
  rw [List.size_toArray, List.length_take, List.length_drop]
  have : z.cps.toList.length = z.length := by simp [Str.length]
  omega
section
variable {X : Cx}
def rSlS : V → Option Int → Option Int → Hp → VK → Prop := fun x lo hi H Q => ∃ z, x = .str z ∧ z.length ≤ sizeLine ∧ Q (.str (cutS z lo hi)) H
theorem sl_str : SlR X rSlS := by
  intro pins s σ H x v vl vu lo hi sl Q I rx hs pl pu h
  obtain ⟨z, rfl, hzl, q⟩ := h
  obtain ⟨t, rfl⟩ := rx
  refine ⟨"str", _, F.slot_str_getitem.lookup, typeIs_str s z t, ?_⟩
  obtain ⟨l, rfl, el⟩ : ∃ l : Option (Int × Tok), vl = partValue l ∧ l.map (·.1) = lo := by
    cases pl with
    | none => exact ⟨none, rfl, rfl⟩
    | int i t => exact ⟨some (i, t), rfl, rfl⟩
  obtain ⟨u, rfl, eu⟩ : ∃ u : Option (Int × Tok), vu = partValue u ∧ u.map (·.1) = hi := by
    cases pu with
    | none => exact ⟨none, rfl, rfl⟩
    | int i t => exact ⟨some (i, t), rfl, rfl⟩
  refine wpAny_getItem_str_slice (l := l) (u := u) (st := none) hs rfl ?_
  have ep : slicePicked z l u none = (List.range (HT.sIx z.length z.length hi - HT.sIx z.length 0 lo)).map (HT.sIx z.length 0 lo + ·) := by
    unfold slicePicked
    rw [el, eu]
    exact strSlice_pick lo hi z.length
  have ec : (slicePicked z l u none).filterMap (z.cps[·]?) = (z.cps.toList.drop (HT.sIx z.length 0 lo)).take (HT.sIx z.length z.length hi - HT.sIx z.length 0 lo) := by
    rw [ep, pick_signs]
  unfold sliceMade
  split
  · rename_i hw
    have hlen : (slicePicked z l u none).length = z.length := by simpa using hw
    have e : cutS z lo hi = z := by
      have hl : z.cps.toList.length = z.length := by simp [Str.length]
      rw [ep, List.length_map, List.length_range] at hlen
      have h1 := HT.sIx_le z.length z.length (Nat.le_refl _) hi
      have a0 : HT.sIx z.length 0 lo = 0 ∨ z.length = 0 := by omega
      unfold cutS
      rcases a0 with a0 | a0
      · rw [hlen, a0, List.drop_zero, List.take_of_length_le (by omega)]
      · have z0 : z.cps.toList = [] := List.eq_nil_of_length_eq_zero (by omega)
        rw [z0, List.drop_nil, List.take_nil]
        cases z with
        | mk cps =>
          congr 1
          exact (Array.toList_inj.mp z0).symm
    rw [e] at q
    exact ⟨.str z, H, I, ⟨t, rfl⟩, q⟩
  · have e : (⟨((slicePicked z l u none).filterMap (z.cps[·]?)).toArray⟩ : Str) = cutS z lo hi := by
      unfold cutS
      rw [ec]
    rw [e]
    exact ⟨Nat.le_trans (cutS_length z lo hi) hzl, .str (cutS z lo hi), H, I.tok _, ⟨_, rfl⟩, q⟩
end
end L2
namespace L2
open PySem PySem.Spec PyProof.Rows
theorem all_range (bs : List Bool) : (List.range bs.length).all (fun i => (bs[i]?).getD true) = bs.all id := by
  rw [Bool.eq_iff_iff, List.all_eq_true, List.all_eq_true]
  constructor
  · intro h b hb
    obtain ⟨i, hi, e⟩ := List.mem_iff_getElem.mp hb
    have := h i (List.mem_range.mpr hi)
    rw [List.getElem?_eq_getElem hi, e] at this
    exact this
  · intro h i hi
    have hi' := List.mem_range.mp hi
    rw [List.getElem?_eq_getElem hi']
    exact h _ (List.getElem_mem hi')
theorem vals_bl {bs : List Bool} {us : List Value} (r : Vals (bs.map V.bl) us) {i : Nat} {v : Value} (h : us[i]? = some v) : ∃ b, bs[i]? = some b ∧ v = .bool b := by
  have hl := r.length
  obtain ⟨hi, _⟩ := List.getElem?_eq_some_iff.mp h
  rw [← hl, List.length_map] at hi
  have e : (bs.map V.bl)[i]? = some (V.bl bs[i]) := by rw [List.getElem?_map, List.getElem?_eq_getElem hi]; rfl
  obtain ⟨u, hu, ru⟩ := r.get e
  rw [h] at hu
  cases hu
  exact ⟨bs[i], List.getElem?_eq_getElem hi, ru⟩
section
variable {X : Cx}
theorem call_allL (hc : X.calm = true) (K : PySem.W.Frag) (hK : X.K = K := by rfl) : CallR X (.builtin "all") (fun xs H Q => ∃ (p : Addr) (bs : List Bool), xs = [.ref p] ∧ SqL K H p (bs.map V.bl) ∧ Q (.bl (bs.all id)) H) := by
  subst hK
  intro pins s σ H xs us Q I r h
  obtain ⟨p, bs, rfl, hp, q⟩ := h
  obtain ⟨u, rfl, ru⟩ := vals1 r
  cases ru
  obtain ⟨its, rv, pl, hz⟩ := I.list hp
  have hl : its.toArray.size = bs.length := by
    have := rv.length
    rw [List.length_map] at this
    rw [List.size_toArray]
    exact this.symm
  have hh : X.A.in1.handled = none := I.ok.hd hc
  have hne : p ≠ s.heap.objs.size := fun e => by
    obtain ⟨o, n, e1, _⟩ := pl
    exact absurd (Heap.lt_size e1) (by rw [e]; exact Nat.lt_irrefl _)
  refine call_all_walk (wpAny_pyIter_list pl.isList ?_)
  refine ⟨s.heap.objs.size, _, _, _, _, _, fun i => (bs[i]?).getD true, rfl, Walks.list hh _ p hne its.toArray, ⟨⟨_, Heap.get?_push_size _ rfl, rfl, rfl⟩, pl.isList.at fun o e => Heap.get?_push_of_some _ e⟩, ?_, fun h' tk kk => ?_⟩
  · intro i v s' Q' E' hv hq
    have hv' : its[i]? = some v := by simpa using hv
    obtain ⟨b, e, rfl⟩ := vals_bl rv hv'
    have hq' : Q' ((bs[i]?).getD true) s' := hq
    rw [e] at hq'
    exact wpAny_truthy_bool hq'
  · rw [hl, all_range]
    exact ⟨.bl _, H, I.kept fun b o e => kk b o (by simp; exact Nat.ne_of_lt (Heap.lt_size e)) (Heap.get?_push_of_some _ e), rfl, q⟩
def tyTs : List String := ["NoneType", "bool", "int", "str", "list", "tuple", "dict"]
def tyNs : List String := ["bool", "int", "str", "list", "tuple", "dict"]
def tyIs (T n : String) : Bool := T == n || (T == "bool" && n == "int")
theorem kit_tab : ∀ T ∈ tyTs, ∀ n ∈ tyNs, PySem.W.kitMeta n = true ∧ (PySem.fastBuiltinMro T).map (·.contains (Value.type n)) = some (tyIs T n) := by decide +kernel
theorem kit_one {K : PySem.W.Frag} {T n : String} (hT : T ∈ tyTs) (hn : n ∈ tyNs) : PySem.W.kitOne K (.type T) (.type n) = some (tyIs T n) := by
  obtain ⟨h1, h2⟩ := kit_tab T hT n hn
  unfold PySem.W.kitOne
  split
  · rename_i e
    have e' := eq_of_beq e
    injection e' with e''
    subst e''
    simp [tyIs]
  · unfold PySem.W.kitCls
    show (if PySem.W.kitMeta n = true then PySem.W.subIn K (.type T) (.type n) else none) = _
    rw [if_pos h1]
    exact h2
theorem call_isi (K : PySem.W.Frag) (hK : X.K = K := by rfl) : CallR X (.builtin "isinstance") (fun xs H Q => ∃ x n T, xs = [x, .ty n] ∧ TyOf K H x (.type T) ∧ T ∈ tyTs ∧ n ∈ tyNs ∧ Q (.bl (tyIs T n)) H) := by
  subst hK
  intro pins s σ H xs us Q I r h
  obtain ⟨x, n, T, rfl, ty, hT, hn, q⟩ := h
  obtain ⟨u, c, rfl, ru, rc⟩ := vals2 r
  cases rc
  exact isinst_ok I ru ty (kit_one hT hn) fun tk => ⟨.bl _, H, I.tok tk, rfl, q⟩
theorem pe_gI {x : Str} {i : Int} {pos : Pos} (hg : Gl X x) (hm : ∃ t, X.mg x = some (.int i t)) (hd : (x == ("__debug__" : Str)) = false := by decide) : PE X (.Name x pos) (tC (.int i)) := by
  obtain ⟨t, e⟩ := hm
  exact pe_glob hg e ⟨t, rfl⟩ hd
theorem pe_gS {x z : Str} {pos : Pos} (hg : Gl X x) (hm : ∃ t, X.mg x = some (.str z t)) (hd : (x == ("__debug__" : Str)) = false := by decide) : PE X (.Name x pos) (tC (.str z)) := by
  obtain ⟨t, e⟩ := hm
  exact pe_glob hg e ⟨t, rfl⟩ hd
theorem pe_ty {x : Str} {n : String} {pos : Pos} (hg : Gl X x) (hm : X.mg x = none) (hv : bootBuiltins x = some (.type n)) (hn : x ≠ "__name__" := by decide) (hd : (x == ("__debug__" : Str)) = false := by decide) : PE X (.Name x pos) (tC (.ty n)) :=
  pe_bltn hg hm hv rfl hn hd
end
structure Top (K : PySem.W.Frag) (mg : Str → Option Value) (x : Str) (st : Stmt) (ps : List Str) : Prop where
  ex : ∃ f fd, Fun K x x st f fd ∧ mg x = some (.ref f) ∧ ∀ us : List Value, us.length = ps.length → bindArgs fd ⟨us, []⟩ = pure (ps.zip us)
theorem top_mk {K : PySem.W.Frag} {h : Heap} {mg : Str → Option Value} {x : Str} {st : Stmt} {ps : List Str} {f : Addr} {oc : Value} {od an : Option Addr} {osl : Array (Option Value)} {kV doc pm cdv ct : Value} (X : K.In h) (G : h.Ns mainGlobals mg)
    (b : ∀ (kV doc pm : Value) (an : Option Addr) (cdv ct : Value) (us : List Value), us.length = ps.length → bindArgs (PySem.W.fnOf x x (defArgs st) (defBody st) (defScope st) .none kV doc pm an cdv ct) ⟨us, []⟩ = pure (ps.zip us))
    (a : PySem.W.nsIn K mainGlobals x = some (some (.ref f)))
    (l : K.lookup f = some ⟨oc, od, .func (PySem.W.fnOf x x (defArgs st) (defBody st) (defScope st) .none kV doc pm an cdv ct), osl⟩) (c : PySem.W.codeIn K cdv x = true) (k : PySem.W.keepIn K (.ref f) = true) : Top K mg x st ps := by
  have F := fun_mk (st := st) l c k
  exact ⟨f, _, F, PySem.W.mg_of X G a, b kV doc pm an cdv ct⟩
structure Def (P : Program) (w : World) (K : PySem.W.Frag) (mg : Str → Option Value) (base : Heap) (k : Nat) (x : Str) (ps : List Str) (sp : Sp) : Prop where
  ex : ∃ f fd, FnOk P w K mg base CX0 k f fd ps sp ∧ mg x = some (.ref f) ∧ PySem.W.keepIn K (.ref f) = true ∧ Binds K fd ps []
theorem Top.ok {P : Program} {w : World} {K : PySem.W.Frag} {mg : Str → Option Value} {base : Heap} {x : Str} {st : Stmt} {N ps : List Str} {k : Nat} {sp : Sp} (T : Top K mg x st ps) (S : FnScope N ps (defScope st)) (len : ∀ vs H Q E, sp vs H Q E → vs.length = ps.length)
    (hbody : ∀ (f : Addr) (cdv : Value) (A : Around) (outer : List Env) (s : Shared) (H : Hp) (vs : List V) (Q : VK) (E : XK), Room k (A.deeper (envOfC x (defScope st) s.heap.objs.size f cdv)) → sp vs H Q E →
      ∃ t, PSs (cxOf CX0 P w K mg base N x (defScope st) f cdv A outer s H E).nox (defBody st) t ∧ t { nx := fun _ H' => Q .non H', rt := Q } (start N vs) H) : Def P w K mg base (k + 1) x ps sp := by
  obtain ⟨f, fd, F, hm, hb⟩ := T.ex
  exact ⟨f, fd, F.ok S len (hbody f), hm, F.kp, Binds.all hb⟩
theorem Top.fin {l : PySem.W.OpenLaw} {w : World} {K : PySem.W.Frag} {mg : Str → Option Value} {fa : Addr} {x : Str} {st : Stmt} {N : List Str} {k : Nat} {sp : Sp} (T : Top K mg "law" st [x]) (hfa : mg "law" = some (.ref fa)) (S : FnScope N [x] (defScope st))
    (len : ∀ vs H Q E, sp vs H Q E → vs.length = [x].length)
    (hbody : ∀ (base : Heap) (f : Addr) (cdv : Value) (A : Around) (outer : List Env) (s : Shared) (H : Hp) (vs : List V) (Q : VK) (E : XK), Room k (A.deeper (envOfC "law" (defScope st) s.heap.objs.size f cdv)) → sp vs H Q E →
      ∃ t, PSs (cxOf CX0 l.prog w K mg base N "law" (defScope st) f cdv A outer s H E).nox (defBody st) t ∧ t { nx := fun _ H' => Q .non H', rt := Q } (start N vs) H) :
    ∃ fd : FuncData, (∀ (s : Shared) (v : Value), BindsTo s fd ⟨[v], []⟩ [(x, v)]) ∧ ∀ base : Heap, K.In base → base.Ns mainGlobals mg → FnOk l.prog w K mg base CX0 (k + 1) fa fd [x] sp := by
  obtain ⟨f, fd, F, hm, hb⟩ := T.ex
  have e := hfa.symm.trans hm
  injection e with e
  injection e with e
  subst e
  exact ⟨fd, fun s v => .of_eq (hb [v] rfl), fun base _ _ => F.ok S len (hbody base fa)⟩
theorem Def.mono {P : Program} {w : World} {K : PySem.W.Frag} {mg : Str → Option Value} {base : Heap} {x : Str} {ps : List Str} {j k : Nat} {sp : Sp} (D : Def P w K mg base j x ps sp) (h : j ≤ k) : Def P w K mg base k x ps sp := by
  obtain ⟨f, fd, F, r⟩ := D.ex
  exact ⟨f, fd, F.mono h, r⟩
section
variable {X : Cx} {k k' : Nat} {x : Str} {ps : List Str} {sp : Sp} {p pos : Pos} {e : Expr} {es : List Expr} {t : TA}
theorem pe_def (D : Def X.prog X.w X.K X.mg X.base k x ps sp) (hr : Room k' X.A) (hg : Gl X x) (ha : PA X (e :: es) t) (hkk : k ≤ k' := by decide)
    (hdb : (x == ("__debug__" : Str)) = false := by decide) (he : starEach (e :: es) X.env = (false, eval e X.env) :: starEach es X.env := by rfl) (hpl : (backTo pos (starEach es X.env)).any (·.1) = false := by rfl) :
    PE X (.Call (.Name x p) (e :: es) [] pos) (tCall sp [] E0 t) := by
  obtain ⟨f, fd, F, hm, hk, hb⟩ := D.ex
  exact pe_call F (hr.mono hkk) hg hm hk hb .nil pass0 ha hdb he hpl
end
end L2
namespace L2
open PySem PySem.Spec PyProof.Rows
section
variable {X : Cx} {tg : Expr}
theorem call_lenK (K : PySem.W.Frag) (hK : X.K = K := by rfl) : CallR X (.builtin "len") (fun xs H Q => ∃ x n, xs = [x] ∧ LenV K x H n ∧ Q (.int n) H) := by subst hK; exact call_len
theorem ix_listK (K : PySem.W.Frag) (hK : X.K = K := by rfl) : IxR X (rIxL K) := by subst hK; exact ix_list
theorem ix_tupK (K : PySem.W.Frag) (hK : X.K = K := by rfl) : IxR X (rIxT K) := by subst hK; exact ix_tup
theorem sl_listK (K : PySem.W.Frag) (hK : X.K = K := by rfl) : SlR X (rSlL K) := by subst hK; exact sl_list
theorem pi_listK (K : PySem.W.Frag) {l : Expr} {tl : TE} (hl : PE X l tl) (hK : X.K = K := by rfl) : PI X tg l (iList K tl) := by subst hK; exact pi_list hl
theorem pi_tupK (K : PySem.W.Frag) {l : Expr} {tl : TE} (hl : PE X l tl) (hK : X.K = K := by rfl) : PI X tg l (iTup K tl) := by subst hK; exact pi_tup hl
theorem call_listK (K : PySem.W.Frag) (hK : X.K = K := by rfl) : CallR X (.type "list") (fun xs H Q => ∃ p ys, xs = [.ref p] ∧ (SqL K H p ys ∨ SqT K H p ys) ∧ ∀ l, H l = none → Q (.ref l) (upd H l (.lst ys))) := by subst hK; exact call_list_of
theorem call_tupleK (K : PySem.W.Frag) (hK : X.K = K := by rfl) : CallR X (.type "tuple") (fun xs H Q => ∃ p ys, xs = [.ref p] ∧ ((SqL K H p ys ∧ ∀ l, H l = none → Q (.ref l) (upd H l (.tup ys))) ∨ (SqT K H p ys ∧ Q (.ref p) H))) := by subst hK; exact call_tuple_of
end
theorem atI_in {α : Type} {xs : List α} {i : Int} (h0 : 0 ≤ i) (h1 : i < xs.length) : ∃ v, atI xs i = some v ∧ v ∈ xs := by
  have hlt : i.toNat < xs.length := by omega
  refine ⟨xs[i.toNat], ?_, List.getElem_mem hlt⟩
  unfold atI ixN
  rw [if_pos h0, if_pos h1]
  show xs[i.toNat]? = _
  exact List.getElem?_eq_getElem hlt
theorem atI_lt {α : Type} {xs : List α} {i : Int} (h0 : 0 ≤ i) (h1 : i < xs.length) : atI xs i = xs[i.toNat]? := by
  unfold atI ixN
  rw [if_pos h0, if_pos h1]
  rfl
theorem same_upd {H : Hp} {a : Addr} {o : HO} (h : H a = none) : Same H (upd H a o) := fun b u e => by
  rw [upd_ne (ne_of_none e h)]
  exact e
theorem Same.set {H H' : Hp} {a : Addr} {o : HO} (h : Same H H') (n : H a = none) : Same H (upd H' a o) := fun b u e => by
  rw [upd_ne (ne_of_none e n)]
  exact h b u e
theorem Same.seqT {K : PySem.W.Frag} {H H' : Hp} {a : Addr} {xs : List V} (e : Same H H') (h : SqT K H a xs) : SqT K H' a xs := by
  rcases h with (h | ⟨o, h⟩) | h
  · exact .inl (.inl (e _ _ h))
  · exact .inl (.inr ⟨o, e _ _ h⟩)
  · exact .inr h
theorem TyOf.same {K : PySem.W.Frag} {H H' : Hp} {x : V} {t : Value} (s : Same H H') (h : TyOf K H x t) : TyOf K H' x t := by
  cases h with
  | non => exact .non
  | bl b => exact .bl b
  | int i => exact .int i
  | str x => exact .str x
  | flt x => exact .flt x
  | lst e => exact .lst (s _ _ e)
  | frz e => exact .frz (s _ _ e)
  | tup e => exact .tup (s _ _ e)
  | dK e => exact .dK (s _ _ e)
  | dT e => exact .dT (s _ _ e)
  | ins e cl ha hn ht hm => exact .ins (s _ _ e) cl ha hn ht hm
def notStar : Expr → Bool
  | .Starred _ _ => false
  | _ => true
theorem starEach_cons {e : Expr} {es : List Expr} {env : Env} (h : notStar e = true) : starEach (e :: es) env = (false, eval e env) :: starEach es env := by
  cases e <;> first
    | rfl
    | cases h
theorem pa_con {X : Cx} {e : Expr} {es : List Expr} {te : TE} {t : TA} (ha : PE X e te) (hr : PA X es t) (hs : notStar e = true := by rfl) : PA X (e :: es) (tCons te t) := pa_cons ha hr (starEach_cons hs)
theorem bt_len : bootBuiltins "len" = some (.builtin "len") := by decide +kernel
theorem bt_isinstance : bootBuiltins "isinstance" = some (.builtin "isinstance") := by decide +kernel
theorem bt_all : bootBuiltins "all" = some (.builtin "all") := by decide +kernel
theorem bt_sorted : bootBuiltins "sorted" = some (.builtin "sorted") := by decide +kernel
theorem bt_reversed : bootBuiltins "reversed" = some (.type "reversed") := by decide +kernel
theorem bt_str : bootBuiltins "str" = some (.type "str") := by decide +kernel
theorem bt_int : bootBuiltins "int" = some (.type "int") := by decide +kernel
theorem bt_bool : bootBuiltins "bool" = some (.type "bool") := by decide +kernel
theorem bt_list : bootBuiltins "list" = some (.type "list") := by decide +kernel
theorem bt_tuple : bootBuiltins "tuple" = some (.type "tuple") := by decide +kernel
theorem bt_set : bootBuiltins "set" = some (.type "set") := by decide +kernel
theorem getD_lt {α : Type} {l : List α} {i : Nat} {d : α} (h : i < l.length) : l.getD i d = l[i] := by
  rw [List.getD_eq_getElem?_getD, List.getElem?_eq_getElem h]
  rfl
theorem getD_ge {α : Type} {l : List α} {i : Nat} {d : α} (h : l.length ≤ i) : l.getD i d = d := by
  rw [List.getD_eq_getElem?_getD, List.getElem?_eq_none_iff.mpr h]
  rfl
theorem pa_1 {X : Cx} {e0 : Expr} {t0 : TE} (h0 : PE X e0 t0) (hs0 : notStar e0 = true := by rfl) : PA X [e0] (tCons t0 tNil) := (pa_con h0 pa_nil hs0)
theorem pa_2 {X : Cx} {e0 e1 : Expr} {t0 t1 : TE} (h0 : PE X e0 t0) (h1 : PE X e1 t1) (hs0 : notStar e0 = true := by rfl) (hs1 : notStar e1 = true := by rfl) : PA X [e0, e1] (tCons t0 (tCons t1 tNil)) := (pa_con h0 (pa_con h1 pa_nil hs1) hs0)
theorem pa_3 {X : Cx} {e0 e1 e2 : Expr} {t0 t1 t2 : TE} (h0 : PE X e0 t0) (h1 : PE X e1 t1) (h2 : PE X e2 t2) (hs0 : notStar e0 = true := by rfl) (hs1 : notStar e1 = true := by rfl) (hs2 : notStar e2 = true := by rfl) : PA X [e0, e1, e2] (tCons t0 (tCons t1 (tCons t2 tNil))) := (pa_con h0 (pa_con h1 (pa_con h2 pa_nil hs2) hs1) hs0)
theorem pa_4 {X : Cx} {e0 e1 e2 e3 : Expr} {t0 t1 t2 t3 : TE} (h0 : PE X e0 t0) (h1 : PE X e1 t1) (h2 : PE X e2 t2) (h3 : PE X e3 t3) (hs0 : notStar e0 = true := by rfl) (hs1 : notStar e1 = true := by rfl) (hs2 : notStar e2 = true := by rfl) (hs3 : notStar e3 = true := by rfl) : PA X [e0, e1, e2, e3] (tCons t0 (tCons t1 (tCons t2 (tCons t3 tNil)))) := (pa_con h0 (pa_con h1 (pa_con h2 (pa_con h3 pa_nil hs3) hs2) hs1) hs0)
theorem pa_5 {X : Cx} {e0 e1 e2 e3 e4 : Expr} {t0 t1 t2 t3 t4 : TE} (h0 : PE X e0 t0) (h1 : PE X e1 t1) (h2 : PE X e2 t2) (h3 : PE X e3 t3) (h4 : PE X e4 t4) (hs0 : notStar e0 = true := by rfl) (hs1 : notStar e1 = true := by rfl) (hs2 : notStar e2 = true := by rfl) (hs3 : notStar e3 = true := by rfl) (hs4 : notStar e4 = true := by rfl) : PA X [e0, e1, e2, e3, e4] (tCons t0 (tCons t1 (tCons t2 (tCons t3 (tCons t4 tNil))))) := (pa_con h0 (pa_con h1 (pa_con h2 (pa_con h3 (pa_con h4 pa_nil hs4) hs3) hs2) hs1) hs0)
theorem pa_9 {X : Cx} {e0 e1 e2 e3 e4 e5 e6 e7 e8 : Expr} {t0 t1 t2 t3 t4 t5 t6 t7 t8 : TE} (h0 : PE X e0 t0) (h1 : PE X e1 t1) (h2 : PE X e2 t2) (h3 : PE X e3 t3) (h4 : PE X e4 t4) (h5 : PE X e5 t5) (h6 : PE X e6 t6) (h7 : PE X e7 t7) (h8 : PE X e8 t8) (hs0 : notStar e0 = true := by rfl) (hs1 : notStar e1 = true := by rfl) (hs2 : notStar e2 = true := by rfl) (hs3 : notStar e3 = true := by rfl) (hs4 : notStar e4 = true := by rfl) (hs5 : notStar e5 = true := by rfl) (hs6 : notStar e6 = true := by rfl) (hs7 : notStar e7 = true := by rfl) (hs8 : notStar e8 = true := by rfl) : PA X [e0, e1, e2, e3, e4, e5, e6, e7, e8] (tCons t0 (tCons t1 (tCons t2 (tCons t3 (tCons t4 (tCons t5 (tCons t6 (tCons t7 (tCons t8 tNil))))))))) := (pa_con h0 (pa_con h1 (pa_con h2 (pa_con h3 (pa_con h4 (pa_con h5 (pa_con h6 (pa_con h7 (pa_con h8 pa_nil hs8) hs7) hs6) hs5) hs4) hs3) hs2) hs1) hs0)
theorem pa_10 {X : Cx} {e0 e1 e2 e3 e4 e5 e6 e7 e8 e9 : Expr} {t0 t1 t2 t3 t4 t5 t6 t7 t8 t9 : TE} (h0 : PE X e0 t0) (h1 : PE X e1 t1) (h2 : PE X e2 t2) (h3 : PE X e3 t3) (h4 : PE X e4 t4) (h5 : PE X e5 t5) (h6 : PE X e6 t6) (h7 : PE X e7 t7) (h8 : PE X e8 t8) (h9 : PE X e9 t9) (hs0 : notStar e0 = true := by rfl) (hs1 : notStar e1 = true := by rfl) (hs2 : notStar e2 = true := by rfl) (hs3 : notStar e3 = true := by rfl) (hs4 : notStar e4 = true := by rfl) (hs5 : notStar e5 = true := by rfl) (hs6 : notStar e6 = true := by rfl) (hs7 : notStar e7 = true := by rfl) (hs8 : notStar e8 = true := by rfl) (hs9 : notStar e9 = true := by rfl) : PA X [e0, e1, e2, e3, e4, e5, e6, e7, e8, e9] (tCons t0 (tCons t1 (tCons t2 (tCons t3 (tCons t4 (tCons t5 (tCons t6 (tCons t7 (tCons t8 (tCons t9 tNil)))))))))) := (pa_con h0 (pa_con h1 (pa_con h2 (pa_con h3 (pa_con h4 (pa_con h5 (pa_con h6 (pa_con h7 (pa_con h8 (pa_con h9 pa_nil hs9) hs8) hs7) hs6) hs5) hs4) hs3) hs2) hs1) hs0)
theorem pss_2 {X : Cx} {s0 s1 : Stmt} {t0 t1 : TS} (h0 : PS X s0 t0) (h1 : PS X s1 t1) : PSs X [s0, s1] (tSeq t0 t1) := (pss_cons h0 (pss_one h1))
theorem pss_3 {X : Cx} {s0 s1 s2 : Stmt} {t0 t1 t2 : TS} (h0 : PS X s0 t0) (h1 : PS X s1 t1) (h2 : PS X s2 t2) : PSs X [s0, s1, s2] (tSeq t0 (tSeq t1 t2)) := (pss_cons h0 (pss_cons h1 (pss_one h2)))
theorem pss_4 {X : Cx} {s0 s1 s2 s3 : Stmt} {t0 t1 t2 t3 : TS} (h0 : PS X s0 t0) (h1 : PS X s1 t1) (h2 : PS X s2 t2) (h3 : PS X s3 t3) : PSs X [s0, s1, s2, s3] (tSeq t0 (tSeq t1 (tSeq t2 t3))) := (pss_cons h0 (pss_cons h1 (pss_cons h2 (pss_one h3))))
theorem pss_6 {X : Cx} {s0 s1 s2 s3 s4 s5 : Stmt} {t0 t1 t2 t3 t4 t5 : TS} (h0 : PS X s0 t0) (h1 : PS X s1 t1) (h2 : PS X s2 t2) (h3 : PS X s3 t3) (h4 : PS X s4 t4) (h5 : PS X s5 t5) : PSs X [s0, s1, s2, s3, s4, s5] (tSeq t0 (tSeq t1 (tSeq t2 (tSeq t3 (tSeq t4 t5))))) := (pss_cons h0 (pss_cons h1 (pss_cons h2 (pss_cons h3 (pss_cons h4 (pss_one h5))))))
theorem pss_7 {X : Cx} {s0 s1 s2 s3 s4 s5 s6 : Stmt} {t0 t1 t2 t3 t4 t5 t6 : TS} (h0 : PS X s0 t0) (h1 : PS X s1 t1) (h2 : PS X s2 t2) (h3 : PS X s3 t3) (h4 : PS X s4 t4) (h5 : PS X s5 t5) (h6 : PS X s6 t6) : PSs X [s0, s1, s2, s3, s4, s5, s6] (tSeq t0 (tSeq t1 (tSeq t2 (tSeq t3 (tSeq t4 (tSeq t5 t6)))))) := (pss_cons h0 (pss_cons h1 (pss_cons h2 (pss_cons h3 (pss_cons h4 (pss_cons h5 (pss_one h6)))))))
theorem pss_8 {X : Cx} {s0 s1 s2 s3 s4 s5 s6 s7 : Stmt} {t0 t1 t2 t3 t4 t5 t6 t7 : TS} (h0 : PS X s0 t0) (h1 : PS X s1 t1) (h2 : PS X s2 t2) (h3 : PS X s3 t3) (h4 : PS X s4 t4) (h5 : PS X s5 t5) (h6 : PS X s6 t6) (h7 : PS X s7 t7) : PSs X [s0, s1, s2, s3, s4, s5, s6, s7] (tSeq t0 (tSeq t1 (tSeq t2 (tSeq t3 (tSeq t4 (tSeq t5 (tSeq t6 t7))))))) := (pss_cons h0 (pss_cons h1 (pss_cons h2 (pss_cons h3 (pss_cons h4 (pss_cons h5 (pss_cons h6 (pss_one h7))))))))
theorem pss_11 {X : Cx} {s0 s1 s2 s3 s4 s5 s6 s7 s8 s9 s10 : Stmt} {t0 t1 t2 t3 t4 t5 t6 t7 t8 t9 t10 : TS} (h0 : PS X s0 t0) (h1 : PS X s1 t1) (h2 : PS X s2 t2) (h3 : PS X s3 t3) (h4 : PS X s4 t4) (h5 : PS X s5 t5) (h6 : PS X s6 t6) (h7 : PS X s7 t7) (h8 : PS X s8 t8) (h9 : PS X s9 t9) (h10 : PS X s10 t10) : PSs X [s0, s1, s2, s3, s4, s5, s6, s7, s8, s9, s10] (tSeq t0 (tSeq t1 (tSeq t2 (tSeq t3 (tSeq t4 (tSeq t5 (tSeq t6 (tSeq t7 (tSeq t8 (tSeq t9 t10)))))))))) := (pss_cons h0 (pss_cons h1 (pss_cons h2 (pss_cons h3 (pss_cons h4 (pss_cons h5 (pss_cons h6 (pss_cons h7 (pss_cons h8 (pss_cons h9 (pss_one h10)))))))))))
theorem psr_2 {X : Cx} {s0 s1 : Stmt} {ss : List Stmt} {t0 t1 u : TS} (h0 : PS X s0 t0) (h1 : PS X s1 t1) (hu : PSs X ss u) : PSs X (s0 :: s1 :: ss) (tSeq t0 (tSeq t1 u)) := (pss_cons h0 (pss_cons h1 hu))
theorem psr_4 {X : Cx} {s0 s1 s2 s3 : Stmt} {ss : List Stmt} {t0 t1 t2 t3 u : TS} (h0 : PS X s0 t0) (h1 : PS X s1 t1) (h2 : PS X s2 t2) (h3 : PS X s3 t3) (hu : PSs X ss u) : PSs X (s0 :: s1 :: s2 :: s3 :: ss) (tSeq t0 (tSeq t1 (tSeq t2 (tSeq t3 u)))) := (pss_cons h0 (pss_cons h1 (pss_cons h2 (pss_cons h3 hu))))
theorem join_at {X : Cx} {body : List Stmt} {D : Ends} {σ : St} {H : Hp} (n : Nat) (C : St → Hp → Prop) (rest : ∃ u, PSs X (body.drop n) u ∧ ∀ σ H, C σ H → u D σ H)
    (first : ∀ u, PSs X (body.drop n) u → (∀ σ H, C σ H → u D σ H) → ∃ t, PSs X body t ∧ t D σ H) : ∃ t, PSs X body t ∧ t D σ H :=
  let ⟨u, h1, h2⟩ := rest
  first u h1 h2
theorem join_more {X : Cx} {body : List Stmt} {D : Ends} {C0 : St → Hp → Prop} (n : Nat) (C : St → Hp → Prop) (rest : ∃ u, PSs X (body.drop n) u ∧ ∀ σ H, C σ H → u D σ H)
    (first : ∀ u, PSs X (body.drop n) u → (∀ σ H, C σ H → u D σ H) → ∃ t, PSs X body t ∧ ∀ σ H, C0 σ H → t D σ H) : ∃ t, PSs X body t ∧ ∀ σ H, C0 σ H → t D σ H :=
  let ⟨u, h1, h2⟩ := rest
  first u h1 h2
end L2
namespace L2
open PySem PySem.Spec PyProof.Rows
mutual
inductive Dat (K : PySem.W.Frag) (H : Hp) : PyData → V → Prop
  | non : Dat K H .none .non
  | bl (b : Bool) : Dat K H (.bool b) (.bl b)
  | int (i : Int) : Dat K H (.int i) (.int i)
  | str (x : Str) (h : PyData.strOk x = true) : Dat K H (.str x) (.str x)
  | lst {a : Addr} {xs : List V} {ds : List PyData} : SqL K H a xs → Dats K H ds xs → Dat K H (.list ds) (.ref a)
  | tup {a : Addr} {xs : List V} {ds : List PyData} : SqT K H a xs → Dats K H ds xs → Dat K H (.tuple ds) (.ref a)
inductive Dats (K : PySem.W.Frag) (H : Hp) : List PyData → List V → Prop
  | nil : Dats K H [] []
  | cons {d : PyData} {x : V} {ds : List PyData} {xs : List V} : Dat K H d x → Dats K H ds xs → Dats K H (d :: ds) (x :: xs)
end
section
variable {K : PySem.W.Frag} {H H' : Hp}
mutual
theorem Dat.same (s : Same H H') : ∀ (d : PyData) (x : V), Dat K H d x → Dat K H' d x
  | _, _, .non => .non
  | _, _, .bl b => .bl b
  | _, _, .int i => .int i
  | _, _, .str x h => .str x h
  | _, _, .lst h r => .lst (s.seq h) (Dats.same s _ _ r)
  | _, _, .tup h r => .tup (s.seqT h) (Dats.same s _ _ r)
theorem Dats.same (s : Same H H') : ∀ (ds : List PyData) (xs : List V), Dats K H ds xs → Dats K H' ds xs
  | _, _, .nil => .nil
  | _, _, .cons a b => .cons (Dat.same s _ _ a) (Dats.same s _ _ b)
end
mutual
theorem Dat.lay : ∀ (d : PyData) (x : V), Dat K H d x → d.canLay0 = true
  | _, _, .non => rfl
  | _, _, .bl _ => rfl
  | _, _, .int _ => rfl
  | _, _, .str _ h => h
  | _, _, .lst _ r => Dats.lay _ _ r
  | _, _, .tup _ r => Dats.lay _ _ r
theorem Dats.lay : ∀ (ds : List PyData) (xs : List V), Dats K H ds xs → PyData.canLayAll0 ds = true
  | _, _, .nil => rfl
  | _, _, .cons a b => by rw [PyData.canLayAll0, Dat.lay _ _ a, Dats.lay _ _ b]; rfl
end
end
section
variable {X : Cx} {pins : List (Addr × Obj)} {σ : St} {H : Hp} {s : Shared}
mutual
theorem Dat.reads (I : Inv X pins σ H s) : ∀ (d : PyData) (x : V) (u : Value), Dat X.K H d x → RelV x u → ∃ as, Reads s.heap u d as
  | _, _, _, .non, r => by cases r; exact ⟨_, .none⟩
  | _, _, _, .bl b, r => by cases r; exact ⟨_, .bool b⟩
  | _, _, _, .int i, r => by obtain ⟨t, rfl⟩ := r; exact ⟨_, .int i t⟩
  | _, _, _, .str x _, r => by obtain ⟨t, rfl⟩ := r; exact ⟨_, .str x t⟩
  | _, _, _, .lst h q, r => by
    cases r
    obtain ⟨its, rv, ⟨o, n, e, c, _, d⟩, _⟩ := I.list h
    obtain ⟨as, ra⟩ := Dats.reads I _ _ _ q rv
    exact ⟨_, .list e c d (by simpa using ra)⟩
  | _, _, _, .tup h q, r => by
    cases r
    obtain ⟨its, rv, ⟨o, e, c, n, d⟩, _⟩ := I.tuple h
    obtain ⟨as, ra⟩ := Dats.reads I _ _ _ q rv
    exact ⟨_, .tuple e c d (by simpa using ra)⟩
theorem Dats.reads (I : Inv X pins σ H s) : ∀ (ds : List PyData) (xs : List V) (us : List Value), Dats X.K H ds xs → Vals xs us → ∃ as, ReadsAll s.heap us ds as
  | _, _, _, .nil, r => by cases r; exact ⟨_, .nil⟩
  | _, _, _, .cons a b, r => by
    cases r with
    | cons r1 r2 =>
      obtain ⟨as, h1⟩ := Dat.reads I _ _ _ a r1
      obtain ⟨bs, h2⟩ := Dats.reads I _ _ _ b r2
      exact ⟨_, .cons h1 h2⟩
end
end
section
variable {X : Cx}
theorem units_of {u d e : Nat} (hu : u + 64 < cLine) (hd : d ≤ 60) : u + min d e < cLine := by
  have : min d e ≤ d := Nat.min_le_left _ _
  omega
def rEqD (K : PySem.W.Frag) : R2 := fun x y H Q => ∃ d e, Dat K H d x ∧ Dat K H e y ∧ d.depth ≤ 60 ∧ Q (.bl (PyData.eqv d e)) H
theorem op_eqD (hu : X.A.units + 64 < cLine) (K : PySem.W.Frag) (hK : X.K = K := by rfl) : OpR X (compareOp .Eq) (rEqD K) := by
  subst hK
  intro pins s σ H x y v u Q I rx ry h
  obtain ⟨d, e, hd, he, hz, q⟩ := h
  obtain ⟨as, ra⟩ := Dat.reads I _ _ _ hd rx
  obtain ⟨bs, rb⟩ := Dat.reads I _ _ _ he ry
  exact SeqAt.rcAt_reads ra rb (Dat.lay _ _ hd) (Dat.lay _ _ he) (units_of hu hz) X.prog X.w X.xe _ (fin_bl I q rfl)
end
def LtAt (A : Around) (s : Shared) (u v : Value) (r : Bool) : Prop :=
  ∀ (prog : Program) (w : World) (E : Value → Shared → Prop) (Q : Value → Shared → Prop), Q (.bool r) s → wpAny (model prog w) A (richCompare .Lt u v) Q E s
inductive LexAt (A : Around) (s : Shared) : List Value → List Value → Bool → Prop
  | nn : LexAt A s [] [] false
  | nc {v : Value} {vs : List Value} : LexAt A s [] (v :: vs) true
  | cn {u : Value} {us : List Value} : LexAt A s (u :: us) [] false
  | eq {u v : Value} {us vs : List Value} {r : Bool} : SeqAt.EqAt A s u v true → LexAt A s us vs r → LexAt A s (u :: us) (v :: vs) r
  | lt {u v : Value} {us vs : List Value} {r : Bool} : SeqAt.EqAt A s u v false → LtAt A s u v r → LexAt A s (u :: us) (v :: vs) r
section
open PySem.SeqAt
open PySem.AutoSeq1 (wpAny_loadPart')
open PySem.MeetsSeq PySem.MeetsSeq2 PySem.MeetsSeq3
theorem tuple_lt_any (l b : Addr) (items items2 : Array Value) (n n2 : Nat) (dd dd2 : Option Addr) (sl sl2 : Array (Option Value)) (r : Bool) :
    Meets (Builtin.«tuple.__lt__» ⟨[.ref l, .ref b], []⟩)
      (fun A R s => s.heap.get? l = some { cls := .type "tuple", dict := dd, data := .seq items n, slots := sl } ∧ s.heap.get? b = some { cls := .type "tuple", dict := dd2, data := .seq items2 n2, slots := sl2 } ∧
        LexAt A.in1 s items.toList items2.toList r ∧ R (.ok (.ret (.bool r))) s) :=
  .of_wp fun prog w A R s h => by
    obtain ⟨hp, g, d, tk, os⟩ := s; obtain ⟨hl, hb, hx, h⟩ := h
    have f2 := AutoSeq1.sub_tuple_tuple
    wp_walk using wpAny_loadPart' hl, wpAny_loadPart' hb, wpAny_forIn_list _ (fun rest b s' => b.1 = none ∧ s' = ⟨hp, g, d, tk, os⟩ ∧ ∃ (vs ws : List Value), rest = vs.zip ws ∧
      LexAt A.in1 ⟨hp, g, d, tk, os⟩ vs ws r ∧ vs.length + items2.size = ws.length + items.size) _
    case turn =>
      rintro ⟨y, x⟩ rest b s' ⟨hb', rfl, vs, ws, hz, hvi, hlen⟩
      cases hvi with
      | nn => rw [List.zip_nil_left] at hz; cases hz
      | nc => rw [List.zip_nil_left] at hz; cases hz
      | cn => rw [List.zip_nil_right] at hz; cases hz
      | eq he hr =>
        rw [List.zip_cons_cons] at hz
        injection hz with hyx hrest
        injection hyx with hy hx
        subst hy hx
        simp only [List.length_cons] at hlen
        refine wpAny_bind (he prog w _ _ ?_)
        wp_walk
        exact ⟨rfl, rfl, _, _, hrest, hr, by omega⟩
      | lt he hr =>
        rw [List.zip_cons_cons] at hz
        injection hz with hyx hrest
        injection hyx with hy hx
        subst hy hx
        refine wpAny_bind (he prog w _ _ ?_)
        have hri := hr prog w
        wp_walk using hri
        exact ⟨_, rfl, by simpa using h⟩
    case fin =>
      rintro ⟨b1, b2⟩ s' ⟨hb', rfl, vs, ws, hz, hvi, hlen⟩
      simp only at hb'
      subst hb'
      have hv : r = decide (items.size < items2.size) := by
        cases hvi with
        | nn =>
          simp only [List.length_nil] at hlen
          exact (decide_eq_false (by omega)).symm
        | nc =>
          simp only [List.length_nil, List.length_cons] at hlen
          exact (decide_eq_true (by omega)).symm
        | cn =>
          simp only [List.length_nil, List.length_cons] at hlen
          exact (decide_eq_false (by omega)).symm
        | eq _ _ => rw [List.zip_cons_cons] at hz; cases hz
        | lt _ _ => rw [List.zip_cons_cons] at hz; cases hz
      rw [hv] at h
      wp_walk
      exact ⟨_, rfl, by simpa [Builtin.Tuple.tupleCompareSizes] using h⟩
    case h =>
      exact ⟨rfl, rfl, items.toList, items2.toList, rfl, hx, by simp; omega⟩
end
theorem ltAt_tup {A : Around} {s : Shared} {l b : Addr} {items items2 : Array Value} {r : Bool} (hl : IsTup s.heap l items) (hb : IsTup s.heap b items2) (hx : LexAt A.in1 s items.toList items2.toList r) (hu : A.units < cLine) : LtAt A s (.ref l) (.ref b) r := by
  intro prog w E Q h
  obtain ⟨⟨cls, dd, data, sl⟩, ho, hc, n, hd⟩ := id hl
  obtain ⟨⟨cls2, dd2, data2, sl2⟩, ho2, hc2, n2, hd2⟩ := id hb
  simp only at hc hd hc2 hd2
  subst hc hd hc2 hd2
  exact richCompare_meets_room (op := .Lt) ⟨_, ho, rfl⟩ ⟨_, ho2, rfl⟩ PySem.F.slot_tuple_lt PySem.F.entry_tuple_lt (PySem.F.args_tuple_lt_2 _ _) (tuple_lt_any l b items items2 n n2 dd dd2 sl sl2 r)
    ⟨ho, ho2, hx, show Value.bool r ≠ Value.notImplemented ∧ Q (.bool r) s from ⟨(fun x => nomatch x), h⟩⟩ hu
mutual
def ltD? : PyData → PyData → Option Bool
  | .int a, .int b => some (decide (a < b))
  | .str a, .str b => some (decide (a.cps.toList < b.cps.toList))
  | .tuple as, .tuple bs => lexD? as bs
  | _, _ => none
def lexD? : List PyData → List PyData → Option Bool
  | [], [] => some false
  | [], _ :: _ => some true
  | _ :: _, [] => some false
  | a :: as, b :: bs => if PyData.eqv a b = true then lexD? as bs else ltD? a b
end
mutual
theorem ltAt_reads : ∀ (da db : PyData) (A : Around) (s : Shared) (a b : Value) (as bs : List Addr) (r : Bool), Reads s.heap a da as → Reads s.heap b db bs → da.canLay0 = true → db.canLay0 = true →
    A.units + min da.depth db.depth < cLine → ltD? da db = some r → LtAt A s a b r
  | .int x, db, A, s, _, _, _, _, r, ra, rb, ha, hb, hu, e => by
    cases ra
    cases rb <;> first
      | (cases e; intro prog w E Q h; exact (lt_int h : wpAny (model prog w) A (compareOp .Lt _ _) Q E s))
      | (exact nomatch e)
  | .str x, db, A, s, _, _, _, _, r, ra, rb, ha, hb, hu, e => by
    cases ra
    cases rb <;> first
      | (cases e; intro prog w E Q h; exact (lt_str h : wpAny (model prog w) A (compareOp .Lt _ _) Q E s))
      | (exact nomatch e)
  | .tuple xs, db, A, s, _, _, _, _, r, ra, rb, ha, hb, hu, e => by
    cases ra with
    | tuple h1 h2 h3 h4 =>
      cases rb with
      | tuple k1 k2 k3 k4 =>
        exact ltAt_tup ⟨_, h1, h2, _, h3⟩ ⟨_, k1, k2, _, k3⟩ (lexAt_reads xs _ A.in1 s _ _ _ _ r h4 k4 ha hb (SeqAt.room_in hu) e) (SeqAt.room_here hu)
      | none => exact nomatch e
      | bool => exact nomatch e
      | int => exact nomatch e
      | str => exact nomatch e
      | list => exact nomatch e
      | dict => exact nomatch hb
  | .none, _, _, _, _, _, _, _, _, _, _, _, _, _, e => by simp [ltD?] at e
  | .bool _, _, _, _, _, _, _, _, _, _, _, _, _, _, e => by simp [ltD?] at e
  | .list _, _, _, _, _, _, _, _, _, _, _, _, _, _, e => by simp [ltD?] at e
  | .dict _, _, _, _, _, _, _, _, _, _, _, ha, _, _, _ => nomatch ha
theorem lexAt_reads : ∀ (xs ys : List PyData) (A : Around) (s : Shared) (vs ws : List Value) (as bs : List Addr) (r : Bool), ReadsAll s.heap vs xs as → ReadsAll s.heap ws ys bs → PyData.canLayAll0 xs = true → PyData.canLayAll0 ys = true →
    A.units + min (PyData.depthAll xs) (PyData.depthAll ys) < cLine → lexD? xs ys = some r → LexAt A s vs ws r
  | [], [], _, _, _, _, _, _, r, ra, rb, _, _, _, e => by cases ra; cases rb; cases e; exact .nn
  | [], _ :: _, _, _, _, _, _, _, r, ra, rb, _, _, _, e => by cases ra; cases rb; cases e; exact .nc
  | _ :: _, [], _, _, _, _, _, _, r, ra, rb, _, _, _, e => by cases ra; cases rb; cases e; exact .cn
  | x :: xs, y :: ys, A, s, _, _, _, _, r, ra, rb, ha, hb, hu, e => by
    have ha' : x.canLay0 = true ∧ PyData.canLayAll0 xs = true := by simpa [PyData.canLayAll0] using ha
    have hb' : y.canLay0 = true ∧ PyData.canLayAll0 ys = true := by simpa [PyData.canLayAll0] using hb
    cases ra with
    | cons r1 rs =>
      cases rb with
      | cons r1' rs' =>
        have eq := SeqAt.eqAt_reads x y A s _ _ _ _ r1 r1' ha'.1 hb'.1 (SeqAt.room_head hu)
        rw [lexD?] at e
        cases q : PyData.eqv x y with
        | true =>
          rw [q] at eq
          rw [if_pos q] at e
          exact .eq eq (lexAt_reads xs ys A s _ _ _ _ r rs rs' ha'.2 hb'.2 (SeqAt.room_tail hu) e)
        | false =>
          rw [q] at eq
          rw [if_neg (by rw [q]; exact Bool.false_ne_true)] at e
          exact .lt eq (ltAt_reads x y A s _ _ _ _ r r1 r1' ha'.1 hb'.1 (SeqAt.room_head hu) e)
end
section
variable {X : Cx}
end
end L2
namespace L2
open PySem PySem.Spec PyProof.Rows
def tyD : PyData → String
  | .none => "NoneType"
  | .bool _ => "bool"
  | .int _ => "int"
  | .str _ => "str"
  | .list _ => "list"
  | .tuple _ => "tuple"
  | .dict _ => "dict"
theorem tyD_in (d : PyData) : tyD d ∈ tyTs := by
  cases d <;> simp [tyD, tyTs]
section
variable {X : Cx}
theorem call_isiD (K : PySem.W.Frag) (hK : X.K = K := by rfl) : CallR X (.builtin "isinstance") (fun xs H Q => ∃ x n d, xs = [x, .ty n] ∧ Dat K H d x ∧ n ∈ tyNs ∧ Q (.bl (tyIs (tyD d) n)) H) := by
  subst hK
  intro pins s σ H xs us Q I r h
  obtain ⟨x, n, d, rfl, hd, hn, q⟩ := h
  obtain ⟨u, c, rfl, ru, rc⟩ := vals2 r
  cases rc
  have e := kit_one (K := X.K) (tyD_in d) hn
  have fin : ∀ tk, EP X pins σ Q (.bool (tyIs (tyD d) n)) { s with toks := tk } := fun tk => ⟨.bl _, H, I.tok tk, rfl, q⟩
  cases hd with
  | non => cases ru; exact PySem.W.kia_one PySem.W.kitx_none I.kIn True.intro e (fun z => nomatch z) fin
  | bl b => cases ru; exact PySem.W.kia_one PySem.W.kitx_bool I.kIn True.intro e (fun z => nomatch z) fin
  | int i => obtain ⟨t, rfl⟩ := ru; exact PySem.W.kia_one PySem.W.kitx_int I.kIn True.intro e (fun z => nomatch z) fin
  | str z h => obtain ⟨t, rfl⟩ := ru; exact PySem.W.kia_one PySem.W.kitx_str I.kIn True.intro e (fun z => nomatch z) fin
  | lst hq _ =>
    cases ru
    obtain ⟨its, _, ⟨o, m, e1, c, _, _⟩, _⟩ := I.list hq
    exact PySem.W.kia_one PySem.W.kitx_list I.kIn ⟨o, e1, c⟩ e (fun z => nomatch z) fin
  | tup hq _ =>
    cases ru
    obtain ⟨its, _, ⟨o, e1, c, _⟩, _⟩ := I.tuple hq
    exact PySem.W.kia_one PySem.W.kitx_tuple I.kIn ⟨o, e1, c⟩ e (fun z => nomatch z) fin
def rNeD (K : PySem.W.Frag) : R2 := fun x y H Q => ∃ d e, Dat K H d x ∧ Dat K H e y ∧ d.depth ≤ 60 ∧ Q (.bl (!PyData.eqv d e)) H
theorem op_neD (hu : X.A.units + 64 < cLine) (K : PySem.W.Frag) (hK : X.K = K := by rfl) : OpR X (compareOp .NotEq) (rNeD K) := by
  subst hK
  intro pins s σ H x y v u Q I rx ry h
  obtain ⟨d, e, hd, he, hz, q⟩ := h
  obtain ⟨as, ra⟩ := Dat.reads I _ _ _ hd rx
  obtain ⟨bs, rb⟩ := Dat.reads I _ _ _ he ry
  exact SeqAt.compareNe_reads ra rb (Dat.lay _ _ hd) (Dat.lay _ _ he) (units_of hu hz) (fin_bl I q rfl)
end
end L2
namespace L2
open PySem PySem.Spec PyProof.Rows PySem.W
def RawD (h : Heap) (d : Addr) (es : Array DictEntry) (ep : Nat) : Prop := ∃ o, h.get? d = some o ∧ o.ExactDict ∧ o.data = .dict es ep
theorem RawD.lt {h : Heap} {d : Addr} {es : Array DictEntry} {ep : Nat} (x : RawD h d es ep) : d < h.objs.size := let ⟨_, e, _⟩ := x; Heap.lt_size e
theorem RawD.ty {s : Shared} {d : Addr} {es : Array DictEntry} {ep : Nat} (x : RawD s.heap d es ep) : s.TypeIs (.ref d) "dict" := let ⟨o, e, c, _⟩ := x; ⟨o, e, c.1⟩
theorem RawD.at {h h' : Heap} {d : Addr} {es : Array DictEntry} {ep : Nat} (x : RawD h d es ep) (k : ∀ o, h.get? d = some o → h'.get? d = some o) : RawD h' d es ep := let ⟨o, e, r⟩ := x; ⟨o, k o e, r⟩
section
variable {prog : Program} {w : World} {A : Around} {E : Value → Shared → Prop} {s : Shared} {d it : Addr} {es : Array DictEntry} {ep i : Nat}
theorem raw_iter {Q : Value → Shared → Prop} (hd : (d == sysModules) = false) (x : RawD s.heap d es ep)
    (q : Q (.ref s.heap.objs.size) { s with heap := s.heap.push { cls := .type "dict_keyiterator", data := .fields #[.ref d, .int 0 0, .int es.size 0, .int ep 0] } }) : wpAny (model prog w) A (pyIter (.ref d)) Q E s := by
  obtain ⟨o, ho, hc, hdat⟩ := id x
  refine wpAny_pyIter_slot x.ty PySem.F.slot_dict_iter (wpAny_call_entry PySem.F.slot_dict_iter x.ty PySem.F.entry_dict_iter ?_ (PySem.F.args_dict_iter_1 _))
  unfold Builtin.«dict.__iter__» Builtin.Dict.dictSlotNone
  refine wpAny_bind (wpAny_bind (wpAny_notOrdered_dict x.ty ?_))
  show wpAny _ _ (pure (Value.ref d)) _ _ s
  refine wpAny_pure ?_
  show wpAny _ _ (Builtin.Dict.showsAll d >>= _) _ _ s
  unfold Builtin.Dict.showsAll
  rw [if_neg (by rw [hd]; exact Bool.false_ne_true)]
  refine wpAny_bind (wpAny_pure (wpAny_bind (wpAny_dictEntries ho hdat (wpAny_bind (wpAny_dictEpoch ho hdat ?_)))))
  refine wpAny_bind (wpAny_newObj_type (wpAny_pure ⟨_, rfl, "dict_keyiterator", _, ⟨_, Heap.get?_push_size _ rfl, rfl⟩, PySem.F.slot_dict_keyiterator_next.lookup, ?_⟩))
  simpa [rawInt] using q
theorem raw_item {e : DictEntry} {Q : Option Value → Shared → Prop} (hit : s.heap.IsKeyIter it d i es.size ep) (x : RawD s.heap d es ep) (hx : es[i]? = some e)
    (q : ∀ h', h'.IsKeyIter it d (i + 1) es.size ep → Heap.SameBut it s.heap h' → Q (some e.key) { s with heap := h' }) : wpAny (model prog w) A (pyNext (.ref it)) Q E s := by
  obtain ⟨o, ho, hc, hd⟩ := id hit
  obtain ⟨od, hod, hcd, hdd⟩ := id x
  unfold pyNext
  refine wpAny_bind (wpAny_attempt (wpAny_callSpecial?_slot (name := Str.ofString "__next__") hit.typeIs PySem.F.slot_dict_keyiterator_next
    (wpAny_call_entry PySem.F.slot_dict_keyiterator_next hit.typeIs PySem.F.entry_dict_keyiterator_next ?_ (PySem.F.args_dict_keyiterator_next_1 _))))
  refine wpAny_bind (wpAny_pure (wpAny_bind (wpAny_bind ?_)))
  refine wpAny_bind (wpAny_typeNameOfWhole_keyiter hit.typeIs (wpAny_pure ?_))
  refine wpAny_bind (wpAny_fieldsOf ho hd ?_)
  simp only [show Builtin.Dict_items.ownsTuple "dict_keyiterator" = false by decide, Bool.false_eq_true, if_false]
  show wpAny _ _ (if (Value.ref d == Value.none) = true then _ else _) _ _ s
  rw [if_neg (show ¬ ((Value.ref d == Value.none) = true) from Bool.false_ne_true)]
  refine wpAny_bind (wpAny_pure (wpAny_bind (wpAny_dictEntries hod hdd ?_)))
  rw [if_neg (by simp)]
  refine wpAny_bind (wpAny_pure (wpAny_bind (wpAny_dictEpoch hod hdd ?_)))
  rw [if_neg (by simp)]
  refine wpAny_pure ?_
  simp only [show ¬ ((i : Int) < 0) from by omega, if_false, Int.toNat_natCast, hx]
  refine wpAny_bind ?_
  refine wpAny_bind (wpAny_typeNameOfWhole_keyiter hit.typeIs (wpAny_pure ?_))
  refine wpAny_bind (wpAny_isOneOf_keyiter hit.typeIs ?_)
  show wpAny _ _ (setField (.ref it) 1 (rawInt ((i : Int) + 1)) >>= _) _ _ s
  refine wpAny_bind (wpAny_setField ho hd (by simp) ?_)
  have hit' : (s.heap.update it (Obj.mapFields (·.setIfInBounds 1 (rawInt ((i : Int) + 1))))).IsKeyIter it d (i + 1) es.size ep :=
    ⟨_, Heap.get?_update_self _ ho (Obj.isFreed_of_fields (Obj.data_mapFields hd _)), (Obj.cls_mapFields ..).trans hc, by rw [Obj.data_mapFields hd]; simp [rawInt]⟩
  refine wpAny_bind (wpAny_holding ?_)
  refine wpAny_bind (wpAny_isOneOf_keyiter (s := { s with heap := s.heap.update it (Obj.mapFields (·.setIfInBounds 1 (rawInt ((i : Int) + 1)))) }) hit'.typeIs ?_)
  show wpAny _ _ (pure e.key) _ _ _
  exact wpAny_pure (wpAny_pure ⟨_, rfl, wpAny_pure (q _ hit' (Heap.SameBut.update ..))⟩)
theorem raw_end {Q : Option Value → Shared → Prop} (hh : A.handled = none) (hit : s.heap.IsKeyIter it d i es.size ep) (x : RawD s.heap d es ep) (hx : es.size ≤ i)
    (q : ∀ h', Heap.ExtBut it s.heap h' → Q none { s with heap := h' }) : wpAny (model prog w) A (pyNext (.ref it)) Q E s := by
  obtain ⟨o, ho, hc, hd⟩ := id hit
  obtain ⟨od, hod, hcd, hdd⟩ := id x
  unfold pyNext
  refine wpAny_bind (wpAny_attempt (wpAny_callSpecial?_slot (name := Str.ofString "__next__") hit.typeIs PySem.F.slot_dict_keyiterator_next
    (wpAny_call_entry PySem.F.slot_dict_keyiterator_next hit.typeIs PySem.F.entry_dict_keyiterator_next ?_ (PySem.F.args_dict_keyiterator_next_1 _))))
  refine wpAny_bind (wpAny_pure (wpAny_bind (wpAny_bind ?_)))
  refine wpAny_bind (wpAny_typeNameOfWhole_keyiter hit.typeIs (wpAny_pure ?_))
  refine wpAny_bind (wpAny_fieldsOf ho hd ?_)
  simp only [show Builtin.Dict_items.ownsTuple "dict_keyiterator" = false by decide, Bool.false_eq_true, if_false]
  show wpAny _ _ (if (Value.ref d == Value.none) = true then _ else _) _ _ s
  rw [if_neg (show ¬ ((Value.ref d == Value.none) = true) from Bool.false_ne_true)]
  refine wpAny_bind (wpAny_pure (wpAny_bind (wpAny_dictEntries hod hdd ?_)))
  rw [if_neg (by simp)]
  refine wpAny_bind (wpAny_pure (wpAny_bind (wpAny_dictEpoch hod hdd ?_)))
  rw [if_neg (by simp)]
  refine wpAny_pure ?_
  simp only [show ¬ ((i : Int) < 0) from by omega, if_false, Int.toNat_natCast, Array.getElem?_eq_none hx]
  refine wpAny_bind ?_
  refine wpAny_bind (wpAny_typeNameOfWhole_keyiter hit.typeIs (wpAny_pure ?_))
  show wpAny _ _ (setField (.ref it) 0 .none >>= _) _ _ s
  refine wpAny_bind (wpAny_setField ho hd (by simp) ?_)
  show wpAny _ _ (newExc (.type "StopIteration") [] >>= _) _ _ _
  refine wpAny_bind ?_
  simp only [newExc, newTuple]
  refine wpAny_bind (wpAny_newObj_type ?_ (by size_fits))
  refine wpAny_bind (m := firstArgMember _ _) (wpAny_of_eq (a := Value.none) (by first | rfl | (simp only [firstArgMember]; rfl)) ?_)
  refine wpAny_newObj_type ?_ (by size_fits)
  simp only [raiseNew]
  refine wpAny_bind (wpAny_handled ?_)
  rw [show A.in1.handled = none from hh]
  refine wpAny_bind (wpAny_pure (wpAny_throw ?_))
  refine wpAny_bind (wpAny_isInstance (T := "StopIteration") (b := true) ⟨_, Heap.get?_push_size _ rfl, rfl⟩ isSubtype_stop ?_)
  exact wpAny_pure (q _ (((Heap.SameBut.update ..).extBut.push _).push _))
theorem raw_walks (hh : A.handled = none) (I d : Addr) (hne : d ≠ I) (es : Array DictEntry) (ep : Nat) :
    Walks prog w A I [I, d] [I] es.size (fun i v => ∃ e, es[i]? = some e ∧ v = e.key) (fun i h => h.IsKeyIter I d i es.size ep ∧ RawD h d es ep) where
  sub := fun b hb => by simp at hb; simp [hb]
  frame := fun _ _ _ st hk => ⟨st.1.at fun o e => hk I (by simp) o e, st.2.at fun o e => hk d (by simp) o e⟩
  item := fun i s Q E hi st hQ => by
    have hx : es[i]? = some es[i] := Array.getElem?_eq_getElem hi
    refine raw_item st.1 st.2 hx fun h' hit' hs' => ?_
    exact hQ es[i].key h' s.toks ⟨es[i], hx, rfl⟩ ⟨hit', st.2.at fun o e => hs'.extBut d o hne e⟩ fun b o hb e => hs'.extBut b o (fun h => hb (by simp [h])) e
  done := fun s Q E st hQ => raw_end hh st.1 st.2 (Nat.le_refl _) fun h' he' => hQ h' s.toks fun b o hb e => he' b o (fun h => hb (by simp [h])) e
  self := fun _ _ _ _ st hQ => wpAny_pyIter_keyiter st.1 hQ
theorem raw_src (lo : (d == sysModules) = false) : KdlSrc prog w "dict" d d es.size (fun i v => ∃ e, es[i]? = some e ∧ v = e.key) (fun h => RawD h d es ep) where
  type := fun _ hm => hm.ty
  there := fun _ hm => ⟨hm.lt, hm.lt⟩
  keep := fun _ _ hm hk => hm.at fun o e => hk d (.inl rfl) o e
  notList := by decide
  notTuple := by decide
  hint := fun _ _ _ _ hm hq => kdl_hint_dict hm.ty hq
  iter := fun _ _ hh hm => ⟨_, _, (fun _ _ hq => raw_iter lo hm hq), raw_walks hh _ d (Nat.ne_of_lt hm.lt) es ep, ⟨⟨_, Heap.get?_push_size _ rfl, rfl, rfl⟩, hm.at fun o e => Heap.get?_push_of_some _ e⟩⟩
theorem raw_collect {R : List Value → Shared → Prop} (hh : A.handled = none) (lo : (d == sysModules) = false) (x : RawD s.heap d es ep) (hn : es.size ≤ sizeLine)
    (h : ∀ (h' : Heap) (tk : Nat), (∀ b o, s.heap.get? b = some o → h'.get? b = some o) → s.heap.objs.size ≤ h'.objs.size → R (es.toList.map (·.key)) { s with heap := h', toks := tk }) : wpAny (model prog w) A (collect (.ref d)) R E s := by
  have fin : ∀ (acc : Array Value), ItemsOf (fun i v => ∃ e, es[i]? = some e ∧ v = e.key) acc es.size → acc.toList = es.toList.map (·.key) := fun acc ha => by
    apply List.ext_getElem?
    intro j
    rw [List.getElem?_map, Array.getElem?_toList, Array.getElem?_toList]
    cases e : acc[j]? with
    | some v =>
      obtain ⟨e', he, rfl⟩ := ha.2 j v e
      rw [he]
      rfl
    | none =>
      have : acc.size ≤ j := by simpa using e
      rw [ha.1] at this
      rw [Array.getElem?_eq_none this]
      rfl
  unfold collect
  refine wpAny_bind (wpAny_runValue (codeAny_builtin entry_proto_collect' ?_))
  rw [Around.under_plainId PySem.F.plain_proto_collect _]
  show wpAny _ A.in1 (newList [] >>= fun l => again (.builtin "list.__iadd__" ⟨[l, .ref d], []⟩)) _ _ s
  refine wpAny_bind (wpAny_newObj_type ?_)
  refine wpAny_pure ⟨plainId_quiet PySem.F.plain_list_iadd _, codeAny_builtin entry_list_iadd' ?_⟩
  rw [Around.under_plainId PySem.F.plain_list_iadd _]
  have hS : (s.heap.push { cls := .type "list", data := .seq ([] : List Value).toArray }).get? s.heap.objs.size = some { cls := .type "list", data := .seq #[] } := Heap.get?_push_size _ rfl
  show wpAny _ A.in1 (Builtin.List.listExtendWith (.ref s.heap.objs.size) (.ref d) (.ref s.heap.objs.size)) _ _ _
  have key := kdl_extend (A := A) (s := { s with heap := s.heap.push { cls := .type "list", data := .seq ([] : List Value).toArray } }) (raw_src (prog := prog) (w := w) (es := es) (ep := ep) lo) hh (x.at fun o e => Heap.get?_push_of_some _ e) s.heap.objs.size
    (Nat.ne_of_gt x.lt) (Nat.ne_of_gt x.lt) (.ref s.heap.objs.size) 0 hS
    (R := fun (q : Result) (s' : Shared) => ∃ (h' : Heap) (tk : Nat) (acc' : Array Value) (c' : Nat), q = .ok (.ret (.ref s.heap.objs.size)) ∧ s' = { s with heap := h', toks := tk } ∧ (∀ b o, s.heap.get? b = some o → h'.get? b = some o) ∧
      h'.get? s.heap.objs.size = some { cls := .type "list", dict := none, data := .seq acc' c', slots := #[] } ∧ acc'.toList = es.toList.map (·.key))
    (fun h' tk acc' c' hk hS' hacc => ⟨h', tk, acc', c', rfl, rfl, fun b o e => hk b o (Nat.ne_of_lt (Heap.lt_size e)) (Heap.get?_push_of_some _ e), hS', fin acc' hacc⟩) hn
  refine wpAny_mono key (fun f s' y => ?_) fun e s' y => ?_
  · cases f with
    | done f =>
      obtain ⟨h', tk, acc', c', e, rfl, hk, hS', ha⟩ := y
      cases e
      show wpAny _ A (load s.heap.objs.size >>= _) _ _ _
      refine wpAny_bind (wpAny_load hS' (wpAny_pure ?_))
      show R acc'.toList _
      rw [ha]
      exact h h' tk hk (Nat.le_of_lt (Heap.lt_size hS'))
    | again c =>
      refine ⟨y.1, codeAny_mono y.2 fun q s2 z => ?_⟩
      obtain ⟨h', tk, acc', c', rfl, rfl, hk, hS', ha⟩ := z
      show wpAny _ A (load s.heap.objs.size >>= _) _ _ _
      refine wpAny_bind (wpAny_load hS' (wpAny_pure ?_))
      show R acc'.toList _
      rw [ha]
      exact h h' tk hk (Nat.le_of_lt (Heap.lt_size hS'))
  · obtain ⟨_, _, _, _, e', _⟩ := y
    cases e'
theorem collect_sq {T : String} {o : Obj} {items : Array Value} {n : Nat} {l : Addr} {R : List Value → Shared → Prop} (hT : T = "list" ∨ T = "tuple") (ho : s.heap.get? l = some o) (hc : o.cls = .type T) (hd : o.data = .seq items n) (hz : items.size ≤ sizeLine)
    (h : ∀ (h' : Heap) (tk : Nat), (∀ b o, s.heap.get? b = some o → h'.get? b = some o) → s.heap.objs.size ≤ h'.objs.size → R items.toList { s with heap := h', toks := tk }) : wpAny (model prog w) A (collect (.ref l)) R E s := by
  unfold collect
  refine wpAny_bind (wpAny_runValue (codeAny_builtin entry_proto_collect' ?_))
  show wpAny _ _ (do again (.builtin "list.__iadd__" ⟨[← newList [], .ref l], []⟩)) _ _ s
  refine wpAny_bind (wpAny_newList (wpAny_pure ⟨Code.quiet_builtin _ (by decide +kernel), codeAny_builtin entry_list_iadd' ?_⟩))
  show wpAny _ _ (Builtin.List.listExtendWith (.ref s.heap.objs.size) (.ref l) (.ref s.heap.objs.size)) _ _ { s with heap := s.heap.push (seqObj "list" #[] 0) }
  unfold Builtin.List.listExtendWith
  have ho' : (s.heap.push (seqObj "list" #[] 0)).get? l = some o := Heap.get?_push_of_some _ ho
  refine wpAny_bind (wpAny_typeOf (T := T) ⟨o, ho', hc⟩ ?_)
  have ht : ((Value.type T == Value.type "list") || (Value.type T == Value.type "tuple")) = true := by rcases hT with rfl | rfl <;> rfl
  rw [if_pos (by rw [Bool.or_assoc, ht]; simp)]
  refine wpAny_bind (listItems_at ho' hd ?_)
  refine wpAny_bind (listItems_at (xs := #[]) (n := 0) (Heap.get?_push_size _ rfl) rfl ?_)
  rw [if_neg (by simp)]
  refine wpAny_bind (listUpdate_at (xs := #[]) (n := 0) (Heap.get?_push_size _ rfl) rfl ?_ (Nat.zero_le _) (by rw [Array.size_append]; simp; omega))
  refine wpAny_pure ?_
  show wpAny (model prog w) A (load s.heap.objs.size >>= fun o => match o.data with
      | .seq xs _ => pure xs.toList
      | _ => unsupported "internal:collect") R E { s with heap := (s.heap.push (seqObj "list" #[] 0)).update s.heap.objs.size (Obj.mapSeq (· ++ items)) }
  refine wpAny_bind (wpAny_load (get?_update_seq (Heap.get?_push_size _ rfl) _) ?_)
  show wpAny _ _ (pure ((#[] : Array Value) ++ items).toList) R E _
  rw [show ((#[] : Array Value) ++ items).toList = items.toList by simp]
  refine wpAny_pure (h _ s.toks (fun b o e => ?_) (by rw [Heap.size_update, size_push']; omega))
  exact (Heap.get?_update_other _ _ (Nat.ne_of_gt (Heap.lt_size e))).trans (Heap.get?_push_of_some _ e)
theorem sorted_any {x : Value} {vs : List Value} {rk : Value → Int} {Q : Value → Shared → Prop} (hz : vs.length ≤ sizeLine)
    (hc : ∀ (A' : Around) (E' : Value → Shared → Prop) (R : List Value → Shared → Prop), A'.handled = A.handled → (∀ h' tk, (∀ b o, s.heap.get? b = some o → h'.get? b = some o) → s.heap.objs.size ≤ h'.objs.size → R vs { s with heap := h', toks := tk }) → wpAny (model prog w) A' (collect x) R E' s)
    (hk : ∀ (A' : Around) (s' : Shared) (a : Addr), A'.units ≤ A.units + 4 → s.heap.objs.size ≤ a → (∀ b o, s.heap.get? b = some o → s'.heap.get? b = some o) → Tim.Keys prog w A' s' a vs rk)
    (h : ∀ (out : Array Value) (l : Addr) (n : Nat) (h' : Heap) (tk : Nat), Tim.Sorted rk vs out.toList → (∀ b o, s.heap.get? b = some o → h'.get? b = some o) → s.heap.objs.size ≤ l → h'.get? l = some (seqObj "list" out n) → Q (.ref l) { s with heap := h', toks := tk }) :
    wpAny (model prog w) A (call (.builtin "sorted") [x]) Q E s := by
  refine Calls.call_function_entry kind_sorted plain_sorted entry_sorted (args_sorted1 _) ?_
  unfold Builtin.«sorted»
  refine wpAny_bind (m := checkCount "sorted" 1 1 _) (wpAny_pure ?_)
  refine wpAny_bind (hc _ _ _ rfl fun h1 tk keep hsz => ?_)
  refine wpAny_bind (wpAny_newList ?_ hz)
  have hoL : (h1.push (seqObj "list" vs.toArray 0)).get? h1.objs.size = some (seqObj "list" vs.toArray 0) := Heap.get?_push_size _ rfl
  show wpAny _ _ _ _ _ { s with heap := h1.push (seqObj "list" vs.toArray 0), toks := tk }
  have keep2 : ∀ b o, s.heap.get? b = some o → (h1.push (seqObj "list" vs.toArray 0)).get? b = some o := fun b o e => Heap.get?_push_of_some _ (keep b o e)
  refine wpAny_bind (wpAny_holding (wpAny_call_entry slot_list_sort ⟨_, hoL, rfl⟩ entry_list_sort (Tim.list_sort_any hoL hz (hk _ _ _ ?_ hsz keep2) fun out so => ⟨_, rfl, ?_⟩) (args_list_sort _)))
  · show A.units + 2 ≤ A.units + 4
    omega
  · have hne : ∀ b o, s.heap.get? b = some o → b ≠ h1.objs.size := fun b o e => Nat.ne_of_lt (Nat.lt_of_lt_of_le (Heap.lt_size e) hsz)
    have u1 := Heap.SameBut.update (h1.push (seqObj "list" vs.toArray 0)) h1.objs.size (Obj.mapSeq fun _ => (#[] : Array Value))
    obtain ⟨e1, g1⟩ : ∃ e1, ((h1.push (seqObj "list" vs.toArray 0)).update h1.objs.size (Obj.mapSeq fun _ => (#[] : Array Value))).get? h1.objs.size = some (seqObj "list" #[] e1) := ⟨_, get?_update_seq hoL fun _ => #[]⟩
    have g2 := Heap.get?_push_of_some (seqObj "list" #[] 0) (Heap.get?_push_of_some (seqObj "tuple" vs.toArray 0) g1)
    have g3 := get?_update_seq g2 fun _ => out
    have u4 := Heap.SameBut.update (((((h1.push (seqObj "list" vs.toArray 0)).update h1.objs.size (Obj.mapSeq fun _ => (#[] : Array Value))).push (seqObj "tuple" vs.toArray 0)).push (seqObj "list" #[] 0))) h1.objs.size (Obj.mapSeq fun _ => out)
    refine wpAny_pure ⟨_, rfl, h out h1.objs.size _ _ tk so (fun b o e => ?_) hsz g3⟩
    refine (u4.2 b (hne b o e)).trans (Heap.get?_push_of_some _ (Heap.get?_push_of_some _ ((u1.2 b (hne b o e)).trans (keep2 b o e))))
end
end L2
namespace Tim
section
variable {α : Type}
def srt (lt : α → α → Bool) (l : List α) : List α := l.mergeSort fun a b => !lt b a
theorem srt_perm (lt : α → α → Bool) (l : List α) : (srt lt l).Perm l := List.mergeSort_perm _ _
theorem srt_asc {lt : α → α → Bool} (h : STO lt) (l : List α) : (srt lt l).Pairwise fun a b => lt b a = false := by
  have := List.pairwise_mergeSort (le := fun a b => !lt b a) (fun a b c h1 h2 => by
    cases e : lt c a with
    | false => rfl
    | true =>
      rcases h.nt b e with q | q
      · rw [q] at h2
        cases h2
      · rw [q] at h1
        cases h1) (fun a b => by
    cases e : lt b a with
    | false => rfl
    | true =>
      rw [h.asym e]
      rfl) l
  exact List.Pairwise.imp (fun {a b} (z : (!lt b a) = true) => by simpa using z) this
theorem srt_eq {lt : α → α → Bool} (h : STO lt) {l k : List α} (p : k.Perm l) (a : k.Pairwise fun a b => lt b a = false) : k = srt lt l := h.uniq (p.trans (srt_perm lt l).symm) a (srt_asc h l)
end
section
open PySem
theorem sorted_data {α : Type} {lt : α → α → Bool} (h : STO lt) (dec : Value → α) {vs out : List Value} (so : Sorted (fun v => rank lt (vs.map dec) (dec v)) vs out) : out.map dec = srt lt (vs.map dec) := by
  refine srt_eq h (so.perm.map dec) ?_
  rw [List.pairwise_map]
  refine List.Pairwise.imp_of_mem (fun {x y} hx hy hr => ?_) so.asc
  have mx : dec x ∈ vs.map dec := List.mem_map.mpr ⟨x, so.perm.mem_iff.mp hx, rfl⟩
  have my : dec y ∈ vs.map dec := List.mem_map.mpr ⟨y, so.perm.mem_iff.mp hy, rfl⟩
  rw [rank_lt (fun a _ => h.irr a) (fun a _ b _ c _ => h.tr a b c) (fun a _ b _ c _ z => h.nt b z) my mx]
  exact decide_eq_false (by omega)
theorem rank_dec {α : Type} {lt : α → α → Bool} (h : STO lt) (dec : Value → α) {vs : List Value} {x y : Value} (hx : x ∈ vs) (hy : y ∈ vs) : lt (dec x) (dec y) = decide (rank lt (vs.map dec) (dec x) < rank lt (vs.map dec) (dec y)) :=
  rank_lt (fun a _ => h.irr a) (fun a _ b _ c _ => h.tr a b c) (fun a _ b _ c _ z => h.nt b z) (List.mem_map.mpr ⟨x, hx, rfl⟩) (List.mem_map.mpr ⟨y, hy, rfl⟩)
end
end Tim
namespace L2
open PySem PySem.Spec PyProof.Rows PySem.W
def strLt (x y : Str) : Bool := decide (x.cps.toList < y.cps.toList)
theorem sto_str : Tim.STO strLt := by
  have h := (Tim.sto_nat.lex).map (fun z : Str => z.cps.toList) (fun a b e => by
    cases a
    cases b
    congr
    exact Array.toList_inj.mp e)
  have e : strLt = fun a b : Str => Tim.lexB (fun x y : Nat => decide (x < y)) a.cps.toList b.cps.toList := by
    funext a b
    exact Tim.lex_nat _ _
  rw [e]
  exact h
def prodLt (a b : List Str) : Bool := Tim.lexB strLt a b
theorem sto_prod : Tim.STO prodLt := sto_str.lex
def sOf : Value → Str
  | .str x _ => x
  | _ => ""
theorem vals_str {ws : List Str} : ∀ {us : List Value}, Vals (ws.map V.str) us → us.map sOf = ws ∧ (∀ u ∈ us, ∃ x t, u = .str x t) ∧ StrsAre us ws := by
  induction ws with
  | nil =>
    intro us r
    cases r
    exact ⟨rfl, (fun _ z => nomatch z), .nil⟩
  | cons x ws ih =>
    intro us r
    cases r with
    | cons r1 rr =>
      obtain ⟨t, rfl⟩ := r1
      obtain ⟨a, b, c⟩ := ih rr
      refine ⟨by rw [List.map_cons, a]; rfl, fun u hu => ?_, .cons x t c⟩
      rcases List.mem_cons.mp hu with rfl | hu
      · exact ⟨x, t, rfl⟩
      · exact b u hu
theorem vals_of_strs : ∀ {us : List Value}, (∀ u ∈ us, ∃ x t, u = .str x t) → Vals ((us.map sOf).map V.str) us
  | [], _ => .nil
  | u :: us, h => by
    obtain ⟨x, t, rfl⟩ := h u (List.mem_cons_self ..)
    exact .cons ⟨t, rfl⟩ (vals_of_strs fun v hv => h v (List.mem_cons_of_mem _ hv))
section
variable {prog : Program} {w : World} {A : Around} {s : Shared} {a : Addr}
theorem keys_strs {ws : List Str} {vs : List Value} (r : Vals (ws.map V.str) vs) : Tim.Keys prog w A s a vs (fun v => Tim.rank strLt (vs.map sOf) (sOf v)) := by
  intro h2 s' _
  obtain ⟨e1, e2, e3⟩ := vals_str r
  refine ⟨oneType', fun E Q q => ?_, fun x hx y hy E Q q => ?_⟩
  · match vs, h2, e3 with
    | v1 :: v2 :: vr, _, e3 =>
      rw [keyKind_strs e3]
      exact wpAny_pure q
  · rw [← Tim.rank_dec sto_str sOf hx hy] at q
    obtain ⟨x', t, rfl⟩ := e2 x hx
    obtain ⟨y', u, rfl⟩ := e2 y hy
    rw [keyLt'_oneType]
    exact oneLt_str q
end
section
variable {X : Cx}
theorem Inv.sorted_list {pins : List (Addr × Obj)} {σ : St} {H : Hp} {s : Shared} {xs : List V} {out : Array Value} {l : Addr} {n tk : Nat} {h' : Heap} {Q : VK} (I : Inv X pins σ H s) (rv : Vals xs out.toList) (hz : xs.length ≤ sizeLine)
    (keep : ∀ b o, s.heap.get? b = some o → h'.get? b = some o) (hl : s.heap.objs.size ≤ l) (hg : h'.get? l = some (seqObj "list" out n)) (q : Q (.ref l) (upd H l (.lst xs))) : EP X pins σ Q (.ref l) { s with heap := h', toks := tk } := by
  refine ⟨.ref l, _, I.laid (a := l) (o := .lst xs) (t' := tk) keep hl ⟨hz, out.toList, n, rv, ?_⟩, rfl, q⟩
  rw [Array.toArray_toList]
  exact hg
theorem call_sortedS (K : PySem.W.Frag) (hK : X.K = K := by rfl) : CallR X (.builtin "sorted") (fun xs H Q => ∃ p ws, xs = [.ref p] ∧ (SqL K H p (ws.map V.str) ∨ SqT K H p (ws.map V.str)) ∧ ∀ l, H l = none → Q (.ref l) (upd H l (.lst ((Tim.srt strLt ws).map V.str)))) := by
  subst hK
  intro pins s σ H xs us Q I r h
  obtain ⟨p, ws, rfl, hp, q⟩ := h
  obtain ⟨u, rfl, ru⟩ := vals1 r
  cases ru
  obtain ⟨T, o, its, n, hT, ho, hc, hd, rv, hz⟩ : ∃ (T : String) (o : Obj) (its : List Value) (n : Nat), (T = "list" ∨ T = "tuple") ∧ s.heap.get? p = some o ∧ o.cls = .type T ∧ o.data = .seq its.toArray n ∧ Vals (ws.map V.str) its ∧ (ws.map V.str).length ≤ sizeLine := by
    rcases hp with hp | hp
    · obtain ⟨its, rv, ⟨o, n, e, c, _, d⟩, z⟩ := I.list hp
      exact ⟨"list", o, its, n, .inl rfl, e, c, d, rv, z⟩
    · obtain ⟨its, rv, ⟨o, e, c, n, d⟩, z⟩ := I.tuple hp
      exact ⟨"tuple", o, its, n, .inr rfl, e, c, d, rv, z⟩
  have hl : its.length ≤ sizeLine := by rw [← rv.length]; exact hz
  obtain ⟨e1, e2, _⟩ := vals_str rv
  refine sorted_any (vs := its) (rk := fun v => Tim.rank strLt (its.map sOf) (sOf v)) hl (fun A' E' R _ k => collect_sq hT ho hc hd (by rw [List.size_toArray]; exact hl) (by rw [List.toList_toArray]; exact k)) (fun A' s' a _ _ _ => keys_strs rv) fun out l n h' tk so keep hl' hg => ?_
  have ho2 : ∀ u ∈ out.toList, ∃ x t, u = .str x t := fun u hu => e2 u (so.perm.mem_iff.mp hu)
  have ed := Tim.sorted_data sto_str sOf so
  rw [e1] at ed
  have rv2 := vals_of_strs ho2
  rw [ed] at rv2
  exact I.sorted_list rv2 (by rw [List.length_map, (Tim.srt_perm strLt ws).length_eq]; rw [List.length_map] at hz; exact hz) keep hl' hg (q l (I.hok.fresh hl'))
end
def TupAt (h : Heap) (v : Value) (p : List Str) : Prop := ∃ (b : Addr) (o : Obj) (its : Array Value) (n : Nat), v = .ref b ∧ h.get? b = some o ∧ o.cls = .type "tuple" ∧ o.data = .seq its n ∧ Vals (p.map V.str) its.toList
section
variable {prog : Program} {w : World} {A : Around} {E : Value → Shared → Prop} {s : Shared} {a : Addr}
theorem eqAt_str (x y : Str) (t u : Tok) : SeqAt.EqAt A s (.str x t) (.str y u) (decide (x = y)) := fun prog w E Q h => wpAny_eqBool_str h
theorem prodLt_cons (x y : Str) (p q : List Str) : prodLt (x :: p) (y :: q) = if x = y then prodLt p q else strLt x y := rfl
theorem lexAt_strs : ∀ (p q : List Str) (us vs : List Value), Vals (p.map V.str) us → Vals (q.map V.str) vs → LexAt A s us vs (prodLt p q)
  | [], [], _, _, r1, r2 => by cases r1; cases r2; exact .nn
  | [], _ :: _, _, _, r1, r2 => by cases r1; cases r2; exact .nc
  | _ :: _, [], _, _, r1, r2 => by cases r1; cases r2; exact .cn
  | x :: p, y :: q, _, _, r1, r2 => by
    cases r1 with
    | cons a1 r1 =>
      cases r2 with
      | cons a2 r2 =>
        obtain ⟨t, rfl⟩ := a1
        obtain ⟨u, rfl⟩ := a2
        have he := eqAt_str (A := A) (s := s) x y t u
        rw [prodLt_cons]
        by_cases h : x = y
        · rw [if_pos h]
          rw [decide_eq_true h] at he
          exact .eq he (lexAt_strs p q _ _ r1 r2)
        · rw [if_neg h]
          rw [decide_eq_false h] at he
          exact .lt he fun prog w E Q k => (lt_str k : wpAny (model prog w) A (compareOp .Lt _ _) Q E s)
theorem oneLt_strs (c : Bool) (x y : Str) (t u : Tok) {Q : Bool → Shared → Prop} (h : Q (strLt x y) s) : wpAny (model prog w) A (oneLt' c (.str x t) (.str y u)) Q E s := by
  cases c with
  | true => exact oneLt_str h
  | false => exact kat_one _ _ (lt_str h)
theorem katLex_strs {c fin : Bool} {Q : Bool → Shared → Prop} : ∀ (p q : List Str) (us vs : List Value) (i : Nat), Vals (p.map V.str) us → Vals (q.map V.str) vs → fin = decide (us.length < vs.length) → Q (prodLt p q) s → KatLex prog w A c fin Q (us.zip vs) i s
  | [], [], _, _, i, r1, r2, hf, h => by
    cases r1
    cases r2
    rw [List.zip_nil_left, hf]
    exact h
  | [], _ :: _, _, _, i, r1, r2, hf, h => by
    cases r1
    cases r2
    rw [List.zip_nil_left, hf]
    refine kat_nil ?_
    rw [decide_eq_true (by simp)]
    exact h
  | _ :: _, [], _, _, i, r1, r2, hf, h => by
    cases r1
    cases r2
    rw [List.zip_nil_right, hf]
    refine kat_nil ?_
    rw [decide_eq_false (by simp)]
    exact h
  | x :: p, y :: q, _, _, i, r1, r2, hf, h => by
    cases r1 with
    | cons a1 r1 =>
      cases r2 with
      | cons a2 r2 =>
        obtain ⟨t, rfl⟩ := a1
        obtain ⟨u, rfl⟩ := a2
        rw [List.zip_cons_cons]
        rw [prodLt_cons] at h
        refine kat_cons (eqAt_str x y t u prog w _ _ ?_)
        by_cases e : x = y
        · rw [if_pos e] at h
          rw [decide_eq_true e]
          exact kat_yes (katLex_strs p q _ _ (i + 1) r1 r2 (by rw [hf]; simp) h)
        · rw [if_neg e] at h
          rw [decide_eq_false e]
          exact kat_no (oneLt_strs _ x y t u h)
theorem klt_tuples {x y : Value} {p q : List Str} (hx : TupAt s.heap x p) (hy : TupAt s.heap y q) (c : Bool) : Tim.KLt prog w A s (tuples' c) x y (prodLt p q) := by
  obtain ⟨b, o, its, n, rfl, e1, _, d1, r1⟩ := hx
  obtain ⟨b', o', its', n', rfl, e2, _, d2, r2⟩ := hy
  intro E Q k
  exact kat_lt e1 d1 e2 d2 (katLex_strs p q _ _ 0 r1 r2 (by rw [Array.length_toList, Array.length_toList]) k)
theorem lt_tups {x y : Value} {p q : List Str} (hx : TupAt s.heap x p) (hy : TupAt s.heap y q) (hu : A.units < cLine) : LtAt A s x y (prodLt p q) := by
  obtain ⟨b, o, its, n, rfl, e1, c1, d1, r1⟩ := hx
  obtain ⟨b', o', its', n', rfl, e2, c2, d2, r2⟩ := hy
  exact ltAt_tup ⟨o, e1, c1, n, d1⟩ ⟨o', e2, c2, n', d2⟩ (lexAt_strs p q _ _ r1 r2) hu
theorem klt_general {x y : Value} {p q : List Str} (hx : TupAt s.heap x p) (hy : TupAt s.heap y q) (hu : A.units < cLine) : Tim.KLt prog w A s general' x y (prodLt p q) := by
  intro E Q k
  exact kat_one x y (lt_tups hx hy hu prog w E _ k)
theorem klt_one {x y : Value} {p q : List Str} (hx : TupAt s.heap x p) (hy : TupAt s.heap y q) (hu : A.units < cLine) : Tim.KLt prog w A s oneType' x y (prodLt p q) := by
  obtain ⟨b, ⟨cls, dd, data, sl⟩, its, n, rfl, e1, c1, d1, r1⟩ := hx
  obtain ⟨b', ⟨cls', dd', data', sl'⟩, its', n', rfl, e2, c2, d2, r2⟩ := hy
  simp only at c1 d1 c2 d2
  subst c1 d1 c2 d2
  intro E Q k
  rw [keyLt'_oneType, oneLt'_eq]
  simp only [if_true]
  refine wpAny_bind (wpAny_cRoomFor hu ?_)
  refine wpAny_bind (wpAny_callSpecialIfBound?_slot ⟨_, e1, rfl⟩ PySem.F.slot_tuple_lt (call_meets PySem.F.slot_tuple_lt ⟨_, e1, rfl⟩ PySem.F.entry_tuple_lt (PySem.F.args_tuple_lt_2 _ _) (tuple_lt_any b b' its its' n n' dd dd' sl sl' (prodLt p q)) ⟨e1, e2, lexAt_strs p q _ _ r1 r2, ?_⟩))
  exact wpAny_truthy_bool k
theorem TupAt.keep {h h' : Heap} {v : Value} {p : List Str} (x : TupAt h v p) (k : ∀ b o, v = .ref b → h.get? b = some o → h'.get? b = some o) : TupAt h' v p :=
  let ⟨b, o, its, n, e, g, r⟩ := x
  ⟨b, o, its, n, e, k b o e g, r⟩
theorem firsts_tups : ∀ (vs : List Value) (ps : List (List Str)), Paired (TupAt s.heap) vs ps → ∃ fs : List (Option Value), (∀ (M : Model) (A : Around) (E : Value → Shared → Prop) (Q : List (Option Value) → Shared → Prop), Q fs s → wpAny M A (vs.mapM firstOfTuple') Q E s) ∧ fs.length = vs.length ∧
    ∀ f ∈ fs, ∀ v, f = some v → ∃ x t, v = .str x t
  | [], [], _ => ⟨[], fun M A E Q q => by rw [List.mapM_nil]; exact wpAny_pure q, rfl, fun _ z => nomatch z⟩
  | v :: vs, p :: ps, .cons h hr => by
    obtain ⟨fs, g1, g2, g3⟩ := firsts_tups vs ps hr
    obtain ⟨b, o, its, n, rfl, ho, hc, hd, r⟩ := h
    refine ⟨its[0]? :: fs, fun M A E Q q => ?_, by rw [List.length_cons, g2, List.length_cons], fun f hf v e => ?_⟩
    · rw [List.mapM_cons]
      refine wpAny_bind ?_
      rw [kas_first_eq]
      refine wpAny_bind (Looks.here (show Looks M s.heap (typeOf (.ref b)) o.cls from (Looks.ld ho).andThen .now) ?_)
      rw [hc, if_neg (by decide)]
      refine wpAny_bind (listItems_at ho hd (wpAny_pure ?_))
      exact wpAny_bind (g1 M A E (fun bs s' => wpAny M A (pure (its[0]? :: bs)) Q E s') (wpAny_pure q))
    · rcases List.mem_cons.mp hf with rfl | hf
      · obtain ⟨_, h2, _⟩ := vals_str r
        exact h2 v (by rw [← Array.getElem?_toList] at e; exact List.mem_of_getElem? e)
      · exact g3 f hf v e
theorem typeOf_strs : ∀ (vs : List Value), (∀ v ∈ vs, ∃ x t, v = .str x t) → vs.mapM typeOf = pure (vs.map fun _ => Value.type "str")
  | [], _ => by simp
  | v :: vs, h => by
    obtain ⟨x, t, rfl⟩ := h v (List.mem_cons_self ..)
    rw [List.mapM_cons, typeOf_strs vs fun u hu => h u (List.mem_cons_of_mem _ hu)]
    show (pure (Value.type "str") >>= fun b => pure _ >>= fun bs => pure (b :: bs)) = _
    simp
theorem kind_tups {vs : List Value} {ps : List (List Str)} (h : Paired (TupAt s.heap) vs ps) (h2 : 2 ≤ vs.length) : ∃ kd : SortKind, (kd = tuples' true ∨ kd = general' ∨ kd = oneType') ∧ ∀ (M : Model) (A : Around) (E : Value → Shared → Prop) (Q : SortKind → Shared → Prop), Q kd s → wpAny M A (keyKind' vs.toArray) Q E s := by
  obtain ⟨fs, g1, g2, g3⟩ := firsts_tups vs ps h
  by_cases hall : (fs.toArray.all fun x => x.isSome) = true
  · refine ⟨tuples' true, .inl rfl, fun M A E Q q => ?_⟩
    rw [kat_kind_eq, List.mapM_toArray, map_eq_pure_bind]
    refine wpAny_bind (wpAny_bind (g1 M A E _ (wpAny_pure ?_)))
    rw [if_pos hall]
    refine wpAny_bind (wpAny_rule ?_)
    obtain ⟨f1, fr, e⟩ : ∃ f1 fr, fs = f1 :: fr := by
      cases e : fs with
      | nil => rw [e] at g2; simp at g2; omega
      | cons f1 fr => exact ⟨f1, fr, rfl⟩
    have hs : ∀ v ∈ fs.filterMap id, ∃ x t, v = .str x t := fun v hv => by
      obtain ⟨f, hf, e⟩ := List.mem_filterMap.mp hv
      exact g3 f hf v e
    have hfm : fs.toArray.filterMap id = (fs.filterMap id).toArray := by simp
    rw [hfm, oneTypeOnly'_eq, List.mapM_toArray, typeOf_strs _ hs]
    simp only [map_pure, pure_bind]
    have h0 : ∃ v vr, fs.filterMap id = v :: vr := by
      rw [e] at hall ⊢
      cases f1 with
      | none => simp at hall
      | some v => exact ⟨v, fr.filterMap id, rfl⟩
    obtain ⟨v, vr, ev⟩ := h0
    rw [ev]
    have ha : ((List.map (fun _ => Value.type "str") (v :: vr)).toArray.all fun x => x == Value.type "str") = true := by
      simp only [List.all_toArray, List.all_map, List.all_eq_true]
      intro _ _
      rfl
    have hz : (List.map (fun _ => Value.type "str") (v :: vr)).toArray[0]? = some (Value.type "str") := by simp
    rw [hz]
    simp only [ha, if_true, pure_bind]
    exact wpAny_pure q
  · by_cases hf : (fs.toArray[0]?.bind id).isSome = true
    · refine ⟨general', .inr (.inl rfl), fun M A E Q q => ?_⟩
      rw [kat_kind_eq, List.mapM_toArray, map_eq_pure_bind]
      refine wpAny_bind (wpAny_bind (g1 M A E _ (wpAny_pure ?_)))
      rw [if_neg hall, if_pos hf]
      exact wpAny_pure q
    · refine ⟨oneType', .inr (.inr rfl), fun M A E Q q => ?_⟩
      rw [kat_kind_eq, List.mapM_toArray, map_eq_pure_bind]
      refine wpAny_bind (wpAny_bind (g1 M A E _ (wpAny_pure ?_)))
      rw [if_neg hall, if_neg hf, oneTypeOnly'_eq, List.mapM_toArray, map_eq_pure_bind]
      have hty : ∀ v ∈ vs, Looks M s.heap (typeOf v) (.type "tuple") := fun v hv => by
        obtain ⟨p, b, o, its, n, rfl, ho, hc, _⟩ : ∃ p, TupAt s.heap v p := by
          clear g1 g2 g3 hall hf h2 q
          induction h with
          | nil => cases hv
          | cons a r ih =>
            rcases List.mem_cons.mp hv with e | hv
            · rw [e]
              exact ⟨_, a⟩
            · exact ih hv
        rw [← hc]
        exact (Looks.ld ho).andThen .now
      refine wpAny_bind (wpAny_bind (wpAny_bind (kas_mapM (r := Value.type "tuple") _ (fun v hv Q' hq => (hty v hv).here hq) (wpAny_pure ?_))))
      obtain ⟨v, vr, ev⟩ : ∃ v vr, vs = v :: vr := by
        cases e : vs with
        | nil => rw [e] at h2; simp at h2
        | cons v vr => exact ⟨v, vr, rfl⟩
      rw [ev]
      have ha : ((List.map (fun _ => Value.type "tuple") (v :: vr)).toArray.all fun x => x == Value.type "tuple") = true := by
        simp only [List.all_toArray, List.all_map, List.all_eq_true]
        intro _ _
        rfl
      have hz : (List.map (fun _ => Value.type "tuple") (v :: vr)).toArray[0]? = some (Value.type "tuple") := by simp
      rw [hz]
      simp only [ha, if_true]
      exact wpAny_pure (wpAny_pure q)
theorem paired_mem {α β : Type} {F : α → β → Prop} {f : α → β} : ∀ {l : List α} {k : List β}, Paired F l k → (∀ x y, F x y → f x = y) → l.map f = k ∧ ∀ x ∈ l, F x (f x)
  | _, _, .nil, _ => ⟨rfl, fun _ z => nomatch z⟩
  | _, _, .cons a r, h => by
    obtain ⟨e, m⟩ := paired_mem r h
    have e1 := h _ _ a
    refine ⟨by rw [List.map_cons, e, e1], fun x hx => ?_⟩
    rcases List.mem_cons.mp hx with rfl | hx
    · rw [e1]
      exact a
    · exact m x hx
theorem keys_tups {vs : List Value} {ps : List (List Str)} (dec : Value → List Str) (h : Paired (fun v p => TupAt s.heap v p ∧ dec v = p) vs ps) (ha : s.heap.objs.size ≤ a) {s1 : Shared} (hk : ∀ b o, s.heap.get? b = some o → s1.heap.get? b = some o) (hu : A.units < cLine) :
    Tim.Keys prog w A s1 a vs (fun v => Tim.rank prodLt (vs.map dec) (dec v)) := by
  intro h2 s' keep
  have up : ∀ v p, TupAt s.heap v p → TupAt s'.heap v p := fun v p x => x.keep fun b o _ e => keep b o (Nat.ne_of_lt (Nat.lt_of_lt_of_le (Heap.lt_size e) ha)) (hk b o e)
  obtain ⟨_, hm⟩ := paired_mem h fun _ _ z => z.2
  obtain ⟨kd, hkd, hk'⟩ := kind_tups (s := s') (Paired.mapP h fun v p z => up v p z.1) h2
  refine ⟨kd, fun E Q q => hk' _ A E Q q, fun x hx y hy => ?_⟩
  rw [← Tim.rank_dec sto_prod dec hx hy]
  have tx := up x _ (hm x hx).1
  have ty := up y _ (hm y hy).1
  rcases hkd with rfl | rfl | rfl
  · exact klt_tuples tx ty true
  · exact klt_general tx ty hu
  · exact klt_one tx ty hu
end
theorem kV_strs (p : List Str) : (p.map (Sum.inr : Str → Key)).map kV = p.map V.str := by
  rw [List.map_map]
  rfl
def decT (H : Hp) : Value → List Str
  | .ref a => match H a with
    | some (.tup xs) => xs.map fun x => match x with | .str z => z | _ => ""
    | _ => []
  | _ => []
theorem decT_of {H : Hp} {a : Addr} {p : List Str} (h : H a = some (.tup (p.map V.str))) : decT H (.ref a) = p := by
  simp only [decT, h]
  rw [List.map_map]
  exact (List.map_congr_left fun _ _ => rfl).trans (List.map_id p)
section
variable {X : Cx}
def TupsH (H : Hp) (vs : List Value) (ps : List (List Str)) : Prop := Paired (fun v p => ∃ b, v = Value.ref b ∧ H b = some (.tup (p.map V.str))) vs ps
theorem call_sortedD (hu : X.A.units + 64 < cLine) (hc : X.calm = true) (K : PySem.W.Frag) (hK : X.K = K := by rfl) : CallR X (.builtin "sorted") (fun xs H Q => ∃ (d : Addr) (kvs : List (List Str × V)), xs = [.ref d] ∧ H d = some (.dT (kvs.map fun kv => (kv.1.map Sum.inr, kv.2))) ∧
    ∀ l zs, H l = none → Paired (fun x p => ∃ b, x = V.ref b ∧ H b = some (.tup (p.map V.str))) zs (Tim.srt prodLt (kvs.map (·.1))) → Q (.ref l) (upd H l (.lst zs))) := by
  subst hK
  intro pins s σ H xs us Q I r h
  obtain ⟨d, kvs, rfl, hd, q⟩ := h
  obtain ⟨u, rfl, ru⟩ := vals1 r
  cases ru
  obtain ⟨hz, hne, es0, rel, o, es, ep, ho, hx, hdat, hes, hnd⟩ := I.hok d _ hd
  have hlen : es.size = kvs.length := by
    rw [← Array.length_toList, hes, List.length_map, ← rel.length, List.length_map]
  have hkeys : TupsH H (es.toList.map (·.key)) (kvs.map (·.1)) := by
    rw [hes, List.map_map]
    clear hz hes hdat hlen ho q hd hnd
    unfold TupsH
    revert rel
    generalize hk : (kvs.map fun kv => (kv.1.map (Sum.inr : Str → Key), kv.2)) = ks
    intro rel
    induction rel generalizing kvs with
    | nil =>
      have : kvs = [] := by simpa using hk
      subst this
      exact .nil
    | cons a rr ih =>
      cases kvs with
      | nil => simp at hk
      | cons kv kvs =>
        rw [List.map_cons, List.cons.injEq] at hk
        obtain ⟨rfl, hk⟩ := hk
        refine .cons ⟨_, rfl, ?_⟩ (ih kvs hk)
        obtain ⟨_, a2, _⟩ := a
        rw [kV_strs] at a2
        exact a2
  have tupAt : ∀ v p, (∃ b, v = Value.ref b ∧ H b = some (.tup (p.map V.str))) → TupAt s.heap v p := fun v p ⟨b, e, hb⟩ => by
    obtain ⟨_, its, rv, o, e1, c, n, dd⟩ := I.hok b _ hb
    exact ⟨b, o, its.toArray, n, e, e1, c, dd, by rw [List.toList_toArray]; exact rv⟩
  have both : Paired (fun v p => TupAt s.heap v p ∧ decT H v = p) (es.toList.map (·.key)) (kvs.map (·.1)) := Paired.mapP hkeys fun v p z => ⟨tupAt v p z, by
    obtain ⟨b, rfl, hb⟩ := z
    exact decT_of hb⟩
  have ev : (es.toList.map (·.key)).map (decT H) = kvs.map (·.1) := (paired_mem both fun _ _ z => z.2).1
  have mem : ∀ v ∈ es.toList.map (·.key), ∃ b, v = Value.ref b ∧ H b = some (.tup ((decT H v).map V.str)) := (paired_mem (f := decT H) hkeys fun v p ⟨b, e, hb⟩ => by
    rw [e]
    exact decT_of hb).2
  have hl : (es.toList.map (·.key)).length ≤ sizeLine := by
    rw [List.length_map, Array.length_toList, hlen]
    rw [List.length_map] at hz
    exact hz
  refine sorted_any (vs := es.toList.map (·.key)) (rk := fun v => Tim.rank prodLt ((es.toList.map (·.key)).map (decT H)) (decT H v)) hl
    (fun A' E' R hh k => raw_collect (hh.trans (I.ok.hd hc)) hne ⟨o, ho, hx, hdat⟩ (by rw [List.length_map, Array.length_toList] at hl; exact hl) k)
    (fun A' s' a hu' ha keep => keys_tups (s := s) (decT H) both ha keep (by omega)) fun out l n h' tk so keep hl' hg => ?_
  have ed := Tim.sorted_data sto_prod (decT H) so
  rw [ev] at ed
  have mo : ∀ v ∈ out.toList, ∃ b, v = Value.ref b ∧ H b = some (.tup ((decT H v).map V.str)) := fun v hv => mem v (so.perm.mem_iff.mp hv)
  obtain ⟨zs, rv, hp⟩ : ∃ zs : List V, Vals zs out.toList ∧ Paired (fun x p => ∃ b, x = V.ref b ∧ H b = some (.tup (p.map V.str))) zs (out.toList.map (decT H)) := by
    revert mo
    generalize out.toList = os
    intro mo
    induction os with
    | nil => exact ⟨[], .nil, .nil⟩
    | cons v os ih =>
      obtain ⟨zs, r1, r2⟩ := ih fun u hu => mo u (List.mem_cons_of_mem _ hu)
      obtain ⟨b, e, hb⟩ := mo v (List.mem_cons_self ..)
      exact ⟨.ref b :: zs, .cons e r1, .cons ⟨b, rfl, hb⟩ r2⟩
  rw [ed] at hp
  refine I.sorted_list rv ?_ keep hl' hg (q l zs (I.hok.fresh hl') hp)
  rw [rv.length, so.perm.length_eq]
  exact hl
end
end L2
namespace L2
open PySem PySem.Spec PyProof.Rows
section
variable {X : Cx}
end
end L2
namespace L2
open PySem PySem.Spec PyProof.Rows
section
variable {X : Cx} {e : Expr} {lo hi : Option Expr} {se : Expr} {te : TE} {tl th ts : TO} {p2 pos : Pos}
end
end L2
namespace L2
open PySem PySem.Spec PyProof.Rows
section
variable {X : Cx}
def rCatA (K : PySem.W.Frag) : R2 := fun x y H Q => ∃ a b xs ys, x = .ref a ∧ y = .ref b ∧ SqT K H a xs ∧ SqT K H b ys ∧ xs.length + ys.length ≤ sizeLine ∧ ∀ p H', Same H H' → SqT K H' p (xs ++ ys) → Q (.ref p) H'
theorem op_catA (K : PySem.W.Frag) (hK : X.K = K := by rfl) : OpR X (binaryOp .Add) (rCatA K) := by
  subst hK
  intro pins s σ H x y v u Q I rx ry h
  obtain ⟨a, b, xs, ys, rfl, rfl, ha, hb, hz, q⟩ := h
  by_cases hx : xs = []
  · subst hx
    cases rx
    cases ry
    obtain ⟨its, r1, p1, _⟩ := I.tuple ha
    obtain ⟨its2, r2, p2, _⟩ := I.tuple hb
    have e0 : its = [] := r1.nil_iff.mpr rfl
    subst e0
    obtain ⟨⟨cls, dd, data, sl⟩, ho, hc, n, hd⟩ := id p1
    obtain ⟨⟨cls2, dd2, data2, sl2⟩, ho2, hc2, n2, hd2⟩ := id p2
    simp only at hc hd hc2 hd2
    subst hc hd hc2 hd2
    exact concat_meets ⟨_, ho, rfl⟩ ⟨_, ho2, rfl⟩ noFill_tuple_add seq_tuple_add PySem.F.slot_tuple_add PySem.F.entry_tuple_add (PySem.F.args_tuple_add_2 _ _)
      (tuple_addW0 a b #[] its2.toArray n n2 dd dd2 sl sl2 rfl) ⟨ho, ho2, ⟨.ref b, H, I, rfl, q b H (Same.refl _) hb⟩⟩
  · refine op_catT pins s σ H _ _ v u Q I rx ry ⟨a, b, xs, ys, rfl, rfl, ha, hb, hx, hz, fun e => ?_, fun _ p hp => q p _ (same_upd hp) (SqT.of upd_same)⟩
    subst e
    exact q a H (Same.refl _) (by rw [List.append_nil]; exact ha)
end
end L2
namespace L2
open PySem PySem.Spec PyProof.Rows
section
variable {X : Cx}
end
section
variable {prog : Program} {w : World} {A : Around} {R : Result → Shared → Prop} {I : Addr} {fp wr : List Addr} {n : Nat} {P : Nat → Value → Prop} {St : Nat → Heap → Prop}
end
section
variable {X : Cx} {e d : Expr} {t tk : TA} {p pos kpos : Pos}
end
end L2
namespace L2
open PySem PySem.Spec PyProof.Rows
section
variable {prog : Program} {w : World} {A : Around} {E : Value → Shared → Prop} {s : Shared}
end
section
variable {prog : Program} {w : World} {A : Around} {R : Result → Shared → Prop} {I : Addr} {fp wr : List Addr} {n : Nat} {P : Nat → Value → Prop} {St : Nat → Heap → Prop}
end
section
variable {X : Cx}
end
end L2
namespace L2
open PySem PySem.Spec PyProof.Rows
section
variable {X : Cx} {tg : Expr}
end
section
variable {X : Cx} {e : Expr} {lo hi : Option Expr} {se : Expr} {te : TE} {tl th ts : TO} {p2 pos : Pos}
end
end L2
namespace L2
open PySem PySem.Spec PyProof.Rows
section
variable {prog : Program} {w : World} {A : Around} {E : Value → Shared → Prop} {s : Shared}
end
section
variable {X : Cx}
end
end L2
namespace L2
open PySem PySem.Spec PyProof.Rows
def cA (mg : Str → Option Value) (x : Str) : Addr := match mg x with
  | some (.ref a) => a
  | _ => 0
theorem cA_of {mg : Str → Option Value} {x : Str} {C : Addr} (h : mg x = some (.ref C)) : cA mg x = C := by
  unfold cA
  rw [h]
structure MTop (K : PySem.W.Frag) (C : Addr) (m qual : Str) (st : Stmt) (ps : List Str) : Prop where
  ex : ∃ f fd, Fun K m qual st f fd ∧ Meth K C m f ∧ ∀ us : List Value, us.length = ps.length → bindArgs fd ⟨us, []⟩ = pure (ps.zip us)
theorem mtop_mk {K : PySem.W.Frag} {C : Addr} {m qual : Str} {st : Stmt} {ps : List Str} {f : Addr} {oc : Value} {od an : Option Addr} {osl : Array (Option Value)} {kV doc pm cdv ct : Value}
    (b : ∀ (kV doc pm : Value) (an : Option Addr) (cdv ct : Value) (us : List Value), us.length = ps.length → bindArgs (PySem.W.fnOf m qual (defArgs st) (defBody st) (defScope st) .none kV doc pm an cdv ct) ⟨us, []⟩ = pure (ps.zip us))
    (a : PySem.W.findIn K (.ref C) m = some (some (.ref f))) (i : PySem.W.isFn K (.ref f) = true)
    (l : K.lookup f = some ⟨oc, od, .func (PySem.W.fnOf m qual (defArgs st) (defBody st) (defScope st) .none kV doc pm an cdv ct), osl⟩) (c : PySem.W.codeIn K cdv qual = true) (k : PySem.W.keepIn K (.ref f) = true) : MTop K C m qual st ps :=
  ⟨f, _, fun_mk (st := st) l c k, ⟨a, i, k⟩, b kV doc pm an cdv ct⟩
structure MDef (P : Program) (w : World) (K : PySem.W.Frag) (mg : Str → Option Value) (base : Heap) (k : Nat) (C : Addr) (m : Str) (ps : List Str) (sp : Sp) : Prop where
  ex : ∃ f fd, FnOk P w K mg base CX0 k f fd ps sp ∧ Meth K C m f ∧ Binds K fd ps []
theorem MTop.ok {P : Program} {w : World} {K : PySem.W.Frag} {mg : Str → Option Value} {base : Heap} {C : Addr} {m qual : Str} {st : Stmt} {N ps : List Str} {k : Nat} {sp : Sp} (T : MTop K C m qual st ps) (S : FnScope N ps (defScope st)) (len : ∀ vs H Q E, sp vs H Q E → vs.length = ps.length)
    (hbody : ∀ (f : Addr) (cdv : Value) (A : Around) (outer : List Env) (s : Shared) (H : Hp) (vs : List V) (Q : VK) (E : XK), Room k (A.deeper (envOfC qual (defScope st) s.heap.objs.size f cdv)) → sp vs H Q E →
      ∃ t, PSs (cxOf CX0 P w K mg base N qual (defScope st) f cdv A outer s H E).nox (defBody st) t ∧ t { nx := fun _ H' => Q .non H', rt := Q } (start N vs) H) : MDef P w K mg base (k + 1) C m ps sp := by
  obtain ⟨f, fd, F, hm, hb⟩ := T.ex
  exact ⟨f, fd, F.ok S len (hbody f), hm, Binds.all hb⟩
section
variable {X : Cx} {k k' : Nat} {C : Addr} {ps ks : List Str} {sp : Sp} {x m : Str} {p pos apos : Pos} {e o : Expr} {es : List Expr} {ta : TE} {t tk : TA} {kws : List Keyword}
structure FunD (K : PySem.W.Frag) (x qual : Str) (st : Stmt) (f : Addr) (fd : FuncData) : Prop where
  ex : ∃ (oc : Value) (od : Option Addr) (dV kV doc pm : Value) (an : Option Addr) (cdv ct : Value) (osl : Array (Option Value)),
    fd = PySem.W.fnOf x qual (defArgs st) (defBody st) (defScope st) dV kV doc pm an cdv ct ∧ K.lookup f = some ⟨oc, od, .func fd, osl⟩ ∧ PySem.W.codeIn K cdv qual = true
theorem FunD.ok {P : Program} {w : World} {K : PySem.W.Frag} {mg : Str → Option Value} {base : Heap} {x qual : Str} {st : Stmt} {f : Addr} {fd : FuncData} {N ps : List Str} {k : Nat} {sp : Sp} (F : FunD K x qual st f fd) (S : FnScope N ps (defScope st)) (len : ∀ vs H Q E, sp vs H Q E → vs.length = ps.length)
    (hbody : ∀ (cdv : Value) (A : Around) (outer : List Env) (s : Shared) (H : Hp) (vs : List V) (Q : VK) (E : XK), Room k (A.deeper (envOfC qual (defScope st) s.heap.objs.size f cdv)) → sp vs H Q E →
      ∃ t, PSs (cxOf CX0 P w K mg base N qual (defScope st) f cdv A outer s H E).nox (defBody st) t ∧ t { nx := fun _ H' => Q .non H', rt := Q } (start N vs) H) : FnOk P w K mg base CX0 (k + 1) f fd ps sp := by
  obtain ⟨oc, od, dV, kV, doc, pm, an, cdv, ct, osl, rfl, lk, hcd⟩ := F.ex
  refine fn_of lk hcd S len fun A outer s H vs Q E hr hsp => ?_
  obtain ⟨t, h, q⟩ := hbody cdv A outer s H vs Q E hr hsp
  exact ⟨t, h.nox, q⟩
structure InitB (K : PySem.W.Frag) (fd : FuncData) (y : Str) (dv : V) : Prop where
  b0 : ∃ u, RelV dv u ∧ Binds K fd ["self", y] [u]
  b1 : Binds K fd ["self", y] []
  bk : ∀ (s : Shared) (v z : Value), K.In s.heap → BindsTo s fd ⟨[v], [(y, z)]⟩ [("self", v), (y, z)]
structure ITop (K : PySem.W.Frag) (C : Addr) (qual y : Str) (st : Stmt) (dv : V) : Prop where
  ex : ∃ f fd, FunD K "__init__" qual st f fd ∧ PySem.W.findIn K (.ref C) "__init__" = some (some (.ref f)) ∧ PySem.W.isFn K (.ref f) = true ∧ InitB K fd y dv
structure IDef (P : Program) (w : World) (K : PySem.W.Frag) (mg : Str → Option Value) (base : Heap) (k : Nat) (C : Addr) (y : Str) (dv : V) (sp : Sp) : Prop where
  ex : ∃ f fd, FnOk P w K mg base CX0 k f fd ["self", y] sp ∧ PySem.W.findIn K (.ref C) "__init__" = some (some (.ref f)) ∧ PySem.W.isFn K (.ref f) = true ∧ InitB K fd y dv
theorem ITop.ok {P : Program} {w : World} {K : PySem.W.Frag} {mg : Str → Option Value} {base : Heap} {C : Addr} {qual y : Str} {st : Stmt} {dv : V} {N : List Str} {k : Nat} {sp : Sp} (T : ITop K C qual y st dv) (S : FnScope N ["self", y] (defScope st)) (len : ∀ vs H Q E, sp vs H Q E → vs.length = (["self", y] : List Str).length)
    (hbody : ∀ (f : Addr) (cdv : Value) (A : Around) (outer : List Env) (s : Shared) (H : Hp) (vs : List V) (Q : VK) (E : XK), Room k (A.deeper (envOfC qual (defScope st) s.heap.objs.size f cdv)) → sp vs H Q E →
      ∃ t, PSs (cxOf CX0 P w K mg base N qual (defScope st) f cdv A outer s H E).nox (defBody st) t ∧ t { nx := fun _ H' => Q .non H', rt := Q } (start N vs) H) : IDef P w K mg base (k + 1) C y dv sp := by
  obtain ⟨f, fd, F, h1, h2, h3⟩ := T.ex
  exact ⟨f, fd, F.ok S len (hbody f), h1, h2, h3⟩
variable {y : Str} {dv : V}
end
end L2
namespace L2
open PySem PySem.Spec PyProof.Rows PySem.W
section
variable {prog : Program} {w : World} {A : Around} {s : Shared} {a : Addr}
end
section
variable {X : Cx}
end
end L2
namespace L2
open PySem PySem.Spec PyProof.Rows
section
variable {X : Cx} {pins : List (Addr × Obj)} {σ : St} {H : Hp} {s : Shared} {a : Addr} {kvs : List (Key × V)} {k : Key} {z : V} {u r : Value} {A : Around} {E : Value → Shared → Prop}
end
section
variable {X : Cx} {o e f : Expr} {apos cpos : Pos} {td ty tx : TE}
end
end L2
namespace L2
open PySem PySem.Spec PyProof.Rows PySem.W
def byTxt (w : World) : Bool := w.params.followText "set-order"
def TxS (P : Program) (w : World) (h : Heap) (a : Addr) (xs : List Str) : Prop :=
  ∃ o es ep t, h.get? a = some o ∧ o.ExactSet ∧ o.data = .set es ep t ∧ ElemsOf (strKind P w) es.toList ∧ es.toList.map (fun e => sOf e.2) = xs ∧ xs.Nodup ∧ es.size < scanBound ∧ t.fits es.size = true ∧ t.led = !byTxt w ∧ (0 < es.size → t.plain = false)
section
variable {P : Program} {w : World} {A : Around} {E : Value → Shared → Prop} {s : Shared} {a : Addr} {xs : List Str}
theorem isStr_key {x : Str} {v : Value} (h : (strKind P w).is x v = true) : sOf v = x ∧ ∃ t, v = .str x t := by
  obtain ⟨t, rfl⟩ := Value.isStrOf_shape (x := x) (v := v) h
  exact ⟨rfl, t, rfl⟩
end
theorem TxS.keep {P : Program} {w : World} {h h' : Heap} {a : Addr} {xs : List Str} (x : TxS P w h a xs) (k : ∀ o, h.get? a = some o → h'.get? a = some o) : TxS P w h' a xs := by
  obtain ⟨o, es, ep, t, ho, r⟩ := x
  exact ⟨o, es, ep, t, k o ho, r⟩
section
variable {prog : Program} {w : World} {A : Around} {R : Result → Shared → Prop} {I : Addr} {fp wr : List Addr} {G : Array GenState → Array GenState → Prop} {n : Nat} {P : Nat → Value → Prop} {St : Nat → Shared → Prop}
def InS (val : Nat → Str) (i : Nat) (ys : List Str) : Prop := (∀ x, x ∈ ys ↔ ∃ j, j < i ∧ val j = x) ∧ ys.length ≤ i
theorem InS.next {val : Nat → Str} {i : Nat} {ys zs : List Str} (h : InS val i ys) (e : if val i ∈ ys then zs = ys else zs.Perm (ys ++ [val i])) : InS val (i + 1) zs := by
  have step : ∀ x, (∃ j, j < i + 1 ∧ val j = x) ↔ (∃ j, j < i ∧ val j = x) ∨ x = val i := fun x => by
    constructor
    · rintro ⟨j, hj, rfl⟩
      rcases Nat.lt_or_ge j i with h1 | h1
      · exact .inl ⟨j, h1, rfl⟩
      · exact .inr (by rw [show j = i by omega])
    · rintro (⟨j, hj, rfl⟩ | rfl)
      · exact ⟨j, by omega, rfl⟩
      · exact ⟨i, Nat.lt_succ_self _, rfl⟩
  by_cases c : val i ∈ ys
  · rw [if_pos c] at e
    subst e
    refine ⟨fun x => ?_, Nat.le_succ_of_le h.2⟩
    rw [step, ← h.1 x]
    exact ⟨.inl, fun z => z.elim id fun q => q ▸ c⟩
  · rw [if_neg c] at e
    refine ⟨fun x => ?_, ?_⟩
    · rw [step, e.mem_iff, List.mem_append, List.mem_singleton, h.1 x]
    · rw [e.length_eq, List.length_append]
      exact Nat.succ_le_succ h.2
end
theorem code_set_newT {prog : Program} {w : World} {A : Around} {E : Value → Shared → Prop} {s : Shared} (a : Value) {Q₁ : Value → Shared → Prop}
    (h : Q₁ (.ref s.heap.objs.size) { s with heap := s.heap.push { cls := .type "set", dict := none, data := .set #[] 0 (.fresh 0 0 (!byTxt w)) } }) :
    codeAny (model prog w) A (.call (.builtin "set.__new__") ⟨[.type "set", a], []⟩) (wants Q₁ E) s := by
  refine codeAny_of_tree ?_
  show wpAny _ A.in1 (do checkBuiltinCall "set.__new__" ⟨[.type "set", a], []⟩; again (.builtin "set.__new__" ⟨[.type "set", a], []⟩)) _ _ s
  refine wpAny_bind (wpAny_of_eq (PySem.F.newCall_set_1 a) (wpAny_pure ⟨plainId_quiet F.plain_set_new _, codeAny_builtin F.entry_set_new ?_⟩))
  rw [Around.under_plainId F.plain_set_new _]
  unfold Builtin.«set.__new__» Builtin.Frozenset.newClass
  have hsub := sub_set_self
  obtain ⟨hp, g, d, tk, os⟩ := s
  dsimp only
  wp_walk
  refine wpAny_askSetting (wpAny_pure ?_)
  dsimp only
  simp only [newObj]
  refine wpAny_bind (wpAny_alloc (wpAny_pure ?_))
  exact wpAny_pure h
theorem sub_list_set' : isSubtype (.type "list") (.type "set") = pure false := by rw [isSubtype_type]; kernel_rfl
theorem sub_list_frozenset' : isSubtype (.type "list") (.type "frozenset") = pure false := by rw [isSubtype_type]; kernel_rfl
section
variable {prog : Program} {w : World} {A : Around} {E : Value → Shared → Prop} {s : Shared}
end
section
variable {prog : Program} {w : World} {A : Around} {E : Value → Shared → Prop} {s : Shared}
end
end L2
namespace L2
open PySem PySem.Spec PyProof.Rows PySem.W
theorem erase_perm {α : Type} : ∀ (l : List α) (i : Nat) (h : i < l.length), (l[i] :: l.eraseIdx i).Perm l
  | x :: r, 0, _ => .refl _
  | x :: r, i + 1, h => (List.Perm.swap x _ _).trans (List.Perm.cons x (erase_perm r i (Nat.lt_of_succ_lt_succ h)))
section
variable {M : Model} {A : Around} {E : Value → Shared → Prop}
theorem choose_any {s : Shared} {src : Source} {n : Nat} {Q : Nat → Shared → Prop} (hn : n ≠ 0) (h : ∀ i d, i < n → Q i { s with drawn := d }) : wpAny M A (choose src n) Q E s :=
  fun _ _ _ => ⟨hn, h _ _ (Nat.mod_lt _ (Nat.pos_of_ne_zero hn))⟩
theorem draw_any {α : Type} : ∀ (n : Nat) (xs : List α) (s : Shared) (Q : List α → Shared → Prop), n = xs.length → (∀ ys d, ys.Perm xs → Q ys { s with drawn := d }) → wpAny M A (drawOrder n xs) Q E s
  | 0, xs, s, Q, e, h => by
    have : xs = [] := List.length_eq_zero_iff.mp e.symm
    subst this
    exact wpAny_pure (h [] s.drawn (.refl _))
  | n + 1, [], s, Q, e, h => by cases e
  | n + 1, x :: r, s, Q, e, h => by
    unfold drawOrder
    refine wpAny_bind (choose_any (by simp) fun i d hi => ?_)
    have hx : (x :: r)[i]? = some (x :: r)[i] := List.getElem?_eq_getElem hi
    rw [hx]
    dsimp only
    refine wpAny_bind (draw_any n _ _ _ (by rw [List.length_eraseIdx, if_pos hi]; exact (Nat.succ.inj e)) fun ys d2 hp => wpAny_pure ?_)
    exact h _ d2 ((List.Perm.cons _ hp).trans (erase_perm _ _ hi))
end
theorem pick_go {α : Type} (next : Nat → Nat) : ∀ (n k : Nat) (left : List α) (out : Array α), n = left.length → (pickOrder.go next n k left out).toList.Perm (out.toList ++ left)
  | 0, k, left, out, e => by
    have : left = [] := List.length_eq_zero_iff.mp e.symm
    subst this
    unfold pickOrder.go
    rw [List.append_nil]
  | n + 1, k, left, out, e => by
    unfold pickOrder.go
    have hi : next k % left.length < left.length := Nat.mod_lt _ (by omega)
    rw [List.getElem?_eq_getElem hi]
    dsimp only
    refine (pick_go next n (k + 1) _ _ (by rw [List.length_eraseIdx, if_pos hi]; omega)).trans ?_
    rw [Array.toList_push, List.append_assoc]
    exact List.Perm.append_left _ (erase_perm _ _ hi)
theorem pick_perm {α : Type} (next : Nat → Nat) (xs : Array α) : (pickOrder next xs).toList.Perm xs.toList := by
  unfold pickOrder
  have := pick_go next xs.size 0 xs.toList #[] (by simp)
  simpa using this
section
variable {prog : Program} {w : World} {A : Around} {E : Value → Shared → Prop} {s : Shared} {a : Addr}
theorem wp_setDrawn {o : Obj} {es : Array (Int × Value)} {ep : Nat} {t : SetTable} {Q : Bool → Shared → Prop} (ho : s.heap.get? a = some o) (hd : o.data = .set es ep t) (hf : t.fits es.size = true) (h : Q (!byTxt w && (!t.plain && decide (es.size > 1))) s) :
    wpAny (model prog w) A (setDrawn a) Q E s := by
  unfold setDrawn setsByText
  refine wpAny_bind (wpAny_setState_of ho hd hf ?_)
  exact wpAny_bind (wpAny_bind (wpAny_askSetting (wpAny_pure (wpAny_pure h))))
end
end L2
namespace L2
open PySem PySem.Spec PyProof.Rows PySem.W
theorem slot_si_next : Slot "set_iterator" "__next__" "set_iterator.__next__" :=
  .of (owner := "set_iterator") (n := "__next__") (by rw [typeLookup_type, builtinLookup_eq_fast]; kernel_rfl) (by decide +kernel) (by decide +kernel) (by decide +kernel)
    (by first | exact .inl (by decide +kernel) | exact .inr (by decide +kernel)) (by rw [isSubtype_type]; kernel_rfl)
theorem entry_si_next : entryFor table "set_iterator.__next__" = some Builtin.«set_iterator.__next__» := entryFor_of_tree (by kernel_rfl)
theorem owner_si : Manifest.owners.lookup (String.ofList ['r', 'o', 't', 'a', 'r', 'e', 't', 'i', '_', 't', 'e', 's'].reverse) = some Manifest.sig_set_iterator := by kernel_rfl
theorem args_si_next (a : Value) : argsOk "set_iterator.__next__" ⟨[a], []⟩ := by
  unfold argsOk
  rw [signature?_of (id := "set_iterator.__next__") (n := ['_', '_', 't', 'x', 'e', 'n', '_', '_']) (o := ['r', 'o', 't', 'a', 'r', 'e', 't', 'i', '_', 't', 'e', 's']) (by kernel_rfl) owner_si]
  kernel_rfl
theorem entry_set_iter : entryFor table "set.__iter__" = some Builtin.«frozenset.__iter__» := entryFor_alias (id' := "frozenset.__iter__") (by kernel_rfl) rfl (by decide +kernel) (by kernel_rfl)
section
variable {prog : Program} {w : World} {A : Around} {E : Value → Shared → Prop} {s : Shared} {a I : Addr} {es : Array (Int × Value)} {ep : Nat} {t : SetTable}
def siObj (first : Value) (i : Nat) (a : Addr) (n ep : Nat) : Obj := { cls := .type "set_iterator", data := .fields #[first, .int i 0, .ref a, .int n 0, .int ep 0] }
def tupOf (ps : List Nat) : Obj := { cls := .type "tuple", data := .seq (ps.map fun (i : Nat) => rawInt i).toArray }
theorem txs_iter {o : Obj} {Q : Value → Shared → Prop} (ho : s.heap.get? a = some o) (hex : o.ExactSet) (hd : o.data = .set es ep t) (hf : t.fits es.size = true) (hsz : es.size ≤ sizeLine)
    (h1 : (!byTxt w && (!t.plain && decide (es.size > 1))) = true → ∀ (ps : List Nat) (d : Drawn), ps.Perm (List.range es.size) → Q (.ref (s.heap.objs.size + 1)) { s with heap := (s.heap.push (tupOf ps)).push (siObj (.ref s.heap.objs.size) 0 a es.size ep), drawn := d })
    (h0 : (!byTxt w && (!t.plain && decide (es.size > 1))) = false → Q (.ref s.heap.objs.size) { s with heap := s.heap.push (siObj (.int 0 0) 0 a es.size ep) }) : wpAny (model prog w) A (pyIter (.ref a)) Q E s := by
  have ty : s.TypeIs (.ref a) "set" := ⟨o, ho, hex.1⟩
  refine wpAny_pyIter_slot ty PySem.F.slot_set_iter (wpAny_call_entry PySem.F.slot_set_iter ty entry_set_iter ?_ (PySem.F.args_set_iter_1 _))
  unfold Builtin.«frozenset.__iter__» Builtin.Frozenset.slot0 Builtin.Frozenset.sizeOf
  refine wpAny_bind (wpAny_bind ?_)
  show wpAny _ _ (pure (Value.ref a, ([] : List Value))) _ _ s
  refine wpAny_pure ?_
  refine wpAny_pure ?_
  refine wpAny_bind (wpAny_bind (wpAny_setEntries_of ho hd hf (wpAny_pure ?_)))
  refine wpAny_bind (wp_setDrawn ho hd hf ?_)
  have fin : ∀ (first : Value) (s2 : Shared), (∀ oo, s.heap.get? a = some oo → s2.heap.get? a = some oo) → Q (.ref s2.heap.objs.size) { s2 with heap := s2.heap.push (siObj first 0 a es.size ep) } →
      wpAny (model prog w) A.in1 (do ret (← newFields "set_iterator" [first, rawInt 0, .ref a, rawInt es.size, rawInt (← setEpoch a)])) (fun fin s' => ∃ v, fin = Fin.done (Flow.ret v) ∧ ∃ T' r, s'.TypeIs v T' ∧ typeLookup (.type T') "__next__" = pure (some r) ∧ Q v s') E s2 := fun first s2 hk hq => by
    refine wpAny_bind (wpAny_setEpoch_of (hk _ ho) hd hf ?_)
    refine wpAny_bind (wpAny_newObj_type (wpAny_pure ⟨_, rfl, "set_iterator", _, ⟨_, Heap.get?_push_size _ rfl, rfl⟩, slot_si_next.lookup, ?_⟩))
    simpa [rawInt, siObj] using hq
  cases hc : (!byTxt w && (!t.plain && decide (es.size > 1))) with
  | true =>
    simp only [if_true]
    refine wpAny_bind (draw_any es.size _ _ _ (by simp) fun ps d hp => ?_)
    simp only [newTuple]
    refine wpAny_bind (wpAny_newObj_type ?_ ?_)
    · refine fin _ _ (fun oo e => Heap.get?_push_of_some _ e) ?_
      have := h1 hc ps d hp
      show Q (.ref (s.heap.push (tupOf ps)).objs.size) { s with heap := (s.heap.push (tupOf ps)).push (siObj (.ref s.heap.objs.size) 0 a es.size ep), drawn := d }
      rw [Heap.size_push]
      exact this
    · show (List.map (fun (i : Nat) => rawInt i) ps).toArray.size ≤ sizeLine
      rw [List.size_toArray, List.length_map, hp.length_eq, List.length_range]
      exact hsz
  | false =>
    simp only [Bool.false_eq_true, if_false]
    refine wpAny_bind (wpAny_pure ?_)
    exact fin _ s (fun _ e => e) (h0 hc)
end
end L2
namespace L2
open PySem PySem.Spec PyProof.Rows PySem.W
section
variable {prog : Program} {w : World} {A : Around} {E : Value → Shared → Prop} {s : Shared} {a I T : Addr} {es : Array (Int × Value)} {ep i : Nat} {t : SetTable} {o : Obj}
theorem si_item_drawn {ps : List Nat} {p : Nat} {h : Int} {x : Value} {Q : Option Value → Shared → Prop} (hI : s.heap.get? I = some (siObj (.ref T) i a es.size ep)) (hT : s.heap.get? T = some (tupOf ps)) (ho : s.heap.get? a = some o) (hd : o.data = .set es ep t) (hf : t.fits es.size = true)
    (hp : ps[i]? = some p) (hx : es[p]? = some (h, x))
    (q : ∀ h', h'.get? I = some (siObj (.ref T) (i + 1) a es.size ep) → Heap.SameBut I s.heap h' → Q (some x) { s with heap := h' }) : wpAny (model prog w) A (pyNext (.ref I)) Q E s := by
  have ty : s.TypeIs (.ref I) "set_iterator" := ⟨_, hI, rfl⟩
  unfold pyNext
  refine wpAny_bind (wpAny_attempt (wpAny_callSpecial?_slot (name := Str.ofString "__next__") ty slot_si_next (wpAny_call_entry slot_si_next ty entry_si_next ?_ (args_si_next _))))
  unfold Builtin.«set_iterator.__next__»
  refine wpAny_bind (wpAny_pure ?_)
  refine wpAny_bind (wpAny_fieldsOf hI rfl ?_)
  dsimp only [List.toList_toArray]
  refine wpAny_bind (wpAny_setEntries_of ho hd hf ?_)
  rw [if_neg (by simp)]
  have hps : ((ps.map fun (i : Nat) => rawInt i).toArray)[i]? = some (rawInt p) := by
    rw [List.getElem?_toArray, List.getElem?_map, hp]
    rfl
  refine wpAny_bind (wpAny_seqItems hT rfl ?_)
  dsimp only
  rw [Int.toNat_natCast, hps]
  show wpAny _ _ (setNextDrawn a ((p : Int)).toNat ((ep : Int)).toNat >>= _) _ _ s
  rw [Int.toNat_natCast, Int.toNat_natCast]
  unfold setNextDrawn
  refine wpAny_bind (wpAny_bind (wpAny_setState_of ho hd hf ?_))
  dsimp only
  rw [if_neg (by simp), hx]
  refine wpAny_pure ?_
  refine wpAny_bind (wpAny_setField hI rfl (by simp) ?_)
  refine wpAny_pure ⟨_, rfl, wpAny_pure (q _ ?_ (Heap.SameBut.update ..))⟩
  have := Heap.get?_update_self (Obj.mapFields (·.setIfInBounds 1 (rawInt ((i : Int) + 1)))) hI rfl
  exact this
theorem raise_stop {Q : Option Value → Shared → Prop} (hh : A.handled = none) (q : ∀ h', (∀ b o, s.heap.get? b = some o → h'.get? b = some o) → Q none { s with heap := h' }) :
    wpAny (model prog w) A.in1 (newExc (.type "StopIteration") [] >>= raiseNew (α := Fin)) (fun fin s' => ∃ v, fin = Fin.done (Flow.ret v) ∧ wpAny (model prog w) A (pure (some v)) Q E s')
      (fun e s' => wpAny (model prog w) A (do let d ← isInstance e (.type "StopIteration"); if d = true then pure none else throw e) Q E s') s := by
  refine wpAny_bind ?_
  simp only [newExc, newTuple]
  refine wpAny_bind (wpAny_newObj_type ?_ (by size_fits))
  refine wpAny_bind (m := firstArgMember _ _) (wpAny_of_eq (a := Value.none) (by first | rfl | (simp only [firstArgMember]; rfl)) ?_)
  refine wpAny_newObj_type ?_ (by size_fits)
  simp only [raiseNew]
  refine wpAny_bind (wpAny_handled ?_)
  rw [show A.in1.handled = none from hh]
  refine wpAny_bind (wpAny_pure (wpAny_throw ?_))
  refine wpAny_bind (wpAny_isInstance (T := "StopIteration") (b := true) ⟨_, Heap.get?_push_size _ rfl, rfl⟩ isSubtype_stop ?_)
  exact wpAny_pure (q _ fun b o e => Heap.get?_push_of_some _ (Heap.get?_push_of_some _ e))
theorem si_end_drawn {ps : List Nat} {Q : Option Value → Shared → Prop} (hh : A.handled = none) (hI : s.heap.get? I = some (siObj (.ref T) i a es.size ep)) (hT : s.heap.get? T = some (tupOf ps)) (ho : s.heap.get? a = some o) (hd : o.data = .set es ep t) (hf : t.fits es.size = true)
    (hp : ps[i]? = none) (q : ∀ h', (∀ b o, b ≠ I → s.heap.get? b = some o → h'.get? b = some o) → Q none { s with heap := h' }) : wpAny (model prog w) A (pyNext (.ref I)) Q E s := by
  have ty : s.TypeIs (.ref I) "set_iterator" := ⟨_, hI, rfl⟩
  unfold pyNext
  refine wpAny_bind (wpAny_attempt (wpAny_callSpecial?_slot (name := Str.ofString "__next__") ty slot_si_next (wpAny_call_entry slot_si_next ty entry_si_next ?_ (args_si_next _))))
  unfold Builtin.«set_iterator.__next__»
  refine wpAny_bind (wpAny_pure ?_)
  refine wpAny_bind (wpAny_fieldsOf hI rfl ?_)
  dsimp only [List.toList_toArray]
  refine wpAny_bind (wpAny_setEntries_of ho hd hf ?_)
  rw [if_neg (by simp)]
  have hps : ((ps.map fun (i : Nat) => rawInt i).toArray)[i]? = none := by
    rw [List.getElem?_toArray, List.getElem?_map, hp]
    rfl
  refine wpAny_bind (wpAny_seqItems hT rfl ?_)
  dsimp only
  rw [Int.toNat_natCast, hps]
  dsimp only
  have g1 := Heap.get?_update_self (Obj.mapFields (·.setIfInBounds 0 (rawInt 0))) hI rfl
  refine wpAny_bind (wpAny_setField hI rfl (by simp) ?_)
  refine wpAny_bind (wpAny_setField g1 rfl (by simp) ?_)
  refine raise_stop hh fun h' k => q h' fun b o hb e => k b o ?_
  exact (((Heap.SameBut.update ..).trans (Heap.SameBut.update ..)).2 b hb).trans e
def NextIs (w : World) (a : Addr) (es : Array (Int × Value)) (ep : Nat) (t : SetTable) (k i : Nat) (nx : Option (Value × Nat)) : Prop :=
  (byTxt w = true ∧ nx = ((pickOrder (w.params.setOrder a ep) es)[i]?).map fun e => (e.2, k)) ∨
  (byTxt w = false ∧ (!t.plain && decide (es.size > 1)) = false ∧ (!t.led && !es.isEmpty) = false ∧ nx = match es[SetTable.below t.place k]?, t.place[SetTable.below t.place k]? with
    | some (_, x), some j => some (x, j + 1)
    | _, _ => none)
theorem si_first {k : Nat} {nx : Option (Value × Nat)} {Q : Option Value → Shared → Prop} (hh : A.handled = none) (hI : s.heap.get? I = some (siObj (.int k 0) i a es.size ep)) (ho : s.heap.get? a = some o) (hd : o.data = .set es ep t) (hf : t.fits es.size = true) (hn : NextIs w a es ep t k i nx)
    (q1 : ∀ x j h', nx = some (x, j) → h'.get? I = some (siObj (.int j 0) (i + 1) a es.size ep) → Heap.SameBut I s.heap h' → Q (some x) { s with heap := h' })
    (q0 : nx = none → ∀ h', (∀ b o, b ≠ I → s.heap.get? b = some o → h'.get? b = some o) → Q none { s with heap := h' }) : wpAny (model prog w) A (pyNext (.ref I)) Q E s := by
  have ty : s.TypeIs (.ref I) "set_iterator" := ⟨_, hI, rfl⟩
  unfold pyNext
  refine wpAny_bind (wpAny_attempt (wpAny_callSpecial?_slot (name := Str.ofString "__next__") ty slot_si_next (wpAny_call_entry slot_si_next ty entry_si_next ?_ (args_si_next _))))
  unfold Builtin.«set_iterator.__next__»
  refine wpAny_bind (wpAny_pure ?_)
  refine wpAny_bind (wpAny_fieldsOf hI rfl ?_)
  dsimp only [List.toList_toArray]
  refine wpAny_bind (wpAny_setEntries_of ho hd hf ?_)
  rw [if_neg (by simp)]
  refine wpAny_bind ?_
  have fin1 : ∀ x (j : Nat), nx = some (x, j) → wpAny (model prog w) A.in1 (do
          setField (Value.ref I) 0 (rawInt j)
          setField (Value.ref I) 1 (rawInt ((i : Int) + 1))
          ret x) (fun fin s' => ∃ v, fin = Fin.done (Flow.ret v) ∧ wpAny (model prog w) A (pure (some v)) Q E s')
        (fun e s' => wpAny (model prog w) A (do let d ← isInstance e (.type "StopIteration"); if d = true then pure none else throw e) Q E s') s := fun x j en => by
    have g1 := Heap.get?_update_self (Obj.mapFields (·.setIfInBounds 0 (rawInt j))) hI rfl
    have g2 := Heap.get?_update_self (Obj.mapFields (·.setIfInBounds 1 (rawInt ((i : Int) + 1)))) g1 rfl
    refine wpAny_bind (wpAny_setField hI rfl (by simp) ?_)
    refine wpAny_bind (wpAny_setField g1 rfl (by simp) ?_)
    exact wpAny_pure ⟨_, rfl, wpAny_pure (q1 x j _ en g2 ((Heap.SameBut.update ..).trans (Heap.SameBut.update ..)))⟩
  have fin0 : nx = none → wpAny (model prog w) A.in1 (do
          setField (Value.ref I) 2 Value.none
          let d ← newExc (Value.type "StopIteration") []
          raiseNew d) (fun fin s' => ∃ v, fin = Fin.done (Flow.ret v) ∧ wpAny (model prog w) A (pure (some v)) Q E s')
        (fun e s' => wpAny (model prog w) A (do let d ← isInstance e (.type "StopIteration"); if d = true then pure none else throw e) Q E s') s := fun en => by
    refine wpAny_bind (wpAny_setField hI rfl (by simp) ?_)
    refine raise_stop hh fun h' k => q0 en h' fun b o hb e => k b o ?_
    exact ((Heap.SameBut.update ..).2 b hb).trans e
  unfold setNext
  refine wpAny_bind (wpAny_setState_of ho hd hf ?_)
  unfold setsByText
  refine wpAny_bind (wpAny_bind (wpAny_askSetting (wpAny_pure ?_)))
  rcases hn with ⟨hb, hnx⟩ | ⟨hb, h1, h2, hnx⟩
  · rw [if_pos (show ({ program := (model prog w).prog, params := (model prog w).w.params } : Setting).params.followText "set-order" = true from hb)]
    dsimp only
    rw [if_neg (by simp)]
    unfold setWalk
    refine wpAny_bind (wpAny_bind (wpAny_setState_of ho hd hf ?_))
    unfold setsByText
    refine wpAny_bind (wpAny_bind (wpAny_askSetting (wpAny_pure ?_)))
    rw [if_pos (show ({ program := (model prog w).prog, params := (model prog w).w.params } : Setting).params.followText "set-order" = true from hb)]
    refine wpAny_bind (wpAny_askSetting (wpAny_pure (wpAny_pure ?_)))
    dsimp only
    have e' : (pickOrder ((model prog w).w.params.setOrder a ep) es)[(i : Int).toNat]? = (pickOrder (w.params.setOrder a ep) es)[i]? := by
      rw [Int.toNat_natCast]
      rfl
    rw [e']
    cases e : (pickOrder (w.params.setOrder a ep) es)[i]? with
    | none =>
      rw [e] at hnx
      exact fin0 hnx
    | some y =>
      rw [e] at hnx
      exact fin1 y.2 _ hnx
  · rw [if_neg (show ¬ ({ program := (model prog w).prog, params := (model prog w).w.params } : Setting).params.followText "set-order" = true from by rw [show ({ program := (model prog w).prog, params := (model prog w).w.params } : Setting).params.followText "set-order" = false from hb]; exact Bool.false_ne_true)]
    dsimp only
    show wpAny _ _ (if (!t.plain && decide (es.size > 1)) = true then _ else _) _ _ s
    rw [if_neg (by rw [h1]; exact Bool.false_ne_true)]
    show wpAny _ _ ((if (!t.led && !es.isEmpty) = true then unsupported _ else pure ()) >>= _) _ _ s
    rw [if_neg (by rw [h2]; exact Bool.false_ne_true)]
    refine wpAny_bind (wpAny_pure (wpAny_pure ?_))
    rw [Int.toNat_natCast]
    cases e1 : es[SetTable.below t.place k]? with
    | none =>
      rw [e1] at hnx
      exact fin0 hnx
    | some y =>
      cases e2 : t.place[SetTable.below t.place k]? with
      | none =>
        rw [e1, e2] at hnx
        exact fin0 hnx
      | some j =>
        rw [e1, e2] at hnx
        exact fin1 y.2 _ hnx
end
end L2
namespace L2
open PySem PySem.Spec PyProof.Rows PySem.W
theorem slot_si_iter : Slot "set_iterator" "__iter__" "set_iterator.__iter__" :=
  .of (owner := "set_iterator") (n := "__iter__") (by rw [typeLookup_type, builtinLookup_eq_fast]; kernel_rfl) (by decide +kernel) (by decide +kernel) (by decide +kernel)
    (by first | exact .inl (by decide +kernel) | exact .inr (by decide +kernel)) (by rw [isSubtype_type]; kernel_rfl)
theorem entry_si_iter : entryFor table "set_iterator.__iter__" = some Builtin.«dict_keyiterator.__iter__» := entryFor_alias (id' := "dict_keyiterator.__iter__") (by kernel_rfl) rfl (by decide +kernel) (by kernel_rfl)
theorem args_si_iter (a : Value) : argsOk "set_iterator.__iter__" ⟨[a], []⟩ := by
  unfold argsOk
  rw [signature?_of (id := "set_iterator.__iter__") (n := ['_', '_', 'r', 'e', 't', 'i', '_', '_']) (o := ['r', 'o', 't', 'a', 'r', 'e', 't', 'i', '_', 't', 'e', 's']) (by kernel_rfl) owner_si]
  kernel_rfl
section
variable {prog : Program} {w : World} {A : Around} {E : Value → Shared → Prop} {s : Shared} {a I T : Addr} {es : Array (Int × Value)} {ep : Nat} {t : SetTable} {o : Obj}
theorem si_self {first : Value} {i n : Nat} {Q : Value → Shared → Prop} (hI : s.heap.get? I = some (siObj first i a n ep)) (h : Q (.ref I) s) : wpAny (model prog w) A (pyIter (.ref I)) Q E s := by
  have ty : s.TypeIs (.ref I) "set_iterator" := ⟨_, hI, rfl⟩
  refine wpAny_pyIter_slot ty slot_si_iter (wpAny_call_entry slot_si_iter ty entry_si_iter ?_ (args_si_iter _))
  show wpAny _ _ (ret (.ref I)) _ _ s
  exact wpAny_pure ⟨_, rfl, "set_iterator", _, ty, slot_si_next.lookup, h⟩
theorem drawn_walks {ps : List Nat} (hh : A.handled = none) (hT : T ≠ I) (ha : a ≠ I) (hd : o.data = .set es ep t) (hf : t.fits es.size = true) (hp : ps.Perm (List.range es.size)) :
    Walks prog w A I [I, T, a] [I] es.size (fun i v => ∃ p h, ps[i]? = some p ∧ es[p]? = some (h, v)) (fun i h => h.get? I = some (siObj (.ref T) i a es.size ep) ∧ h.get? T = some (tupOf ps) ∧ h.get? a = some o) where
  sub := fun b hb => by simp at hb; simp [hb]
  frame := fun _ _ _ st hk => ⟨hk I (by simp) _ st.1, hk T (by simp) _ st.2.1, hk a (by simp) _ st.2.2⟩
  item := fun i s Q E hi st hQ => by
    have pl : ps.length = es.size := by rw [hp.length_eq, List.length_range]
    have h1 : ps[i]? = some (ps[i]'(by omega)) := List.getElem?_eq_getElem (by omega)
    have hm : ps[i]'(by omega) < es.size := List.mem_range.mp (hp.mem_iff.mp (List.getElem_mem (by omega)))
    generalize ps[i]'(by omega) = p at h1 hm
    have h2 : es[p]? = some es[p] := Array.getElem?_eq_getElem hm
    refine si_item_drawn (h := es[p].1) (x := es[p].2) st.1 st.2.1 st.2.2 hd hf h1 h2 fun h' g hs => ?_
    exact hQ _ h' s.toks ⟨p, es[p].1, h1, h2⟩ ⟨g, (hs.2 T hT).trans st.2.1, (hs.2 a ha).trans st.2.2⟩ fun b o hb e => (hs.2 b (fun z => hb (by simp [z]))).trans e
  done := fun s Q E st hQ => by
    have pl : ps.length = es.size := by rw [hp.length_eq, List.length_range]
    exact si_end_drawn hh st.1 st.2.1 st.2.2 hd hf (List.getElem?_eq_none (by omega)) fun h' k => hQ h' s.toks fun b o hb e => k b o (fun z => hb (by simp [z])) e
  self := fun _ _ _ _ st hQ => si_self st.1 hQ
theorem text_walks (hh : A.handled = none) (ha : a ≠ I) (hd : o.data = .set es ep t) (hf : t.fits es.size = true) (hb : byTxt w = true) :
    Walks prog w A I [I, a] [I] es.size (fun i v => ∃ e, (pickOrder (w.params.setOrder a ep) es)[i]? = some e ∧ v = e.2) (fun i h => h.get? I = some (siObj (.int 0 0) i a es.size ep) ∧ h.get? a = some o) where
  sub := fun b hb => by simp at hb; simp [hb]
  frame := fun _ _ _ st hk => ⟨hk I (by simp) _ st.1, hk a (by simp) _ st.2⟩
  item := fun i s Q E hi st hQ => by
    have pl : (pickOrder (w.params.setOrder a ep) es).size = es.size := by rw [← Array.length_toList, (pick_perm _ _).length_eq, Array.length_toList]
    have h1 : (pickOrder (w.params.setOrder a ep) es)[i]? = some ((pickOrder (w.params.setOrder a ep) es)[i]'(by omega)) := Array.getElem?_eq_getElem (by omega)
    refine si_first (k := 0) hh st.1 st.2 hd hf (.inl ⟨hb, rfl⟩) (fun x j h' en g hs => ?_) fun en => ?_
    · rw [h1] at en
      cases en
      exact hQ _ h' s.toks ⟨_, h1, rfl⟩ ⟨g, (hs.2 a ha).trans st.2⟩ fun b o hb e => (hs.2 b (fun z => hb (by simp [z]))).trans e
    · rw [h1] at en
      cases en
  done := fun s Q E st hQ => by
    have pl : (pickOrder (w.params.setOrder a ep) es).size = es.size := by rw [← Array.length_toList, (pick_perm _ _).length_eq, Array.length_toList]
    have h1 : (pickOrder (w.params.setOrder a ep) es)[es.size]? = none := Array.getElem?_eq_none (by omega)
    refine si_first (k := 0) hh st.1 st.2 hd hf (.inl ⟨hb, rfl⟩) (fun x j h' en g hs => ?_) fun en h' k => hQ h' s.toks fun b o hb e => k b o (fun z => hb (by simp [z])) e
    rw [h1] at en
    cases en
  self := fun _ _ _ _ st hQ => si_self st.1 hQ
theorem few_walks (hh : A.handled = none) (ha : a ≠ I) (hd : o.data = .set es ep t) (hf : t.fits es.size = true) (hb : byTxt w = false) (hl : t.led = true) (h1 : es.size ≤ 1) :
    Walks prog w A I [I, a] [I] es.size (fun i v => ∃ e, es[i]? = some e ∧ v = e.2) (fun i h => h.get? I = some (siObj (.int (((if i = 0 then 0 else t.place.getD 0 0 + 1) : Nat) : Int) 0) i a es.size ep) ∧ h.get? a = some o) where
  sub := fun b hb => by simp at hb; simp [hb]
  frame := fun _ _ _ st hk => ⟨hk I (by simp) _ st.1, hk a (by simp) _ st.2⟩
  item := fun i s Q E hi st hQ => by
    have i0 : i = 0 := by omega
    subst i0
    have ps : t.place.size = es.size := by
      unfold SetTable.fits at hf
      simp at hf
      exact hf.1
    have e1 : es[0]? = some (es[0]'(by omega)) := Array.getElem?_eq_getElem (by omega)
    have e2 : t.place[0]? = some (t.place.getD 0 0) := by
      rw [Array.getElem?_eq_getElem (by omega)]
      simp [Array.getD, show 0 < t.place.size by omega]
    have eb : SetTable.below t.place 0 = 0 := by
      unfold SetTable.below
      rw [show t.place.size = 1 by omega]
      simp [SetTable.below.go]
    refine si_first (k := 0) hh st.1 st.2 hd hf (.inr ⟨hb, by simp; omega, by rw [hl]; rfl, rfl⟩) (fun x j h' en g hs => ?_) fun en => ?_
    · rw [eb, e1, e2] at en
      cases en
      exact hQ _ h' s.toks ⟨_, e1, rfl⟩ ⟨g, (hs.2 a ha).trans st.2⟩ fun b o hb e => (hs.2 b (fun z => hb (by simp [z]))).trans e
    · rw [eb, e1, e2] at en
      cases en
  done := fun s Q E st hQ => by
    have ps : t.place.size = es.size := by
      unfold SetTable.fits at hf
      simp at hf
      exact hf.1
    refine si_first hh st.1 st.2 hd hf (.inr ⟨hb, by simp; omega, by rw [hl]; rfl, rfl⟩) (fun x j h' en g hs => ?_) fun en h' k => hQ h' s.toks fun b o hb e => k b o (fun z => hb (by simp [z])) e
    have e0 : es[SetTable.below t.place (if es.size = 0 then 0 else t.place.getD 0 0 + 1)]? = none := by
      by_cases z : es.size = 0
      · exact Array.getElem?_eq_none (by omega)
      · rw [if_neg z]
        have : SetTable.below t.place (t.place.getD 0 0 + 1) = 1 := by
          unfold SetTable.below
          rw [show t.place.size = 1 by omega]
          simp [SetTable.below.go, Array.getD, show 0 < t.place.size by omega]
        rw [this]
        exact Array.getElem?_eq_none (by omega)
    rw [e0] at en
    cases en
  self := fun _ _ _ _ st hQ => si_self st.1 hQ
end
end L2
namespace L2
open PySem PySem.Spec PyProof.Rows PySem.W
section
variable {prog : Program} {w : World} {A : Around} {E : Value → Shared → Prop} {s : Shared} {a : Addr} {xs : List Str}
theorem set_hint {Q : Bool → Shared → Prop} (hT : s.TypeIs (.ref a) "set") (h : Q false s) : wpAny (model prog w) A (Builtin.List.listLengthHint (.ref a)) Q E s := by
  unfold Builtin.List.listLengthHint
  refine wpAny_bind (wpAny_specialOf hT PySem.F.slot_set_len.lookup ?_)
  generalize hid : ("set.__len__" : String) = id0
  wp_delta
  rw [show splitId id0 = some ("set", "__len__") from by subst hid; decide +kernel]
  subst hid
  refine wpAny_bind (wpAny_isInstance (T := "set") (b := true) hT (by rw [isSubtype_type]; kernel_rfl) ?_)
  refine wpAny_ite_split (fun hab => absurd hab (by decide)) (fun _ => ?_)
  refine wpAny_ite_split (fun _ => ?_) (fun hab => absurd (by decide +kernel) hab)
  refine wpAny_bind (wpAny_typeOf hT ?_)
  exact wpAny_pure h
theorem items_map {α : Type} {L : List α} {f : α → Value} {P : Nat → Value → Prop} {acc : Array Value} {n : Nat} (hn : n = L.length) (hP : ∀ i v, P i v → ∃ e, L[i]? = some e ∧ v = f e) (ha : ItemsOf P acc n) : acc.toList = L.map f := by
  apply List.ext_getElem?
  intro j
  rw [List.getElem?_map, Array.getElem?_toList]
  cases e : acc[j]? with
  | some v =>
    obtain ⟨e', he, rfl⟩ := hP j v (ha.2 j v e)
    rw [he]
    rfl
  | none =>
    have : acc.size ≤ j := by simpa using e
    rw [ha.1] at this
    rw [List.getElem?_eq_none (by omega)]
    rfl
end
end L2
namespace L2
open PySem PySem.Spec PyProof.Rows PySem.W
section
variable {prog : Program} {w : World} {A : Around} {E : Value → Shared → Prop} {s : Shared} {a : Addr} {xs : List Str}
theorem sorted_anyG {x : Value} {Pv : List Value → Prop} {rk : List Value → Value → Int} {Q : Value → Shared → Prop} (hz : ∀ vs, Pv vs → vs.length ≤ sizeLine)
    (hc : ∀ (A' : Around) (E' : Value → Shared → Prop) (R : List Value → Shared → Prop), A'.handled = A.handled → (∀ vs h' tk d, Pv vs → (∀ b o, s.heap.get? b = some o → h'.get? b = some o) → s.heap.objs.size ≤ h'.objs.size → R vs { s with heap := h', toks := tk, drawn := d }) → wpAny (model prog w) A' (collect x) R E' s)
    (hk : ∀ (vs : List Value) (A' : Around) (s' : Shared) (a : Addr), Pv vs → A'.units ≤ A.units + 4 → s.heap.objs.size ≤ a → (∀ b o, s.heap.get? b = some o → s'.heap.get? b = some o) → Tim.Keys prog w A' s' a vs (rk vs))
    (h : ∀ (vs : List Value) (out : Array Value) (l : Addr) (n : Nat) (h' : Heap) (tk : Nat) (d : Drawn), Pv vs → Tim.Sorted (rk vs) vs out.toList → (∀ b o, s.heap.get? b = some o → h'.get? b = some o) → s.heap.objs.size ≤ l → h'.get? l = some (seqObj "list" out n) → Q (.ref l) { s with heap := h', toks := tk, drawn := d }) :
    wpAny (model prog w) A (call (.builtin "sorted") [x]) Q E s := by
  refine Calls.call_function_entry kind_sorted plain_sorted entry_sorted (args_sorted1 _) ?_
  unfold Builtin.«sorted»
  refine wpAny_bind (m := checkCount "sorted" 1 1 _) (wpAny_pure ?_)
  refine wpAny_bind (hc _ _ _ rfl fun vs h1 tk d pv keep hsz => ?_)
  have hz := hz vs pv
  refine wpAny_bind (wpAny_newList ?_ hz)
  have hoL : (h1.push (seqObj "list" vs.toArray 0)).get? h1.objs.size = some (seqObj "list" vs.toArray 0) := Heap.get?_push_size _ rfl
  show wpAny _ _ _ _ _ { s with heap := h1.push (seqObj "list" vs.toArray 0), toks := tk, drawn := d }
  have keep2 : ∀ b o, s.heap.get? b = some o → (h1.push (seqObj "list" vs.toArray 0)).get? b = some o := fun b o e => Heap.get?_push_of_some _ (keep b o e)
  refine wpAny_bind (wpAny_holding (wpAny_call_entry slot_list_sort ⟨_, hoL, rfl⟩ entry_list_sort (Tim.list_sort_any hoL hz (hk vs _ _ _ pv ?_ hsz keep2) fun out so => ⟨_, rfl, ?_⟩) (args_list_sort _)))
  · show A.units + 2 ≤ A.units + 4
    omega
  · have hne : ∀ b o, s.heap.get? b = some o → b ≠ h1.objs.size := fun b o e => Nat.ne_of_lt (Nat.lt_of_lt_of_le (Heap.lt_size e) hsz)
    have u1 := Heap.SameBut.update (h1.push (seqObj "list" vs.toArray 0)) h1.objs.size (Obj.mapSeq fun _ => (#[] : Array Value))
    obtain ⟨e1, g1⟩ : ∃ e1, ((h1.push (seqObj "list" vs.toArray 0)).update h1.objs.size (Obj.mapSeq fun _ => (#[] : Array Value))).get? h1.objs.size = some (seqObj "list" #[] e1) := ⟨_, get?_update_seq hoL fun _ => #[]⟩
    have g2 := Heap.get?_push_of_some (seqObj "list" #[] 0) (Heap.get?_push_of_some (seqObj "tuple" vs.toArray 0) g1)
    have g3 := get?_update_seq g2 fun _ => out
    have u4 := Heap.SameBut.update (((((h1.push (seqObj "list" vs.toArray 0)).update h1.objs.size (Obj.mapSeq fun _ => (#[] : Array Value))).push (seqObj "tuple" vs.toArray 0)).push (seqObj "list" #[] 0))) h1.objs.size (Obj.mapSeq fun _ => out)
    refine wpAny_pure ⟨_, rfl, h vs out h1.objs.size _ _ tk d pv so (fun b o e => ?_) hsz g3⟩
    refine (u4.2 b (hne b o e)).trans (Heap.get?_push_of_some _ (Heap.get?_push_of_some _ ((u1.2 b (hne b o e)).trans (keep2 b o e))))
end
end L2
namespace L2
open PySem PySem.Spec PyProof.Rows PySem.W
def uniq (ws : List Str) : List Str := Tim.srt strLt ws.eraseDups
section
variable {X : Cx} {pins : List (Addr × Obj)} {σ : St} {H : Hp} {s : Shared}
theorem Inv.drew {d : Drawn} (I : Inv X pins σ H s) : Inv X pins σ H { s with drawn := d } :=
  I.step (h' := s.heap) (g' := s.gens) (d' := d) (t' := s.toks) (ch := []) (fun _ z => nomatch z) (fun _ _ _ _ _ e _ => e) (fun b o _ _ _ e _ => ⟨o.slots, e⟩) (fun _ _ _ _ n => n) (fun b o _ e => ⟨o, e⟩) (fun _ _ e => e) (fun _ _ _ e => e) (fun b ps e => ⟨#[], by rw [e]; simp⟩) (fun _ e => e) I.hok I.bare
end
end L2
namespace L2
open PySem PySem.Spec PyProof.Rows PySem.W
section
variable {X : Cx}
end
end L2
namespace L2
open PySem PySem.Spec PyProof.Rows PySem.W
section
variable {X : Cx}
end
end L2
namespace L2
open PySem PySem.Spec PyProof.Rows PySem.W
section
variable {X : Cx}
end
end L2
namespace L2
open PySem PySem.Spec PyProof.Rows PySem.W
section
variable {X : Cx} {tg : Expr}
end
end L2
namespace L2
open PySem PySem.Spec PyProof.Rows
section
variable {X : Cx}
end
end L2
namespace L2
open PySem PySem.Spec PyProof.Rows
section
variable {prog : Program} {w : World} {A : Around} {E : Value → Shared → Prop} {s : Shared}
theorem getItem_tuple_whole {t sl : Addr} {items : Array Value} {vl vu : Value} {lo hi : Option Int} {Q : Value → Shared → Prop} (ht : IsTup s.heap t items) (hs : s.heap.IsSliceOf sl vl vu .none) (pl : IsPart vl lo) (pu : IsPart vu hi)
    (hw : HT.sIx items.size 0 lo = 0 ∧ HT.sIx items.size items.size hi = items.size) (h : Q (.ref t) s) : wpAny (model prog w) A (getItem (.ref t) (.ref sl)) Q E s := by
  obtain ⟨os, hos, hcs, hds⟩ := id hs
  have hTs : s.TypeIs (.ref sl) "slice" := ⟨os, hos, hcs⟩
  unfold getItem
  try with_reducible refine wpAny_holding ?_
  first | refine wpAny_bind (wpAny_pure ?_) | skip
  refine wpAny_bind (wpAny_sequenceKey ht.typeIs (by decide) ?_)
  refine wpAny_bind (wpAny_callSpecial?_slot (name := Str.ofString "__getitem__") ht.typeIs PyProof.Rows.slot_tuple_getitem
    (wpAny_call_entry PyProof.Rows.slot_tuple_getitem ht.typeIs entry_tuple_getitem ?_ (args_tuple_getitem _ _)))
  show wpAny _ _ (Builtin.Tuple.tupleItemsOf (.ref t) >>= _) _ _ s
  refine wpAny_bind (tupleItemsOf_ ht ?_)
  refine wpAny_bind (wpAny_typeOf hTs ?_)
  rw [if_pos (by decide)]
  refine wpAny_bind (HT.sliceApplied_gen hs pl pu ?_)
  have hyes : (((HT.sIx items.size 0 lo : Nat) : Int) == 0 && (1 : Int) == 1 && (HT.sIx items.size items.size hi - HT.sIx items.size 0 lo) == items.size) = true := by
    rw [hw.1, hw.2]
    simp
  show wpAny _ _ (if (((HT.sIx items.size 0 lo : Nat) : Int) == 0 && (1 : Int) == 1 && (HT.sIx items.size items.size hi - HT.sIx items.size 0 lo) == items.size) = true then _ else _) _ _ s
  rw [if_pos hyes]
  refine wpAny_bind (m := Builtin.Tuple.tupleIsExact (.ref t)) (wpAny_bind (m := typeOf (.ref t)) (wpAny_typeOf ht.typeIs (wpAny_pure ?_)))
  rw [if_pos (by decide)]
  first
    | exact wpAny_bind (wpAny_rule (wpAny_pure ⟨_, rfl, wpAny_pure h⟩))
    | exact wpAny_rule (wpAny_pure ⟨_, rfl, wpAny_pure h⟩)
    | exact wpAny_rule (wpAny_bind (wpAny_pure (wpAny_pure ⟨_, rfl, wpAny_pure h⟩)))
    | exact wpAny_bind (wpAny_rule (wpAny_bind (wpAny_pure (wpAny_pure ⟨_, rfl, wpAny_pure h⟩))))
    | skip
end
section
variable {X : Cx}
def rSlA (K : PySem.W.Frag) : V → Option Int → Option Int → Hp → VK → Prop := fun x lo hi H Q => ∃ a xs, x = .ref a ∧ SqT K H a xs ∧ ∀ p H', Same H H' → SqT K H' p (cutV xs lo hi) → Q (.ref p) H'
theorem sl_tupA (K : PySem.W.Frag) (hK : X.K = K := by rfl) : SlR X (rSlA K) := by
  subst hK
  intro pins s σ H x v vl vu lo hi sl Q I rx hs pl pu h
  obtain ⟨a, xs, rfl, hx, q⟩ := h
  by_cases hw : HT.sIx xs.length 0 lo = 0 ∧ HT.sIx xs.length xs.length hi = xs.length
  · cases rx
    obtain ⟨its, r, ht, hz⟩ := I.tuple hx
    have hlen : its.toArray.size = xs.length := by rw [List.size_toArray]; exact r.length.symm
    refine ⟨"tuple", _, PyProof.Rows.slot_tuple_getitem.lookup, ht.typeIs, ?_⟩
    refine getItem_tuple_whole ht hs pl pu (by rw [hlen]; exact hw) ⟨.ref a, H, I, rfl, q a H (Same.refl H) ?_⟩
    have : cutV xs lo hi = xs := by
      unfold cutV
      rw [hw.1, hw.2, List.drop_zero, Nat.sub_zero, List.take_length]
    rw [this]
    exact hx
  · exact sl_tup pins s σ H _ v vl vu lo hi sl Q I rx hs pl pu ⟨a, xs, rfl, hx, hw, fun p hp => q p _ (same_upd hp) (SqT.of upd_same)⟩
end
end L2
namespace L2
open PySem PySem.Spec PyProof.Rows
section
variable {X : Cx}
end
end L2
namespace L2
open PySem PySem.Spec PyProof.Rows
section
variable {prog : Program} {w : World} {A : Around} {E : Value → Shared → Prop} {s : Shared}
structure ZAp (z TI TO i1 i2 : Addr) (f1 f2 : List Addr) : Prop where
  TIz : TI ≠ z
  TOz : TO ≠ z
  i1z : i1 ≠ z
  i2z : i2 ≠ z
  TITO : TI ≠ TO
  TIi1 : TI ≠ i1
  TIi2 : TI ≠ i2
  TOi1 : TO ≠ i1
  TOi2 : TO ≠ i2
  i12 : i1 ≠ i2
  z1 : z ∉ f1
  TO1 : TO ∉ f1
  i21 : i2 ∉ f1
  z2 : z ∉ f2
  TO2 : TO ∉ f2
  i1f : i1 ∉ f2
end
end L2
namespace L2
open PySem PySem.Spec PyProof.Rows
section
variable {X : Cx} {pins : List (Addr × Obj)} {σ : St} {H : Hp} {s : Shared} {h' : Heap}
theorem FpOk.ch {fp : List Addr} (hf : ∀ b ∈ fp, FpOk X pins H b) : ∀ b ∈ fp, (b ∈ X.ex ∨ X.s₀.heap.objs.size ≤ b) ∧ b ≠ X.env.locals ∧ (∀ x c, X.env.cells.lookup x = some c → c ≠ b) ∧ ∀ p ∈ X.pn ++ pins, p.1 ≠ b := fun b hb =>
  let ⟨_, f1, _, f3, f4, f5⟩ := hf b hb; ⟨f3, f1, f4, f5⟩
end
theorem ZAp.ne {z TI TO i1 i2 a b : Addr} (D : ZAp z TI TO i1 i2 [i1, a] [i2, b]) : a ≠ z ∧ a ≠ TO ∧ a ≠ i2 ∧ b ≠ z ∧ b ≠ TO ∧ b ≠ i1 :=
  ⟨fun e => D.z1 (by simp [e]), fun e => D.TO1 (by simp [e]), fun e => D.i21 (by simp [e]), fun e => D.z2 (by simp [e]), fun e => D.TO2 (by simp [e]), fun e => D.i1f (by simp [e])⟩
section
variable {prog : Program} {w : World} {A : Around} {E : Value → Shared → Prop} {s : Shared}
end
section
variable {X : Cx} {elts : List Expr} {pt : Pos}
end
end L2
namespace L2
open PySem PySem.Spec PyProof.Rows
section
variable {X : Cx}
end
end L2
namespace L2
open PySem PySem.Spec PyProof.Rows
theorem MDef.imp {P : Program} {w : World} {K : PySem.W.Frag} {mg : Str → Option Value} {base : Heap} {k : Nat} {C : Addr} {m : Str} {ps : List Str} {sp sp' : Sp} (D : MDef P w K mg base k C m ps sp) (h : ∀ vs H Q E, sp' vs H Q E → sp vs H Q E) : MDef P w K mg base k C m ps sp' := by
  obtain ⟨f, fd, F, hm, hb⟩ := D.ex
  exact ⟨f, fd, F.imp h, hm, hb⟩
theorem MDef.mono {P : Program} {w : World} {K : PySem.W.Frag} {mg : Str → Option Value} {base : Heap} {j k : Nat} {C : Addr} {m : Str} {ps : List Str} {sp : Sp} (D : MDef P w K mg base j C m ps sp) (h : j ≤ k) : MDef P w K mg base k C m ps sp := by
  obtain ⟨f, fd, F, hm, hb⟩ := D.ex
  exact ⟨f, fd, F.mono h, hm, hb⟩
section
variable {X : Cx} {k k' : Nat} {ι : Type} {cls : ι → Addr} {ps : List Str} {sp : ι → Sp} {x m : Str} {p pos apos : Pos} {e o : Expr} {es : List Expr} {ta : TE} {t : TA}
structure IsiC (K : PySem.W.Frag) (C R : Addr) : Prop where
  ha : PySem.W.findIn K (.ref C) "__class__" = some (some (.builtin "object.__class__"))
  hn : PySem.W.specialIn K (.builtin "object.__class__") "__get__" = some (some (.builtin "getset_descriptor.__get__"))
  htk : PySem.W.takesIn K (.builtin "object.__class__") = some true
  hm : PySem.W.mroIn K C (.type "object") = some true
  e : PySem.W.kitOne K (.ref C) (.ref R) = some true
end
end L2
namespace L2
open PySem PySem.Spec PyProof.Rows
section
open PySem.AutoSeq1
end
section
variable {X : Cx}
end
end L2
namespace L2
open PySem PySem.Spec PyProof.Rows
def Asc (z : Str) : Prop := ∀ c ∈ z.cps.toList, c < 128
section
variable {prog : Program} {w : World} {A : Around} {E : Value → Shared → Prop} {s : Shared}
end
theorem Asc.all {z : Str} (h : Asc z) : (z.cps.all fun x => decide (x < 128)) = true := by
  rw [← Array.all_toList, List.all_eq_true]
  exact fun c hc => decide_eq_true (h c hc)
section
variable {X : Cx} {elts : List Expr} {pt : Pos}
end
end L2
namespace L2
open PySem PySem.Spec PyProof.Rows
theorem Vals.split {xs : List V} {us : List Value} (h : Vals xs us) : ∀ k, Vals (xs.take k) (us.take k) ∧ Vals (xs.drop k) (us.drop k) := by
  induction h with
  | nil => intro k; rw [List.take_nil, List.drop_nil, List.take_nil, List.drop_nil]; exact ⟨.nil, .nil⟩
  | cons a b ih =>
    intro k
    cases k with
    | zero => exact ⟨.nil, .cons a b⟩
    | succ k => exact ⟨.cons a (ih k).1, (ih k).2⟩
section
variable {X : Cx}
end
end L2
namespace L2
open PySem PySem.Spec PyProof.Rows PySem.W
section
variable {prog : Program} {w : World} {A : Around} {E : Value → Shared → Prop} {s : Shared}
def TTAt (h : Heap) (v : Value) : Prop := ∃ ds as, Reads h v (.tuple ds) as ∧ ∀ e ∈ ds, ∃ es, e = PyData.tuple es
theorem TTAt.ty {v : Value} (x : TTAt s.heap v) (M : Model) : Looks M s.heap (typeOf v) (.type "tuple") := by
  obtain ⟨ds, as, hr, _⟩ := x
  cases hr with
  | tuple h1 h2 h3 h4 =>
    rw [← h2]
    exact (Looks.ld h1).andThen .now
end
section
variable {X : Cx}
section
variable {pins : List (Addr × Obj)} {σ : St} {H : Hp} {s : Shared} {a kS : Addr} {vs ks : List Value} {rk : Value → Int} {e e1 : Nat} {P : PySem.Fin → Shared → Prop} {E : Value → Shared → Prop} {A : Around}
end
end
section
variable {X : Cx} {k k' : Nat} {x p1 : Str} {sp : Sp} {e : Expr} {t : TA} {p pos kpos xp : Pos}
end
end L2
namespace L2
open PySem PySem.Spec PyProof.Rows
section
variable {X : Cx}
end
def TupC (K : PySem.W.Frag) (a : Addr) (xs : List V) : Prop := ∃ (o : Obj) (its : Array Value) (n : Nat), K.lookup a = some o ∧ o.cls = .type "tuple" ∧ o.data = .seq its n ∧ its.size ≤ sizeLine ∧ Vals xs its.toList
theorem TupC.sq {K : PySem.W.Frag} {a : Addr} {xs : List V} (h : TupC K a xs) (H : Hp) : SqT K H a xs := .inr h
end L2
namespace L2
open PySem PySem.Spec PyProof.Rows
section
variable {prog : Program} {w : World} {A : Around} {E : Value → Shared → Prop} {s : Shared}
end
section
variable {X : Cx} {elts : List Expr} {pt : Pos}
end
section
variable {prog : Program} {w : World} {A : Around} {E : Value → Shared → Prop} {s : Shared}
end
section
variable {X : Cx} {elts : List Expr} {pt : Pos}
end
section
variable {X : Cx} {k k' : Nat} {C : Addr} {ps : List Str} {sp : Sp} {x : Str} {p pos : Pos} {e : Expr} {es : List Expr} {t : TA}
end
end L2
namespace PySem
section
variable {prog : Program} {w : World} {K : Type} [DecidableEq K] {knd : HeapKind prog w K} {A : Around} {E : Value → Shared → Prop} {s : Shared} {d a : Addr} {k : K} {xs : List (K × Addr × Value)}
end
end PySem
namespace L2
open PySem PySem.Spec PyProof.Rows
section
variable {X : Cx} {pins : List (Addr × Obj)} {σ : St} {H : Hp} {s : Shared} {a b : Addr} {kvs : List (List Key × V)} {k : List Key} {z : V} {r : Value} {A : Around} {E : Value → Shared → Prop}
end
section
variable {X : Cx} {o e f : Expr} {apos cpos : Pos} {td ty tx : TE}
end
end L2
namespace L2
open PySem PySem.Spec PyProof.Rows PySem.W
section
variable {X : Cx} {tg : Expr}
end
end L2
open PySem PySem.W PyProof.Rows
namespace L2
theorem us0 {p : List Value → Prop} (h : p []) : ∀ us : List Value, us.length = 0 → p us := fun _ e => (List.length_eq_zero_iff.mp e).symm ▸ h
theorem us1 {p : List Value → Prop} (h : ∀ a : Value, p [a]) : ∀ us : List Value, us.length = 1 → p us
  | [], e => absurd e (by decide)
  | a :: t, e => us0 (p := fun us => p (a :: us)) (h a) t (Nat.succ.inj e)
theorem us2 {p : List Value → Prop} (h : ∀ a b : Value, p [a, b]) : ∀ us : List Value, us.length = 2 → p us
  | [], e => absurd e (by decide)
  | a :: t, e => us1 (p := fun us => p (a :: us)) (h a) t (Nat.succ.inj e)
theorem us3 {p : List Value → Prop} (h : ∀ a b c : Value, p [a, b, c]) : ∀ us : List Value, us.length = 3 → p us
  | [], e => absurd e (by decide)
  | a :: t, e => us2 (p := fun us => p (a :: us)) (h a) t (Nat.succ.inj e)
theorem us4 {p : List Value → Prop} (h : ∀ a b c d : Value, p [a, b, c, d]) : ∀ us : List Value, us.length = 4 → p us
  | [], e => absurd e (by decide)
  | a :: t, e => us3 (p := fun us => p (a :: us)) (h a) t (Nat.succ.inj e)
structure FiK (K : PySem.W.Frag) (x : Str) (st : Stmt) : Prop where
  ex : ∃ (f : Addr) (oc : Value) (od an : Option Addr) (osl : Array (Option Value)) (kV doc pm cdv ct : Value), PySem.W.nsIn K mainGlobals x = some (some (.ref f)) ∧
    K.lookup f = some ⟨oc, od, .func (PySem.W.fnOf x x (defArgs st) (defBody st) (defScope st) .none kV doc pm an cdv ct), osl⟩ ∧ PySem.W.codeIn K cdv x = true ∧ PySem.W.keepIn K (.ref f) = true
theorem fiK {K : PySem.W.Frag} {x : Str} {st : Stmt} {f : Addr} {oc : Value} {od an : Option Addr} {osl : Array (Option Value)} {kV doc pm cdv ct : Value} (a : PySem.W.nsIn K mainGlobals x = some (some (.ref f)))
    (l : K.lookup f = some ⟨oc, od, .func (PySem.W.fnOf x x (defArgs st) (defBody st) (defScope st) .none kV doc pm an cdv ct), osl⟩) (c : PySem.W.codeIn K cdv x = true) (k : PySem.W.keepIn K (.ref f) = true) : FiK K x st :=
  ⟨f, oc, od, an, osl, kV, doc, pm, cdv, ct, a, l, c, k⟩
theorem FiK.top {K : PySem.W.Frag} {h : Heap} {mg : Str → Option Value} {x : Str} {st : Stmt} {ps : List Str} (F : FiK K x st) (X : K.In h) (G : h.Ns mainGlobals mg)
    (b : ∀ (kV doc pm : Value) (an : Option Addr) (cdv ct : Value) (us : List Value), us.length = ps.length → bindArgs (PySem.W.fnOf x x (defArgs st) (defBody st) (defScope st) .none kV doc pm an cdv ct) ⟨us, []⟩ = pure (ps.zip us)) : Top K mg x st ps := by
  obtain ⟨f, oc, od, an, osl, kV, doc, pm, cdv, ct, a, l, c, k⟩ := F.ex
  exact top_mk X G b a l c k
structure MiK (K : PySem.W.Frag) (x m qual : Str) (st : Stmt) : Prop where
  ex : ∃ (C f : Addr) (oc : Value) (od an : Option Addr) (osl : Array (Option Value)) (kV doc pm cdv ct : Value), PySem.W.nsIn K mainGlobals x = some (some (.ref C)) ∧ PySem.W.findIn K (.ref C) m = some (some (.ref f)) ∧ PySem.W.isFn K (.ref f) = true ∧
    K.lookup f = some ⟨oc, od, .func (PySem.W.fnOf m qual (defArgs st) (defBody st) (defScope st) .none kV doc pm an cdv ct), osl⟩ ∧ PySem.W.codeIn K cdv qual = true ∧ PySem.W.keepIn K (.ref f) = true
theorem miK {K : PySem.W.Frag} {x m qual : Str} {st : Stmt} {C f : Addr} {oc : Value} {od an : Option Addr} {osl : Array (Option Value)} {kV doc pm cdv ct : Value} (n : PySem.W.nsIn K mainGlobals x = some (some (.ref C)))
    (a : PySem.W.findIn K (.ref C) m = some (some (.ref f))) (i : PySem.W.isFn K (.ref f) = true)
    (l : K.lookup f = some ⟨oc, od, .func (PySem.W.fnOf m qual (defArgs st) (defBody st) (defScope st) .none kV doc pm an cdv ct), osl⟩) (c : PySem.W.codeIn K cdv qual = true) (k : PySem.W.keepIn K (.ref f) = true) : MiK K x m qual st :=
  ⟨C, f, oc, od, an, osl, kV, doc, pm, cdv, ct, n, a, i, l, c, k⟩
theorem MiK.top {K : PySem.W.Frag} {h : Heap} {mg : Str → Option Value} {x m qual : Str} {st : Stmt} {ps : List Str} (F : MiK K x m qual st) (X : K.In h) (G : h.Ns mainGlobals mg)
    (b : ∀ (kV doc pm : Value) (an : Option Addr) (cdv ct : Value) (us : List Value), us.length = ps.length → bindArgs (PySem.W.fnOf m qual (defArgs st) (defBody st) (defScope st) .none kV doc pm an cdv ct) ⟨us, []⟩ = pure (ps.zip us)) : MTop K (cA mg x) m qual st ps := by
  obtain ⟨C, f, oc, od, an, osl, kV, doc, pm, cdv, ct, n, a, i, l, c, k⟩ := F.ex
  rw [cA_of (PySem.W.mg_of X G n)]
  exact mtop_mk b a i l c k
structure CiK (K : PySem.W.Frag) (x : Str) : Prop where
  ex : ∃ C : Addr, PySem.W.nsIn K mainGlobals x = some (some (.ref C)) ∧ PySem.W.plainGet K C Str.empty = true ∧ PySem.W.hasDictIn K C = true ∧ PySem.W.plainOver K C = true ∧
    PySem.W.findIn K (.ref C) "__setattr__" = some (some (.builtin "object.__setattr__")) ∧ PySem.W.makesIn K C = true ∧ PySem.W.keepIn K (.ref C) = true
theorem ciK {K : PySem.W.Frag} {x : Str} {C : Addr} (n : PySem.W.nsIn K mainGlobals x = some (some (.ref C))) (pg : PySem.W.plainGet K C Str.empty = true) (hd : PySem.W.hasDictIn K C = true) (po : PySem.W.plainOver K C = true)
    (sa : PySem.W.findIn K (.ref C) "__setattr__" = some (some (.builtin "object.__setattr__"))) (mk : PySem.W.makesIn K C = true) (kc : PySem.W.keepIn K (.ref C) = true) : CiK K x := ⟨C, n, pg, hd, po, sa, mk, kc⟩
section
variable {K : PySem.W.Frag} {h : Heap} {mg : Str → Option Value} {x a : Str} {v : Option (Option Value)}
theorem CiK.g (F : CiK K x) (X : K.In h) (G : h.Ns mainGlobals mg) : mg x = some (.ref (cA mg x)) := by
  obtain ⟨C, n, _⟩ := F.ex
  rw [cA_of (PySem.W.mg_of X G n)]
  exact PySem.W.mg_of X G n
theorem CiK.cl (F : CiK K x) (X : K.In h) (G : h.Ns mainGlobals mg) : Cls K (cA mg x) := by
  obtain ⟨C, n, pg, hd, po, sa, _⟩ := F.ex
  rw [cA_of (PySem.W.mg_of X G n)]
  exact ⟨pg, hd, po, sa⟩
theorem CiK.mk' (F : CiK K x) (X : K.In h) (G : h.Ns mainGlobals mg) : PySem.W.makesIn K (cA mg x) = true := by
  obtain ⟨C, n, _, _, _, _, mk, _⟩ := F.ex
  rw [cA_of (PySem.W.mg_of X G n)]
  exact mk
theorem CiK.kp (F : CiK K x) (X : K.In h) (G : h.Ns mainGlobals mg) : PySem.W.keepIn K (.ref (cA mg x)) = true := by
  obtain ⟨C, n, _, _, _, _, _, kc⟩ := F.ex
  rw [cA_of (PySem.W.mg_of X G n)]
  exact kc
structure AiK (K : PySem.W.Frag) (x a : Str) (v : Option (Option Value)) : Prop where
  ex : ∃ C : Addr, PySem.W.nsIn K mainGlobals x = some (some (.ref C)) ∧ PySem.W.findIn K (.ref C) a = v
theorem aiK {C : Addr} (n : PySem.W.nsIn K mainGlobals x = some (some (.ref C))) (f : PySem.W.findIn K (.ref C) a = v) : AiK K x a v := ⟨C, n, f⟩
theorem AiK.at' (F : AiK K x a v) (X : K.In h) (G : h.Ns mainGlobals mg) : PySem.W.findIn K (.ref (cA mg x)) a = v := by
  obtain ⟨C, n, f⟩ := F.ex
  rw [cA_of (PySem.W.mg_of X G n)]
  exact f
end
end L2
namespace L2
open PySem PySem.Spec PyProof.Rows PySem.Builtin.Str
section
variable {X : Cx}
variable {v1 v2 v3 e : Expr} {t1 t2 t3 te : TE} {pos : Pos}
end
end L2
namespace L2
open PySem PySem.Spec PyProof.Rows PySem.Builtin.Str PySem.StrLaws PySem.NumText
end L2
namespace L2
open PySem PySem.Spec PyProof.Rows PySem.W Builtin
section
variable {X : Cx}
end
section
variable {prog : Program} {w : World} {A : Around} {E : Value → Shared → Prop}
theorem IsList.ext {h h' : Heap} {it l : Addr} {items : Array Value} (x : h.IsList l items) (k : Heap.ExtBut it h h') (n : l ≠ it) : h'.IsList l items :=
  let ⟨o, e, c, d⟩ := x; ⟨o, k l o n e, c, d⟩
end
section
variable {X : Cx}
end
end L2
namespace L2
open PySem PySem.Spec PyProof.Rows
section
variable {prog : Program} {w : World} {A : Around} {R : Result → Shared → Prop} {I : Addr} {fp wr : List Addr} {n : Nat} {P : Nat → Value → Prop} {St : Nat → Heap → Prop}
end
section
variable {X : Cx} {e d : Expr} {t tk : TA} {p pos kpos : Pos}
end
section
variable {X : Cx}
end
end L2
namespace L2
open PySem PySem.Spec PyProof.Rows PySem.W
namespace Tab
def adv (mask : Nat) (p : SetTable.Probe) : SetTable.Probe :=
  if p.more > 0 then { p with j := p.j + 1, more := p.more - 1 } else
  { p with j := (SetTable.leap mask p.i p.perturb).1, more := SetTable.runEnd mask (SetTable.leap mask p.i p.perturb).1 - (SetTable.leap mask p.i p.perturb).1, i := (SetTable.leap mask p.i p.perturb).1, perturb := (SetTable.leap mask p.i p.perturb).2 }
def run (mask i q : Nat) : SetTable.Probe := { j := i, more := SetTable.runEnd mask i - i, i, perturb := q, dummy := none }
def st (mask : Nat) (h : Int) : SetTable.Probe := run mask (SetTable.bits h % (mask + 1)) (SetTable.bits h)
inductive Way (mask : Nat) (occ : Nat → Prop) : SetTable.Probe → Nat → Prop
  | here (p : SetTable.Probe) : Way mask occ p p.j
  | next {p : SetTable.Probe} {j : Nat} : occ p.j → Way mask occ (adv mask p) j → Way mask occ p j
theorem Way.mono {mask : Nat} {occ occ' : Nat → Prop} (k : ∀ j, occ j → occ' j) {p : SetTable.Probe} {j : Nat} (w : Way mask occ p j) : Way mask occ' p j := by
  induction w with
  | here p => exact .here p
  | next h _ ih => exact .next (k _ h) ih
inductive Ends (mask : Nat) (occ : Nat → Prop) : SetTable.Probe → Nat → Prop
  | here {p : SetTable.Probe} {n : Nat} : ¬ occ p.j → Ends mask occ p n
  | next {p : SetTable.Probe} {n : Nat} : Ends mask occ (adv mask p) n → Ends mask occ p (n + 1)
theorem Ends.mono {mask : Nat} {occ : Nat → Prop} {p : SetTable.Probe} {n : Nat} (w : Ends mask occ p n) : ∀ {m : Nat}, n ≤ m → Ends mask occ p m := by
  induction w with
  | here h => exact fun _ => .here h
  | next _ ih =>
    intro m hm
    obtain ⟨m, rfl⟩ : ∃ k, m = k + 1 := ⟨m - 1, by omega⟩
    exact .next (ih (by omega))
theorem adv_none {mask : Nat} {p : SetTable.Probe} (h : p.dummy = none) : (adv mask p).dummy = none := by
  unfold adv
  split <;> exact h
theorem run_end (mask i : Nat) : SetTable.runEnd mask i - i ≤ 9 := by
  unfold SetTable.runEnd
  split <;> omega
theorem ends_more {mask : Nat} {occ : Nat → Prop} {i q n : Nat} (h : Ends mask occ (run mask (SetTable.leap mask i q).1 (SetTable.leap mask i q).2) n) : ∀ (m j : Nat), Ends mask occ { j, more := m, i, perturb := q, dummy := none } (n + m + 1)
  | 0, j => by
    refine .next ?_
    unfold adv
    rw [if_neg (by simp)]
    exact h
  | m + 1, j => by
    refine .next ?_
    unfold adv
    rw [if_pos (by simp)]
    exact ends_more h m (j + 1)
theorem ends_run {mask : Nat} {occ : Nat → Prop} {i q n : Nat} (h : Ends mask occ (run mask (SetTable.leap mask i q).1 (SetTable.leap mask i q).2) n) : Ends mask occ (run mask i q) (n + 10) :=
  (ends_more h _ i).mono (by have := run_end mask i; omega)
def leaps (mask : Nat) : Nat → Nat × Nat → Nat × Nat
  | 0, x => x
  | n + 1, x => leaps mask n (SetTable.leap mask x.1 x.2)
theorem ends_leaps {mask : Nat} {occ : Nat → Prop} : ∀ (L i q : Nat), ¬ occ (leaps mask L (i, q)).1 → Ends mask occ (run mask i q) (10 * L)
  | 0, i, q, h => .here h
  | L + 1, i, q, h => by
    have := ends_run (ends_leaps L (SetTable.leap mask i q).1 (SetTable.leap mask i q).2 h)
    rwa [show 10 * (L + 1) = 10 * L + 10 by omega]
theorem leaps_add (mask : Nat) : ∀ (a b : Nat) (x : Nat × Nat), leaps mask (a + b) x = leaps mask b (leaps mask a x)
  | 0, b, x => by rw [Nat.zero_add]; rfl
  | a + 1, b, x => by
    rw [show a + 1 + b = (a + b) + 1 by omega]
    exact leaps_add mask a b _
theorem leaps_q (mask : Nat) : ∀ (n i q : Nat), (leaps mask n (i, q)).2 = q / 32 ^ n
  | 0, i, q => by simp [leaps]
  | n + 1, i, q => by
    show (leaps mask n ((SetTable.leap mask i q).1, (SetTable.leap mask i q).2)).2 = _
    rw [leaps_q mask n]
    show q / 32 / 32 ^ n = _
    rw [Nat.div_div_eq_div_mul, Nat.pow_succ, Nat.mul_comm]
theorem leaps_le (mask : Nat) : ∀ (n i q : Nat), i ≤ mask → (leaps mask n (i, q)).1 ≤ mask
  | 0, i, q, h => h
  | n + 1, i, q, h => leaps_le mask n _ _ (Nat.le_of_lt_succ (Nat.mod_lt _ (Nat.succ_pos _)))
def hop (mask i : Nat) : Nat := (i * 5 + 1) % (mask + 1)
def hops (mask : Nat) : Nat → Nat → Nat
  | 0, i => i
  | n + 1, i => hops mask n (hop mask i)
theorem leaps_hops (mask : Nat) : ∀ (n i : Nat), leaps mask n (i, 0) = (hops mask n i, 0)
  | 0, i => rfl
  | n + 1, i => by
    show leaps mask n (SetTable.leap mask i 0) = _
    rw [show SetTable.leap mask i 0 = (hop mask i, 0) by simp [SetTable.leap, hop]]
    exact leaps_hops mask n (hop mask i)
theorem hops_add (mask : Nat) : ∀ (a b i : Nat), hops mask (a + b) i = hops mask b (hops mask a i)
  | 0, b, i => by rw [Nat.zero_add]; rfl
  | a + 1, b, i => by
    rw [show a + 1 + b = (a + b) + 1 by omega]
    exact hops_add mask a b _
def orb (mask : Nat) : Nat → Nat → List Nat
  | 0, _ => []
  | n + 1, i => i :: orb mask n (hop mask i)
theorem mem_orb {mask : Nat} : ∀ {n i x : Nat}, x ∈ orb mask n i → ∃ a, a < n ∧ hops mask a i = x
  | 0, i, x, h => nomatch h
  | n + 1, i, x, h => by
    rcases List.mem_cons.mp h with rfl | h
    · exact ⟨0, by omega, rfl⟩
    · obtain ⟨a, h1, h2⟩ := mem_orb h
      exact ⟨a + 1, by omega, h2⟩
def okM (m : Nat) : Prop := m = 7 ∨ m = 31 ∨ m = 127
theorem orb_all {m : Nat} (h : okM m) : hops m (m + 1) 0 = 0 ∧ ∀ i, i ≤ m → ∃ a, a < m + 1 ∧ hops m a 0 = i := by
  have key : ∀ m, (hops m (m + 1) 0 = 0 ∧ ((List.range (m + 1)).all fun i => (orb m (m + 1) 0).contains i) = true) → hops m (m + 1) 0 = 0 ∧ ∀ i, i ≤ m → ∃ a, a < m + 1 ∧ hops m a 0 = i := fun m ⟨h0, h⟩ => ⟨h0, fun i hi => by
    have := List.all_eq_true.mp h i (List.mem_range.mpr (by omega))
    exact mem_orb (by simpa using this)⟩
  rcases h with rfl | rfl | rfl
  · exact key 7 (by decide +kernel)
  · exact key 31 (by decide +kernel)
  · exact key 127 (by decide +kernel)
theorem hops_all {m i j : Nat} (h : okM m) (hi : i ≤ m) (hj : j ≤ m) : ∃ n, n ≤ m ∧ hops m n i = j := by
  obtain ⟨h0, k⟩ := orb_all h
  obtain ⟨a, ha, rfl⟩ := k i hi
  obtain ⟨b, hb, rfl⟩ := k j hj
  by_cases c : a ≤ b
  · exact ⟨b - a, by omega, by rw [← hops_add, show a + (b - a) = b by omega]⟩
  · refine ⟨m + 1 - a + b, by omega, ?_⟩
    rw [← hops_add, show a + (m + 1 - a + b) = (m + 1) + b by omega, hops_add, h0]
theorem leaps_all {m i q j : Nat} (h : okM m) (hi : i ≤ m) (hq : q < 2 ^ 64) (hj : j ≤ m) : ∃ L, L ≤ 13 + m ∧ (leaps m L (i, q)).1 = j := by
  have e : leaps m 13 (i, q) = ((leaps m 13 (i, q)).1, 0) := by
    refine Prod.ext rfl ?_
    show (leaps m 13 (i, q)).2 = 0
    rw [leaps_q]
    exact Nat.div_eq_of_lt (by omega)
  obtain ⟨n, hn, en⟩ := hops_all (j := j) h (leaps_le m 13 i q hi) hj
  refine ⟨13 + n, by omega, ?_⟩
  rw [leaps_add, e, leaps_hops]
  exact en
theorem bits_lt (h : Int) : SetTable.bits h < 2 ^ 64 := by
  unfold SetTable.bits
  omega
theorem ends_st {m j : Nat} {occ : Nat → Prop} (ok : okM m) (h : Int) (hj : j ≤ m) (hf : ¬ occ j) : Ends m occ (st m h) (10 * (13 + m)) := by
  obtain ⟨L, hL, e⟩ := leaps_all (q := SetTable.bits h) (i := SetTable.bits h % (m + 1)) ok (Nat.le_of_lt_succ (Nat.mod_lt _ (Nat.succ_pos _))) (bits_lt h) hj
  exact (ends_leaps (occ := occ) L _ _ (by rw [e]; exact hf)).mono (by omega)
theorem pigeon : ∀ (n : Nat) (l : List Nat), (∀ j, j < n → j ∈ l) → n ≤ l.length
  | 0, l, _ => Nat.zero_le _
  | n + 1, l, h => by
    have h1 : n ∈ l := h n (Nat.lt_succ_self _)
    have := pigeon n (l.erase n) fun j hj => (List.mem_erase_of_ne (Nat.ne_of_lt hj)).mpr (h j (Nat.lt_succ_of_lt hj))
    rw [List.length_erase_of_mem h1] at this
    have : 0 < l.length := List.length_pos_of_mem h1
    omega
theorem free_one {m : Nat} {l : List Nat} (h : l.length ≤ m) : ∃ j, j ≤ m ∧ j ∉ l := by
  refine Classical.byContradiction fun c => ?_
  have := pigeon (m + 1) l fun j hj => Classical.byContradiction fun d => c ⟨j, by omega, d⟩
  omega
def Up (xs : Array Nat) : Prop := ∀ a b x y : Nat, a < b → xs[a]? = some x → xs[b]? = some y → x < y
theorem getD_some {xs : Array Nat} {i d : Nat} (h : i < xs.size) : xs[i]? = some (xs.getD i d) := by
  rw [Array.getElem?_eq_getElem h]
  simp [Array.getD, h]
theorem below_go {xs : Array Nat} {j : Nat} (up : Up xs) : ∀ (fuel lo hi : Nat), lo ≤ hi → hi ≤ xs.size → hi - lo ≤ fuel → (∀ a x, a < lo → xs[a]? = some x → x < j) → (∀ a x, hi ≤ a → xs[a]? = some x → j ≤ x) →
    SetTable.below.go xs j fuel lo hi ≤ xs.size ∧ (∀ a x, a < SetTable.below.go xs j fuel lo hi → xs[a]? = some x → x < j) ∧ (∀ a x, SetTable.below.go xs j fuel lo hi ≤ a → xs[a]? = some x → j ≤ x)
  | 0, lo, hi, h1, h2, h3, h4, h5 => by
    unfold SetTable.below.go
    exact ⟨by omega, h4, fun a x ha => h5 a x (by omega)⟩
  | fuel + 1, lo, hi, h1, h2, h3, h4, h5 => by
    unfold SetTable.below.go
    by_cases c : lo < hi
    · rw [if_pos c]
      have hm : (lo + hi) / 2 < xs.size := by omega
      have e := getD_some (d := j) hm
      dsimp only
      by_cases d : xs.getD ((lo + hi) / 2) j < j
      · rw [if_pos d]
        refine below_go up fuel _ hi (by omega) h2 (by omega) (fun a x ha hx => ?_) h5
        rcases Nat.lt_or_ge a ((lo + hi) / 2) with q | q
        · exact Nat.lt_trans (up a _ x _ q hx e) d
        · have : a = (lo + hi) / 2 := by omega
          subst this
          rw [e] at hx
          cases hx
          exact d
      · rw [if_neg d]
        refine below_go up fuel lo _ (by omega) (by omega) (by omega) h4 fun a x ha hx => ?_
        rcases Nat.lt_or_ge ((lo + hi) / 2) a with q | q
        · exact Nat.le_trans (Nat.not_lt.mp d) (Nat.le_of_lt (up _ a _ x q e hx))
        · have : a = (lo + hi) / 2 := by omega
          subst this
          rw [e] at hx
          cases hx
          exact Nat.not_lt.mp d
    · rw [if_neg c]
      exact ⟨by omega, h4, fun a x ha => h5 a x (by omega)⟩
theorem below_is {xs : Array Nat} (up : Up xs) (j : Nat) : SetTable.below xs j ≤ xs.size ∧ (∀ a x, a < SetTable.below xs j → xs[a]? = some x → x < j) ∧ (∀ a x, SetTable.below xs j ≤ a → xs[a]? = some x → j ≤ x) :=
  below_go up xs.size 0 xs.size (Nat.zero_le _) (Nat.le_refl _) (by omega) (fun a x h => absurd h (Nat.not_lt_zero _)) fun a x h e => by
    rw [Array.getElem?_eq_none h] at e
    cases e
def occ (t : SetTable) (j : Nat) : Prop := ∃ i : Nat, t.place[i]? = some j
theorem up_inj {xs : Array Nat} (up : Up xs) {a b x : Nat} (h1 : xs[a]? = some x) (h2 : xs[b]? = some x) : a = b := by
  rcases Nat.lt_trichotomy a b with c | c | c
  · exact absurd (up a b x x c h1 h2) (Nat.lt_irrefl _)
  · exact c
  · exact absurd (up b a x x c h2 h1) (Nat.lt_irrefl _)
theorem slot_is {t : SetTable} (up : Up t.place) (d : t.dummies = #[]) (j : Nat) : (∃ i : Nat, t.place[i]? = some j ∧ t.slot j = .live i) ∨ (¬ occ t j ∧ t.slot j = .empty) := by
  obtain ⟨h1, h2, h3⟩ := below_is up j
  unfold SetTable.slot
  dsimp only
  by_cases c : t.place[SetTable.below t.place j]? = some j
  · exact .inl ⟨_, c, by rw [if_pos (by rw [c]; simp)]⟩
  · refine .inr ⟨fun ⟨i, hi⟩ => c ?_, ?_⟩
    · rcases Nat.lt_or_ge i (SetTable.below t.place j) with q | q
      · exact absurd (h2 i j q hi) (Nat.lt_irrefl _)
      · rcases Nat.lt_or_ge (SetTable.below t.place j) i with r | r
        · have hlt : SetTable.below t.place j < t.place.size := by
            refine Nat.lt_of_lt_of_le r (Nat.le_of_lt ?_)
            refine Nat.lt_of_not_ge fun z => ?_
            rw [Array.getElem?_eq_none z] at hi
            cases hi
          have e := getD_some (d := 0) hlt
          have k1 := h3 _ _ (Nat.le_refl _) e
          have k2 := up _ i _ j r e hi
          omega
        · rw [show SetTable.below t.place j = i by omega]
          exact hi
    · rw [if_neg (by simpa using c), if_neg (by rw [d]; simp [SetTable.has])]
end Tab
end L2
namespace L2
open PySem PySem.Spec PyProof.Rows PySem.W
namespace Tab
theorem get_insertAt {α : Type} {xs : Array α} {p : Nat} (hp : p ≤ xs.size) (x : α) (i : Nat) : (SetTable.insertAt xs p x)[i]? = if i < p then xs[i]? else if i = p then some x else xs[i - 1]? := by
  rw [← Array.getElem?_toList, SetTable.toList_insertAt, List.getElem?_append, List.length_take, Array.length_toList, Nat.min_eq_left hp]
  by_cases c : i < p
  · rw [if_pos c, if_pos c, List.getElem?_take_of_lt c, Array.getElem?_toList]
  · rw [if_neg c, if_neg c]
    by_cases d : i = p
    · subst d
      rw [if_pos rfl, Nat.sub_self]
      rfl
    · rw [if_neg d, show i - p = (i - 1 - p) + 1 by omega, List.getElem?_cons_succ, List.getElem?_drop, Array.getElem?_toList]
      congr 1
      omega
theorem size_insertAt {α : Type} {xs : Array α} {p : Nat} (x : α) : (SetTable.insertAt xs p x).size = xs.size + 1 := by
  rw [← Array.length_toList, (SetTable.insertAt_perm xs p x).length_eq, Array.length_toList, Array.size_push]
theorem some_lt {α : Type} {xs : Array α} {i : Nat} {x : α} (h : xs[i]? = some x) : i < xs.size := by
  refine Nat.lt_of_not_ge fun z => ?_
  rw [Array.getElem?_eq_none z] at h
  cases h
structure TabOk (t : SetTable) (es : Array (Int × Value)) : Prop where
  m : okM t.mask
  d : t.dummies = #[]
  sz : t.place.size = es.size
  up : Up t.place
  le : ∀ a x : Nat, t.place[a]? = some x → x ≤ t.mask
  way : ∀ (i j : Nat) (e : Int × Value), t.place[i]? = some j → es[i]? = some e → Way t.mask (occ t) (st t.mask e.1) j
theorem TabOk.fits {t : SetTable} {es : Array (Int × Value)} (T : TabOk t es) (h : es.size ≤ t.mask) : t.fits es.size = true := by
  unfold SetTable.fits SetTable.fill
  rw [T.d, T.sz]
  simpa using h
theorem go_meets {t : SetTable} {es : Array (Int × Value)} (T : TabOk t es) {hashAt : Nat → Int} (hA : ∀ (i : Nat) e, es[i]? = some e → hashAt i = e.1) (h : Int) : ∀ (fuel n : Nat) (p : SetTable.Probe), p.dummy = none → n < fuel → Ends t.mask (occ t) p n →
    (∃ q : SetTable.Probe, SetTable.probe.go t hashAt h fuel p = some (.empty q.j none) ∧ ¬ occ t q.j ∧ (∀ j, Way t.mask (occ t) q j → Way t.mask (occ t) p j) ∧ (∀ (i j : Nat) e, t.place[i]? = some j → es[i]? = some e → e.1 = h → Way t.mask (occ t) p j → Way t.mask (occ t) q j)) ∨
    (∃ (q : SetTable.Probe) (i m : Nat) (e : Int × Value), SetTable.probe.go t hashAt h fuel p = some (.candidate q.j i (adv t.mask q)) ∧ q.dummy = none ∧ t.place[i]? = some q.j ∧ es[i]? = some e ∧ e.1 = h ∧ m + 1 ≤ n ∧ Ends t.mask (occ t) (adv t.mask q) m ∧ (∀ j, Way t.mask (occ t) q j → Way t.mask (occ t) p j) ∧
      (∀ (i j : Nat) e, t.place[i]? = some j → es[i]? = some e → e.1 = h → Way t.mask (occ t) p j → Way t.mask (occ t) q j))
  | 0, n, p, hd, hn, hE => by omega
  | fuel + 1, n, p, hd, hn, hE => by
    unfold SetTable.probe.go
    rcases slot_is T.up T.d p.j with ⟨i, hi, e⟩ | ⟨ho, e⟩
    · rw [e]
      dsimp only
      have hs := some_lt hi
      rw [T.sz] at hs
      have ee : es[i]? = some es[i] := Array.getElem?_eq_getElem hs
      have hh := hA i _ ee
      obtain ⟨m, rfl, hE2⟩ : ∃ m, n = m + 1 ∧ Ends t.mask (occ t) (adv t.mask p) m := by
        cases hE with
        | here z => exact absurd ⟨i, hi⟩ z
        | next z => exact ⟨_, rfl, z⟩
      by_cases c : es[i].1 = h
      · rw [if_pos (by rw [hh, c]; simp)]
        exact .inr ⟨p, i, m, _, rfl, hd, hi, ee, c, Nat.le_refl _, hE2, fun _ z => z, fun _ _ _ _ _ _ z => z⟩
      · rw [if_neg (by rw [hh]; simpa using c)]
        have pass : ∀ (i' j : Nat) e, t.place[i']? = some j → es[i']? = some e → e.1 = h → Way t.mask (occ t) p j → Way t.mask (occ t) (adv t.mask p) j := fun i' j e' h1 h2 h3 w => by
          cases w with
          | here =>
            have := up_inj T.up h1 hi
            subst this
            rw [ee] at h2
            cases h2
            exact absurd h3 c
          | next _ z => exact z
        rcases go_meets T hA h fuel m (adv t.mask p) (adv_none hd) (by omega) hE2 with ⟨q, g1, g2, g3, g4⟩ | ⟨q, i', m', e', g1, g2, g3, g4, g5, g6, g7, g8, g9⟩
        · exact .inl ⟨q, g1, g2, fun j w => .next ⟨i, hi⟩ (g3 j w), fun i' j e' h1 h2 h3 w => g4 i' j e' h1 h2 h3 (pass i' j e' h1 h2 h3 w)⟩
        · exact .inr ⟨q, i', m', e', g1, g2, g3, g4, g5, by omega, g7, fun j w => .next ⟨i, hi⟩ (g8 j w), fun i' j e' h1 h2 h3 w => g9 i' j e' h1 h2 h3 (pass i' j e' h1 h2 h3 w)⟩
    · rw [e]
      dsimp only
      refine .inl ⟨p, by rw [hd], ho, fun _ z => z, fun _ _ _ _ _ _ z => z⟩
theorem occ_put {t : SetTable} (up : Up t.place) (j x : Nat) : occ (t.put j).1 x ↔ occ t x ∨ x = j := by
  have hp := (below_is up j).1
  constructor
  · rintro ⟨i, hi⟩
    change (SetTable.insertAt t.place (SetTable.below t.place j) j)[i]? = some x at hi
    rw [get_insertAt hp] at hi
    split at hi
    · exact .inl ⟨_, hi⟩
    · split at hi
      · cases hi
        exact .inr rfl
      · exact .inl ⟨_, hi⟩
  · rintro (⟨i, hi⟩ | rfl)
    · by_cases c : i < SetTable.below t.place j
      · refine ⟨i, ?_⟩
        show (SetTable.insertAt t.place (SetTable.below t.place j) j)[i]? = some x
        rw [get_insertAt hp, if_pos c]
        exact hi
      · refine ⟨i + 1, ?_⟩
        show (SetTable.insertAt t.place (SetTable.below t.place j) j)[i + 1]? = some x
        rw [get_insertAt hp, if_neg (by omega), if_neg (by omega)]
        exact hi
    · refine ⟨SetTable.below t.place x, ?_⟩
      show (SetTable.insertAt t.place (SetTable.below t.place x) x)[SetTable.below t.place x]? = some x
      rw [get_insertAt hp, if_neg (by omega), if_pos rfl]
theorem put_ok {t : SetTable} {es : Array (Int × Value)} (T : TabOk t es) {j : Nat} {h : Int} (hj : j ≤ t.mask) (hf : ¬ occ t j) (hw : Way t.mask (occ t) (st t.mask h) j) (v : Value) :
    TabOk (t.put j).1 (SetTable.insertAt es (t.put j).2 (h, v)) := by
  obtain ⟨hp, hlo, hhi⟩ := below_is T.up j
  have hpe : SetTable.below t.place j ≤ es.size := by rw [← T.sz]; exact hp
  have get : ∀ i : Nat, (t.put j).1.place[i]? = if i < SetTable.below t.place j then t.place[i]? else if i = SetTable.below t.place j then some j else t.place[i - 1]? := fun i => get_insertAt hp j i
  have gete : ∀ i : Nat, (SetTable.insertAt es (t.put j).2 (h, v))[i]? = if i < SetTable.below t.place j then es[i]? else if i = SetTable.below t.place j then some (h, v) else es[i - 1]? := fun i => get_insertAt hpe (h, v) i
  have mono : ∀ x, occ t x → occ (t.put j).1 x := fun x z => (occ_put T.up j x).mpr (.inl z)
  have hne : ∀ (i x : Nat), t.place[i]? = some x → x ≠ j := fun i x z e => hf (e ▸ ⟨i, z⟩)
  refine ⟨T.m, ?_, ?_, ?_, ?_, ?_⟩
  · show (if SetTable.has t.dummies j then _ else t.dummies) = #[]
    rw [T.d, if_neg (by simp [SetTable.has])]
  · show (SetTable.insertAt t.place _ j).size = (SetTable.insertAt es _ (h, v)).size
    rw [size_insertAt, size_insertAt, T.sz]
  · intro a b x y hab hx hy
    rw [get] at hx hy
    split at hx
    · rename_i c1
      split at hy
      · exact T.up a b x y hab hx hy
      · split at hy
        · cases hy
          exact hlo a x c1 hx
        · exact T.up a (b - 1) x y (by omega) hx hy
    · split at hx
      · cases hx
        rw [if_neg (by omega), if_neg (by omega)] at hy
        have := hhi (b - 1) y (by omega) hy
        have := hne _ _ hy
        omega
      · rw [if_neg (by omega), if_neg (by omega)] at hy
        exact T.up (a - 1) (b - 1) x y (by omega) hx hy
  · intro a x hx
    rw [get] at hx
    split at hx
    · exact T.le _ _ hx
    · split at hx
      · cases hx
        exact hj
      · exact T.le _ _ hx
  · intro i x e hx he
    rw [get] at hx
    rw [gete] at he
    split at hx
    · rename_i c
      rw [if_pos c] at he
      exact (T.way i x e hx he).mono mono
    · rename_i c
      rw [if_neg c] at he
      split at hx
      · rename_i c2
        rw [if_pos c2] at he
        cases hx
        cases he
        exact hw.mono mono
      · rename_i c2
        rw [if_neg c2] at he
        exact (T.way _ x e hx he).mono mono
def own (ow : Array (Option Nat)) (j : Nat) : Prop := ∃ k : Nat, ow[j]? = some (some k)
theorem own_iff {ow : Array (Option Nat)} {j : Nat} (hj : j < ow.size) : (ow.getD j (some 0)).isNone = false ↔ own ow j := by
  unfold own
  rw [show ow.getD j (some 0) = ow[j] by simp [Array.getD, hj], Array.getElem?_eq_getElem hj]
  cases ow[j] with
  | none => simp
  | some k => simp
theorem way_more {mask : Nat} {oc : Nat → Prop} {i q : Nat} : ∀ (k m j : Nat), k ≤ m → (∀ x, x < k → oc (j + x)) → Way mask oc { j, more := m, i, perturb := q, dummy := none } (j + k)
  | 0, m, j, _, _ => .here { j, more := m, i, perturb := q, dummy := none }
  | k + 1, m, j, hk, hx => by
    refine .next (hx 0 (Nat.succ_pos _)) ?_
    unfold adv
    rw [if_pos (show m > 0 by omega)]
    have := way_more (mask := mask) (oc := oc) (i := i) (q := q) k (m - 1) (j + 1) (by omega) fun x hx' => by
      have := hx (x + 1) (by omega)
      rwa [show j + 1 + x = j + (x + 1) by omega]
    rwa [show j + 1 + k = j + (k + 1) by omega] at this
theorem way_all {mask : Nat} {oc : Nat → Prop} {i q y : Nat} (h : Way mask oc (run mask (SetTable.leap mask i q).1 (SetTable.leap mask i q).2) y) : ∀ (m j : Nat), (∀ x, x ≤ m → oc (j + x)) → Way mask oc { j, more := m, i, perturb := q, dummy := none } y
  | 0, j, hx => by
    refine .next (hx 0 (Nat.le_refl _)) ?_
    unfold adv
    rw [if_neg (by simp)]
    exact h
  | m + 1, j, hx => by
    refine .next (hx 0 (Nat.zero_le _)) ?_
    unfold adv
    rw [if_pos (by simp)]
    exact way_all h m (j + 1) fun x hx' => by
      have := hx (x + 1) (by omega)
      rwa [show j + 1 + x = j + (x + 1) by omega]
theorem find_range {f : Nat → Bool} {n k : Nat} (h : (List.range n).find? f = some k) : k < n ∧ f k = true ∧ ∀ x, x < k → f x = false := by
  obtain ⟨h1, as, bs, e, h2⟩ := List.find?_eq_some_iff_append.mp h
  have hk : k < n := List.mem_range.mp (by rw [e]; simp)
  refine ⟨hk, h1, fun x hx => ?_⟩
  have hl : as.length = k := by
    have : (List.range n)[as.length]? = some k := by rw [e]; simp
    rw [List.getElem?_range (by
      refine Nat.lt_of_not_ge fun z => ?_
      rw [List.getElem?_eq_none (by rw [List.length_range]; exact z)] at this
      cases this)] at this
    exact Option.some.inj this
  have hm : x ∈ as := by
    have : (List.range n)[x]? = some x := List.getElem?_range (by omega)
    rw [e, List.getElem?_append, if_pos (by omega)] at this
    exact List.mem_of_getElem? this
  simpa using h2 x hm
theorem free_ok {mask : Nat} {ow : Array (Option Nat)} (hs : ow.size = mask + 1) : ∀ (L fuel i q : Nat), L < fuel → i ≤ mask → ¬ own ow (leaps mask L (i, q)).1 → ∃ j, SetTable.layClean.free mask ow fuel i q = some j ∧ j ≤ mask ∧ ¬ own ow j ∧ Way mask (own ow) (run mask i q) j
  | L, 0, i, q, h, _, _ => by omega
  | L, fuel + 1, i, q, hL, hi, hf => by
    unfold SetTable.layClean.free
    have hre : SetTable.runEnd mask i ≤ mask ∧ i ≤ SetTable.runEnd mask i := by
      unfold SetTable.runEnd
      split <;> omega
    cases e : (List.range (SetTable.runEnd mask i + 1 - i)).find? fun k => (ow.getD (i + k) (some 0)).isNone with
    | some k =>
      obtain ⟨h1, h2, h3⟩ := find_range e
      refine ⟨i + k, rfl, by omega, fun z => ?_, way_more k _ i (by omega) fun x hx => (own_iff (by omega)).mp (h3 x hx)⟩
      rw [(own_iff (by omega)).mpr z] at h2
      cases h2
    | none =>
      have all := List.find?_eq_none.mp e
      have tk : ∀ x, x ≤ SetTable.runEnd mask i - i → own ow (i + x) := fun x hx => by
        have := all x (List.mem_range.mpr (by omega))
        exact (own_iff (by omega)).mp (Bool.eq_false_iff.mpr this)
      cases L with
      | zero => exact absurd (tk 0 (Nat.zero_le _)) hf
      | succ L =>
        obtain ⟨j, g1, g2, g3, g4⟩ := free_ok hs L fuel (SetTable.leap mask i q).1 (SetTable.leap mask i q).2 (by omega) (Nat.le_of_lt_succ (Nat.mod_lt _ (Nat.succ_pos _))) hf
        exact ⟨j, g1, g2, g3, way_all g4 _ i tk⟩
structure Lay (mask : Nat) (don : List Int) (ow : Array (Option Nat)) : Prop where
  size : ow.size = mask + 1
  get : ∀ j k : Nat, ow[j]? = some (some k) → ∃ h, don[k]? = some h ∧ Way mask (own ow) (st mask h) j
  all : ∀ k : Nat, k < don.length → ∃ j : Nat, ow[j]? = some (some k)
  inj : ∀ j j' k : Nat, ow[j]? = some (some k) → ow[j']? = some (some k) → j = j'
theorem Lay.free {mask : Nat} {don : List Int} {ow : Array (Option Nat)} (Y : Lay mask don ow) (h : don.length ≤ mask) : ∃ j, j ≤ mask ∧ ¬ own ow j := by
  have hg : ∀ k : Nat, ∃ j : Nat, k < don.length → ow[j]? = some (some k) := fun k => by
    by_cases c : k < don.length
    · obtain ⟨j, hj⟩ := Y.all k c
      exact ⟨j, fun _ => hj⟩
    · exact ⟨0, fun z => absurd z c⟩
  obtain ⟨g, hg⟩ := Classical.axiomOfChoice hg
  obtain ⟨j, h1, h2⟩ := free_one (m := mask) (l := (List.range don.length).map g) (by rw [List.length_map, List.length_range]; exact h)
  refine ⟨j, h1, fun z => h2 ?_⟩
  obtain ⟨k, hk⟩ := z
  obtain ⟨hh, hd, _⟩ := Y.get j k hk
  have hkl : k < don.length := by
    refine Nat.lt_of_not_ge fun z => ?_
    rw [List.getElem?_eq_none z] at hd
    cases hd
  have := Y.inj _ _ _ (hg k hkl) hk
  exact List.mem_map.mpr ⟨k, List.mem_range.mpr hkl, this⟩
theorem Lay.step {mask : Nat} {don : List Int} {ow : Array (Option Nat)} (ok : okM mask) (Y : Lay mask don ow) (hn : don.length ≤ mask) (h : Int) :
    ∃ j, SetTable.layClean.free mask ow (SetTable.turns mask) (SetTable.bits h % (mask + 1)) (SetTable.bits h) = some j ∧ Lay mask (don ++ [h]) (ow.setIfInBounds j (some don.length)) := by
  obtain ⟨f, hf1, hf2⟩ := Y.free hn
  obtain ⟨L, hL, e⟩ := leaps_all (q := SetTable.bits h) (i := SetTable.bits h % (mask + 1)) ok (Nat.le_of_lt_succ (Nat.mod_lt _ (Nat.succ_pos _))) (bits_lt h) hf1
  obtain ⟨j, g1, g2, g3, g4⟩ := free_ok Y.size L (SetTable.turns mask) _ _ (by unfold SetTable.turns; omega) (Nat.le_of_lt_succ (Nat.mod_lt _ (Nat.succ_pos _))) (by rw [e]; exact hf2)
  have hj : j < ow.size := by rw [Y.size]; omega
  have get : ∀ x : Nat, (ow.setIfInBounds j (some don.length))[x]? = if j = x then some (some don.length) else ow[x]? := fun x => by
    rw [Array.getElem?_setIfInBounds]
    by_cases c : j = x
    · rw [if_pos c, if_pos c, if_pos hj]
    · rw [if_neg c, if_neg c]
  have hsz : (ow.setIfInBounds j (some don.length)).size = mask + 1 := by rw [Array.size_setIfInBounds]; exact Y.size
  have mono : ∀ x, own ow x → own (ow.setIfInBounds j (some don.length)) x := fun x z => by
    obtain ⟨k, hk⟩ := z
    unfold own
    rw [get]
    by_cases c : j = x
    · exact ⟨_, if_pos c⟩
    · exact ⟨k, by rw [if_neg c]; exact hk⟩
  have free_j : ∀ k : Nat, ow[j]? ≠ some (some k) := fun k z => g3 ⟨k, z⟩
  refine ⟨j, g1, hsz, fun x k hk => ?_, fun k hk => ?_, fun x y k hx hy => ?_⟩
  · rw [get] at hk
    split at hk
    · rename_i c
      cases hk
      subst c
      exact ⟨h, by simp, g4.mono mono⟩
    · obtain ⟨h', e1, e2⟩ := Y.get x k hk
      refine ⟨h', ?_, e2.mono mono⟩
      rw [List.getElem?_append, if_pos]
      · exact e1
      · refine Nat.lt_of_not_ge fun z => ?_
        rw [List.getElem?_eq_none z] at e1
        cases e1
  · rw [List.length_append, List.length_singleton] at hk
    by_cases c : k < don.length
    · obtain ⟨x, hx⟩ := Y.all k c
      refine ⟨x, ?_⟩
      rw [get, if_neg]
      · exact hx
      · intro z
        subst z
        exact free_j _ hx
    · exact ⟨j, by rw [get, if_pos rfl, show k = don.length by omega]⟩
  · have big : ∀ x : Nat, ow[x]? = some (some don.length) → False := fun x z => by
      obtain ⟨h', e1, _⟩ := Y.get x _ z
      rw [List.getElem?_eq_none (Nat.le_refl _)] at e1
      cases e1
    rw [get] at hx hy
    split at hx
    · cases hx
      split at hy
      · omega
      · exact (big _ hy).elim
    · split at hy
      · cases hy
        exact (big _ hx).elim
      · exact Y.inj x y k hx hy
theorem fold_ok {mask : Nat} (ok : okM mask) : ∀ (hs don : List Int) (ow : Array (Option Nat)), Lay mask don ow → don.length + hs.length ≤ mask →
    ∃ ow', hs.foldl (fun acc h => do
      let (owner, k) ← acc
      let j ← SetTable.layClean.free mask owner (SetTable.turns mask) (SetTable.bits h % (mask + 1)) (SetTable.bits h)
      pure (owner.setIfInBounds j (some k), k + 1)) (some (ow, don.length)) = some (ow', (don ++ hs).length) ∧ Lay mask (don ++ hs) ow'
  | [], don, ow, Y, _ => ⟨ow, by rw [List.append_nil]; rfl, by rw [List.append_nil]; exact Y⟩
  | h :: hs, don, ow, Y, hn => by
    rw [List.length_cons] at hn
    obtain ⟨j, e, Y2⟩ := Y.step ok (by omega) h
    obtain ⟨ow', e2, Y3⟩ := fold_ok ok hs (don ++ [h]) _ Y2 (by rw [List.length_append, List.length_singleton]; omega)
    rw [List.append_assoc] at e2 Y3
    refine ⟨ow', ?_, Y3⟩
    rw [List.foldl_cons]
    rw [List.length_append, List.length_singleton] at e2
    refine Eq.trans ?_ e2
    congr 1
    show (do
      let j ← SetTable.layClean.free mask ow (SetTable.turns mask) (SetTable.bits h % (mask + 1)) (SetTable.bits h)
      pure (ow.setIfInBounds j (some don.length), don.length + 1)) = _
    rw [e]
    rfl
theorem clean_ok {mask : Nat} (ok : okM mask) (hs : Array Int) (hn : hs.size ≤ mask) : ∃ ow, SetTable.layClean mask hs = some ow ∧ Lay mask hs.toList ow := by
  have no : ∀ j k : Nat, (Array.replicate (mask + 1) (none : Option Nat))[j]? ≠ some (some k) := fun j k h => by
    rw [Array.getElem?_replicate] at h
    split at h
    · cases h
    · cases h
  obtain ⟨ow, e, Y⟩ := fold_ok ok hs.toList [] (Array.replicate (mask + 1) none) ⟨by simp, fun j k h => (no j k h).elim, fun k h => absurd h (Nat.not_lt_zero _), fun j j' k h => (no j k h).elim⟩ (by simpa using hn)
  refine ⟨ow, ?_, Y⟩
  unfold SetTable.layClean
  rw [← Array.foldl_toList]
  show Option.map _ (List.foldl _ (some (_, ([] : List Int).length)) hs.toList) = _
  rw [e]
  rfl
theorem fm_get {es : Array (Int × Value)} : ∀ (l : List Nat), (∀ k ∈ l, k < es.size) → ∀ i : Nat, (l.filterMap fun k => es[k]?)[i]? = l[i]?.bind fun k => es[k]?
  | [], _, i => by simp
  | k :: l, h, i => by
    have hk : es[k]? = some (es[k]'(h k (List.mem_cons_self ..))) := Array.getElem?_eq_getElem _
    rw [List.filterMap_cons_some hk]
    cases i with
    | zero => simp [hk]
    | succ i =>
      rw [List.getElem?_cons_succ, List.getElem?_cons_succ]
      exact fm_get l (fun k hk => h k (List.mem_cons_of_mem _ hk)) i
theorem laid_ok {mask : Nat} (ok : okM mask) (es : Array (Int × Value)) (hn : es.size ≤ mask) (finger moves : Nat) (led plain : Bool) :
    ∃ t' order, SetTable.laid mask finger moves led plain (es.map (·.1)) = some (t', order) ∧ TabOk t' (order.filterMap fun k => es[k]?) ∧ (order.filterMap fun k => es[k]?).toList.Perm es.toList ∧ t'.led = led ∧ t'.plain = plain ∧ t'.mask = mask := by
  obtain ⟨ow, e, Y⟩ := clean_ok ok (es.map (·.1)) (by rw [Array.size_map]; exact hn)
  have hlen : (es.map (·.1)).toList.length = es.size := by rw [Array.length_toList, Array.size_map]
  unfold SetTable.laid
  rw [e]
  refine ⟨_, _, rfl, ?_⟩
  generalize hl : ((List.range (mask + 1)).filterMap fun j => (ow.getD j none).map fun x => (j, x)) = live
  have gd : ∀ j k : Nat, ow.getD j none = some k ↔ ow[j]? = some (some k) := fun j k => by
    by_cases c : j < ow.size
    · rw [show ow.getD j none = ow[j] by simp [Array.getD, c], Array.getElem?_eq_getElem c]
      simp
    · rw [show ow.getD j none = none by simp [Array.getD, c], Array.getElem?_eq_none (by omega)]
      simp
  have mem : ∀ x ∈ live, x.1 ≤ mask ∧ ow[x.1]? = some (some x.2) := fun x hx => by
    rw [← hl] at hx
    obtain ⟨j, hj, hx⟩ := List.mem_filterMap.mp hx
    obtain ⟨k, hk, rfl⟩ := Option.map_eq_some_iff.mp hx
    exact ⟨Nat.le_of_lt_succ (List.mem_range.mp hj), (gd j k).mp hk⟩
  have lt : ∀ x ∈ live, x.2 < es.size := fun x hx => by
    obtain ⟨h', e1, _⟩ := Y.get _ _ (mem x hx).2
    rw [← hlen]
    refine Nat.lt_of_not_ge fun z => ?_
    rw [List.getElem?_eq_none z] at e1
    cases e1
  have hup : live.Pairwise fun a b => a.1 < b.1 := by
    rw [← hl]
    refine List.Pairwise.filterMap _ (R := fun a b : Nat => a < b) (fun a b hab x hx y hy => ?_) List.pairwise_lt_range
    obtain ⟨k, hk, rfl⟩ := Option.map_eq_some_iff.mp hx
    obtain ⟨k', hk', rfl⟩ := Option.map_eq_some_iff.mp hy
    exact hab
  have hnd : (live.map (·.2)).Nodup := by
    refine List.pairwise_map.mpr ?_
    refine List.Pairwise.imp_of_mem (fun {a b} ha hb hab z => ?_) hup
    have h1 := (mem a ha).2
    have h2 := (mem b hb).2
    rw [z] at h1
    exact Nat.ne_of_lt hab (Y.inj _ _ _ h1 h2)
  have hperm : (live.map (·.2)).Perm (List.range es.size) := by
    refine (List.perm_ext_iff_of_nodup hnd List.nodup_range).mpr fun k => ?_
    constructor
    · intro hk
      obtain ⟨x, hx, rfl⟩ := List.mem_map.mp hk
      exact List.mem_range.mpr (lt x hx)
    · intro hk
      obtain ⟨j, hj⟩ := Y.all k (by rw [hlen]; exact List.mem_range.mp hk)
      refine List.mem_map.mpr ⟨(j, k), ?_, rfl⟩
      rw [← hl]
      refine List.mem_filterMap.mpr ⟨j, List.mem_range.mpr ?_, ?_⟩
      · rw [← Y.size]
        exact some_lt hj
      · rw [(gd j k).mpr hj]
        rfl
  have hes : (((live.map (·.2)).toArray.filterMap fun k => es[k]?)).toList = (live.map (·.2)).filterMap fun k => es[k]? := by
    rw [Array.toList_filterMap, List.toList_toArray]
  have gete : ∀ i : Nat, ((live.map (·.2)).toArray.filterMap fun k => es[k]?)[i]? = (live[i]?).bind fun x => es[x.2]? := fun i => by
    rw [← Array.getElem?_toList, hes, fm_get _ (fun k hk => by
      obtain ⟨x, hx, rfl⟩ := List.mem_map.mp hk
      exact lt x hx), List.getElem?_map]
    cases live[i]? <;> rfl
  have getp : ∀ i j : Nat, (live.map (·.1)).toArray[i]? = some j → ∃ k, live[i]? = some (j, k) := fun i j h => by
    rw [List.getElem?_toArray, List.getElem?_map] at h
    obtain ⟨x, hx, rfl⟩ := Option.map_eq_some_iff.mp h
    exact ⟨x.2, hx⟩
  have hpe : ((live.map (·.2)).toArray.filterMap fun k => es[k]?).toList.Perm es.toList := by
    rw [hes]
    exact (hperm.filterMap _).trans (by rw [filterMap_getElem?_range])
  refine ⟨⟨ok, rfl, ?_, ?_, ?_, ?_⟩, hpe, rfl, rfl, rfl⟩
  · show (live.map (·.1)).toArray.size = _
    rw [← Array.length_toList (xs := (live.map (·.2)).toArray.filterMap _), hpe.length_eq, Array.length_toList, List.size_toArray, List.length_map]
    have := hperm.length_eq
    rw [List.length_map, List.length_range] at this
    exact this
  · intro a b x y hab hx hy
    obtain ⟨k, hk⟩ := getp a x hx
    obtain ⟨k', hk'⟩ := getp b y hy
    have ha := (List.getElem?_eq_some_iff.mp hk)
    have hb := (List.getElem?_eq_some_iff.mp hk')
    have := List.pairwise_iff_getElem.mp hup a b ha.1 hb.1 hab
    rw [ha.2, hb.2] at this
    exact this
  · intro a x hx
    obtain ⟨k, hk⟩ := getp a x hx
    exact (mem _ (List.mem_of_getElem? hk)).1
  · intro i j e hj he
    obtain ⟨k, hk⟩ := getp i j hj
    rw [gete, hk] at he
    have he : es[k]? = some e := he
    obtain ⟨h', e1, e2⟩ := Y.get j k (mem _ (List.mem_of_getElem? hk)).2
    have e3 : h' = e.1 := by
      rw [Array.getElem?_toList, Array.getElem?_map, he] at e1
      exact (Option.some.inj e1).symm
    subst e3
    refine e2.mono fun x hx => ?_
    show ∃ i : Nat, (live.map (·.1)).toArray[i]? = some x
    obtain ⟨k', hk'⟩ := hx
    have : (x, k') ∈ live := by
      rw [← hl]
      refine List.mem_filterMap.mpr ⟨x, List.mem_range.mpr (by rw [← Y.size]; exact some_lt hk'), ?_⟩
      rw [(gd x k').mpr hk']
      rfl
    obtain ⟨i', hi', e'⟩ := List.getElem_of_mem this
    refine ⟨i', ?_⟩
    rw [List.getElem?_toArray, List.getElem?_map, List.getElem?_eq_getElem hi', e']
    rfl
end Tab
end L2
namespace L2
open PySem PySem.Spec PyProof.Rows PySem.W
section
variable {P : Program} {w : World} {A : Around} {E : Value → Shared → Prop} {s : Shared}
abbrev IsTu (P : Program) (w : World) (h : Heap) (ks : List Str) (a : Addr) : Prop := IsTupleKey (strKind P w) h ks a
abbrev hTu (P : Program) (w : World) (ks : List Str) : Int := tupleKeyHash (strKind P w) ks
theorem items_strs {ks : List Str} {vs : List Value} (h : ItemsAre (strKind P w) ks vs) : ∀ v ∈ vs, ∃ x t, v = Value.str x t := by
  induction h with
  | nil => exact fun v hv => nomatch hv
  | cons h _ ih =>
    intro v hv
    rcases List.mem_cons.mp hv with rfl | hv
    · obtain ⟨_, t, e⟩ := isStr_key h
      exact ⟨_, t, e⟩
    · exact ih v hv
theorem wp_seqItems? {a : Addr} {o : Obj} {items n} {Q : Option (Array Value) → Shared → Prop} (ho : s.heap.get? a = some o) (hd : o.data = .seq items n) (h : Q (some items) s) : wpAny (model P w) A (seqItems? (.ref a)) Q E s := by
  unfold seqItems?
  refine wpAny_bind (wpAny_load ho ?_)
  rw [hd]
  exact wpAny_pure h
theorem not_class {ks : List Str} {a : Addr} {Q : Bool → Shared → Prop} (hk : IsTu P w s.heap ks a) (h : Q false s) : wpAny (model P w) A (ofAClassStatement 8 (.ref a)) Q E s := by
  have hT := hk.typeIs
  obtain ⟨o, items, n, ho, hc, hd, hi⟩ := hk
  unfold ofAClassStatement
  refine wpAny_bind (wpAny_typeOf hT ?_)
  dsimp only
  rw [if_pos (by decide)]
  refine wpAny_bind (wpAny_pure ?_)
  simp only [Bool.not_true, Bool.false_eq_true, if_false]
  refine wpAny_bind (wp_seqItems? ho hd ?_)
  dsimp only
  refine wpAny_bind ?_
  rw [← Array.forIn_toList]
  refine wpAny_forIn_list _ (fun rest r s' => r.1 = none ∧ s' = s ∧ ∀ v ∈ rest, ∃ x t, v = Value.str x t) _ ?_ ?_ _ _ ⟨rfl, rfl, items_strs hi⟩
  · rintro v rest r s' ⟨hr, rfl, hall⟩
    obtain ⟨x, t, rfl⟩ := hall v List.mem_cons_self
    refine wpAny_bind (m := ofAClassStatement 7 (Value.str x t)) (wpAny_pure ?_)
    simp only [Bool.false_eq_true, if_false]
    exact wpAny_pure ⟨rfl, rfl, fun u hu' => hall u (List.mem_cons_of_mem _ hu')⟩
  · rintro ⟨r1, r2⟩ s' ⟨hr, rfl, _⟩
    simp only at hr
    subst hr
    exact wpAny_pure h
theorem hash_by {ks : List Str} {a : Addr} {Q : Bool → Shared → Prop} (hk : IsTu P w s.heap ks a) (h : Q (decide (ks = [])) s) : wpAny (model P w) A (hashByValue 8 (.ref a)) Q E s := by
  have hT := hk.typeIs
  obtain ⟨o, items, n, ho, hc, hd, hi⟩ := hk
  unfold hashByValue
  refine wpAny_bind (wpAny_specialOf hT F.slot_tuple_hash.lookup ?_)
  refine wpAny_bind (wp_seqItems? ho hd ?_)
  refine wpAny_bind ?_
  show wpAny _ _ (forIn items _ _) _ _ s
  rw [← Array.forIn_toList]
  cases hi' : items.toList with
  | nil =>
    rw [hi'] at hi
    cases hi
    exact wpAny_pure (wpAny_pure h)
  | cons v r =>
    rw [hi'] at hi
    cases hi with
    | @cons k _ ks' _ h1 h2 =>
      obtain ⟨_, t, rfl⟩ := isStr_key h1
      rw [List.forIn_cons]
      refine wpAny_bind (wpAny_bind (m := hashByValue 7 (Value.str k t)) (wpAny_pure ?_))
      simp only [Bool.not_false, if_true]
      exact wpAny_pure (wpAny_pure (wpAny_pure (by simpa using h)))
theorem not_seen {ks : List Str} {x : Addr} (hx : IsTu P w s.heap ks x) (l : List Value) (hl : ∀ v ∈ l, ∃ b kb, v = Value.ref b ∧ IsTu P w s.heap kb b) {Q : Bool → Shared → Prop} (h : Q false s) : wpAny (model P w) A (searchCouldBeSeen (.ref x) l) Q E s := by
  unfold searchCouldBeSeen
  refine wpAny_bind ?_
  refine wpAny_forIn_list _ (fun rest r s' => r.1 = none ∧ s' = s ∧ ∀ v ∈ rest, ∃ b kb, v = Value.ref b ∧ IsTu P w s.heap kb b) _ ?_ ?_ _ _ ⟨rfl, rfl, hl⟩
  · rintro v rest r s' ⟨hr, rfl, hall⟩
    obtain ⟨b, kb, rfl, hb⟩ := hall v List.mem_cons_self
    have go : ∀ u ∈ rest, ∃ b kb, u = Value.ref b ∧ IsTu P w s'.heap kb b := fun u hu' => hall u (List.mem_cons_of_mem _ hu')
    dsimp only
    refine wpAny_ite_split (fun _ => wpAny_pure ⟨rfl, rfl, go⟩) fun _ => ?_
    refine wpAny_bind (wpAny_eqIsQuiet_tuple hx ?_)
    simp only [Bool.not_true, Bool.false_eq_true, if_false]
    refine wpAny_bind (wpAny_eqIsQuiet_tuple hb ?_)
    simp only [Bool.not_true, Bool.false_eq_true, if_false]
    refine wpAny_bind (not_class hx ?_)
    simp only [Bool.false_eq_true, if_false]
    refine wpAny_bind (not_class hb ?_)
    simp only [Bool.false_eq_true, if_false]
    exact wpAny_pure ⟨rfl, rfl, go⟩
  · rintro ⟨r1, r2⟩ s' ⟨hr, rfl, _⟩
    simp only at hr
    subst hr
    exact wpAny_pure h
def ent (P : Program) (w : World) (x : Addr × List Str) : Int × Value := (hTu P w x.2, .ref x.1)
def TuS (P : Program) (w : World) (h : Heap) (a : Addr) (xs : List (Addr × List Str)) : Prop :=
  ∃ o es ep t, h.get? a = some o ∧ o.ExactSet ∧ o.data = .set es ep t ∧ Tab.TabOk t es ∧ es.size * 5 < t.mask * 3 ∧ t.led = !byTxt w ∧ es.toList = xs.map (ent P w) ∧ (xs.map (·.2)).Nodup ∧ ∀ x ∈ xs, x.2 ≠ [] → t.plain = false
def KeysIn (P : Program) (w : World) (h : Heap) (xs : List (Addr × List Str)) : Prop := ∀ x ∈ xs, IsTu P w h x.2 x.1
theorem good_adv {mask : Nat} {p : SetTable.Probe} (h : p.j + p.more ≤ mask) : (Tab.adv mask p).j + (Tab.adv mask p).more ≤ mask := by
  unfold Tab.adv
  split
  · dsimp only
    omega
  · have h1 : (SetTable.leap mask p.i p.perturb).1 ≤ mask := Nat.le_of_lt_succ (Nat.mod_lt _ (Nat.succ_pos _))
    dsimp only
    unfold SetTable.runEnd
    split <;> omega
theorem way_le {mask : Nat} {oc : Nat → Prop} {p : SetTable.Probe} {j : Nat} (h : Tab.Way mask oc p j) : p.j + p.more ≤ mask → j ≤ mask := by
  induction h with
  | here p => intro h; omega
  | next _ _ ih => exact fun h => ih (good_adv h)
theorem st_good (mask : Nat) (h : Int) : (Tab.st mask h).j + (Tab.st mask h).more ≤ mask := by
  have h1 : SetTable.bits h % (mask + 1) ≤ mask := Nat.le_of_lt_succ (Nat.mod_lt _ (Nat.succ_pos _))
  unfold Tab.st Tab.run
  dsimp only
  unfold SetTable.runEnd
  split <;> omega
theorem search_tup {a : Addr} {o : Obj} {es : Array (Int × Value)} {ep : Nat} {t : SetTable} {xs : List (Addr × List Str)} {x : Addr} {ks : List Str} (hu : A.units < cLine) (ho : s.heap.get? a = some o) (hd : o.data = .set es ep t) (T : Tab.TabOk t es) (hr : es.size ≤ t.mask)
    (hes : es.toList = xs.map (ent P w)) (hk : KeysIn P w s.heap xs) (hx : IsTu P w s.heap ks x) {Q : SetFound → Shared → Prop}
    (h1 : ks ∈ xs.map (·.2) → Q (.there none) s)
    (h2 : ks ∉ xs.map (·.2) → ∀ j, j ≤ t.mask → ¬ Tab.occ t j → Tab.Way t.mask (Tab.occ t) (Tab.st t.mask (hTu P w ks)) j → Q (.free j false) s) :
    ∀ (n fuel : Nat) (stand : Option SetTable.Probe) (p : SetTable.Probe), stand.getD (t.probeStart (hTu P w ks)) = p → p.dummy = none → n < fuel → n < 10 * SetTable.turns t.mask → Tab.Ends t.mask (Tab.occ t) p n →
      (∀ j, Tab.Way t.mask (Tab.occ t) p j → Tab.Way t.mask (Tab.occ t) (Tab.st t.mask (hTu P w ks)) j) →
      (∀ (i j : Nat) b, t.place[i]? = some j → xs[i]? = some (b, ks) → Tab.Way t.mask (Tab.occ t) p j) →
      wpAny (model P w) A (setSearchFrom a (.ref x) (hTu P w ks) true fuel stand) Q E s := by
  have hf : t.fits es.size = true := T.fits hr
  have hgw : t.gaveWay = false := by
    unfold SetTable.gaveWay
    rcases T.m with e | e | e <;> rw [e] <;> rfl
  have ges : ∀ i : Nat, es[i]? = (xs[i]?).map (ent P w) := fun i => by rw [← Array.getElem?_toList, hes, List.getElem?_map]
  have hA : ∀ (i : Nat) e, es[i]? = some e → (es[i]?.map (·.1)).getD 0 = e.1 := fun i e he => by rw [he]; rfl
  intro n
  induction n using Nat.strongRecOn with
  | _ n ih =>
    intro fuel stand p hp hd0 hn hn2 hE hW hS
    cases fuel with
    | zero => omega
    | succ fuel =>
      unfold setSearchFrom
      refine wpAny_bind (wpAny_setState_of ho hd hf ?_)
      dsimp only
      rw [hgw]
      simp only [Bool.false_eq_true, if_false]
      rw [hp]
      have none_of : ∀ q : SetTable.Probe, ¬ Tab.occ t q.j → (∀ (i j : Nat) e, t.place[i]? = some j → es[i]? = some e → e.1 = hTu P w ks → Tab.Way t.mask (Tab.occ t) p j → Tab.Way t.mask (Tab.occ t) q j) → ks ∉ xs.map (·.2) := fun q g2 g4 hm => by
        obtain ⟨y, hy, e⟩ := List.mem_map.mp hm
        obtain ⟨i, hi, ei⟩ := List.getElem_of_mem hy
        have hi' : xs[i]? = some y := by rw [List.getElem?_eq_getElem hi, ei]
        have hie : es[i]? = some (ent P w y) := by rw [ges, hi']; rfl
        have hl : i < t.place.size := by rw [T.sz]; exact Tab.some_lt hie
        obtain ⟨jj, hpl⟩ : ∃ jj, t.place[i]? = some jj := ⟨_, Array.getElem?_eq_getElem hl⟩
        have yb : y = (y.1, ks) := Prod.ext rfl e
        have wq := g4 i _ _ hpl hie (by show hTu P w y.2 = _; rw [e]) (hS i _ y.1 hpl (by rw [hi', ← yb]))
        cases wq with
        | here => exact g2 ⟨i, hpl⟩
        | next z _ => exact g2 z
      rcases Tab.go_meets T (hashAt := fun i => (es[i]?.map (·.1)).getD 0) hA (hTu P w ks) (10 * SetTable.turns t.mask) n p hd0 hn2 hE with ⟨q, g1, g2, g3, g4⟩ | ⟨q, i, m, e, g1, g2, g3, g4, g5, g6, g7, g8, g9⟩
      · unfold SetTable.probe
        erw [g1]
        dsimp only
        have wq := hW _ (g3 _ (.here q))
        exact wpAny_pure (h2 (none_of q g2 g4) q.j (way_le wq (st_good _ _)) g2 wq)
      · unfold SetTable.probe
        erw [g1]
        dsimp only
        obtain ⟨y, hy, rfl⟩ : ∃ y, xs[i]? = some y ∧ ent P w y = e := by
          rw [ges] at g4
          exact Option.map_eq_some_iff.mp g4
        have hym : y ∈ xs := List.mem_of_getElem? hy
        have hS' : y.2 ≠ ks → ∀ (i j : Nat) b, t.place[i]? = some j → xs[i]? = some (b, ks) → Tab.Way t.mask (Tab.occ t) (Tab.adv t.mask q) j := fun c i' j b k1 k2 => by
          have wq := g9 i' j (ent P w (b, ks)) k1 (by rw [ges, k2]; rfl) rfl (hS i' j b k1 k2)
          cases wq with
          | here =>
            have := Tab.up_inj T.up k1 g3
            subst this
            rw [hy] at k2
            cases k2
            exact absurd rfl c
          | next _ z => exact z
        refine wpAny_ite_split (fun _ => wpAny_bind (not_seen hx _ ?seen ?rest)) fun _ => ?rest2
        case seen =>
          intro v hv
          obtain ⟨e', he', rfl⟩ := List.mem_map.mp hv
          have he2 : e' ∈ es.toList := by
            rw [Array.toList_filter] at he'
            exact (List.mem_filter.mp he').1
          rw [hes] at he2
          obtain ⟨z, hz, rfl⟩ := List.mem_map.mp he2
          exact ⟨z.1, z.2, rfl, hk z hz⟩
        case' rest => simp only [Bool.false_eq_true, if_false]
        all_goals
          rw [show es[i]? = some (hTu P w y.2, Value.ref y.1) from g4]
          dsimp only
          refine wpAny_bind (wpAny_holding (wpAny_eqBool_tuple hu (hk y hym) hx ?_))
          refine wpAny_bind (wpAny_setState_of ho hd hf ?_)
          dsimp only
          by_cases c : y.2 = ks
          · rw [decide_eq_true c]
            simp only [Bool.and_self, if_true]
            exact wpAny_pure (h1 (List.mem_map.mpr ⟨y, hym, c⟩))
          · rw [decide_eq_false c]
            simp only [Bool.and_false, Bool.false_eq_true, if_false]
            rw [show t.sameMemory t.moves t.mask = some true by simp [SetTable.sameMemory]]
            dsimp only
            simp only [if_true]
            rcases Tab.slot_is T.up T.d q.j with ⟨i', hi', es'⟩ | ⟨no, _⟩
            · have := Tab.up_inj T.up hi' g3
              subst this
              rw [es']
              dsimp only
              rw [show es[i']? = some (hTu P w y.2, Value.ref y.1) from g4]
              dsimp only
              refine wpAny_bind (wpAny_isSame_ref_self ?_)
              simp only [if_true]
              refine wpAny_bind (wpAny_pure ?_)
              dsimp only
              exact ih m (by omega) fuel (some _) _ rfl (Tab.adv_none g2) (by omega) (by omega) g7 (fun j z => hW _ (g8 _ (.next ⟨i', g3⟩ z))) (hS' c)
            · exact absurd ⟨i, g3⟩ no
theorem setSearch_tup {a : Addr} {o : Obj} {es : Array (Int × Value)} {ep : Nat} {t : SetTable} {xs : List (Addr × List Str)} {x : Addr} {ks : List Str} (hu : A.units < cLine) (ho : s.heap.get? a = some o) (hd : o.data = .set es ep t) (T : Tab.TabOk t es) (hr : es.size ≤ t.mask)
    (hes : es.toList = xs.map (ent P w)) (hk : KeysIn P w s.heap xs) (hx : IsTu P w s.heap ks x) {Q : SetFound → Shared → Prop}
    (h1 : ks ∈ xs.map (·.2) → Q (.there none) s)
    (h2 : ks ∉ xs.map (·.2) → ∀ j, j ≤ t.mask → ¬ Tab.occ t j → Tab.Way t.mask (Tab.occ t) (Tab.st t.mask (hTu P w ks)) j → Q (.free j false) s) :
    wpAny (model P w) A (setSearch a (.ref x) (hTu P w ks) true) Q E s := by
  obtain ⟨f, f1, f2⟩ := Tab.free_one (m := t.mask) (l := t.place.toList) (by rw [Array.length_toList, T.sz]; exact hr)
  have ends := Tab.ends_st (occ := Tab.occ t) T.m (hTu P w ks) f1 fun ⟨i, hi⟩ => f2 (by rw [← Array.getElem?_toList] at hi; exact List.mem_of_getElem? hi)
  have hm : t.mask ≤ 127 := by rcases T.m with e | e | e <;> omega
  refine search_tup hu ho hd T hr hes hk hx h1 h2 _ 100000 none _ rfl rfl (by omega) (by unfold SetTable.turns; omega) ends (fun _ z => z) fun i j b k1 k2 => ?_
  exact T.way i j (ent P w (b, ks)) k1 (by rw [← Array.getElem?_toList, hes, List.getElem?_map, k2]; rfl)
theorem tus_store {h : Heap} {a : Addr} {o : Obj} {es : Array (Int × Value)} {ep : Nat} {t : SetTable} (ho : h.get? a = some o) (hex : o.ExactSet) (hd : o.data = .set es ep t) (es' : Array (Int × Value)) (t' : SetTable) :
    ∃ o', (h.update a (Obj.putSet es' t')).get? a = some o' ∧ o'.ExactSet ∧ o'.data = .set es' (ep + 1) t' := by
  refine ⟨{ o with data := .set es' (ep + 1) t' }, ?_, hex, rfl⟩
  have := Heap.get?_update_self (Obj.putSet es' t') ho (by rw [putSet_of es' t' hd]; rfl)
  rw [putSet_of es' t' hd] at this
  exact this
theorem perm_map_inv {α β : Type} {f : α → β} {l : List β} {xs : List α} (h : l.Perm (xs.map f)) : ∃ ys : List α, ys.Perm xs ∧ l = ys.map f := by
  induction xs generalizing l with
  | nil => exact ⟨[], .refl _, by simpa using h⟩
  | cons x xs ih =>
    rw [List.map_cons] at h
    have hm : f x ∈ l := h.mem_iff.mpr (List.mem_cons_self ..)
    obtain ⟨a, b, rfl⟩ := List.append_of_mem hm
    have h2 : (a ++ b).Perm (xs.map f) := (List.perm_cons (f x)).mp (List.perm_middle.symm.trans h)
    obtain ⟨ys, hy, e⟩ := ih h2
    obtain ⟨y1, y2, rfl, e1, e2⟩ := List.append_eq_map_iff.mp e
    exact ⟨y1 ++ x :: y2, List.perm_middle.trans (List.Perm.cons x hy), by rw [List.map_append, List.map_cons, e1, e2]⟩
theorem TabOk_plain {t : SetTable} {es : Array (Int × Value)} (T : Tab.TabOk t es) (b : Bool) : Tab.TabOk { t with plain := b } es := ⟨T.m, T.d, T.sz, T.up, T.le, T.way⟩
theorem add_tup {a x : Addr} {ks : List Str} {xs : List (Addr × List Str)} {Q : Bool → Shared → Prop} (hu : A.units < cLine) (hS : TuS P w s.heap a xs) (hk : KeysIn P w s.heap xs) (hx : IsTu P w s.heap ks x) (hroom : xs.length < 76)
    (h : ∀ b h' ys, Heap.SameBut a s.heap h' → TuS P w h' a ys → (if ks ∈ xs.map (·.2) then ys = xs else ys.Perm (xs ++ [(x, ks)])) → Q b { s with heap := h' }) :
    wpAny (model P w) A (setAddHashed a (.ref x) (hTu P w ks)) Q E s := by
  obtain ⟨o, es, ep, t, ho, hex, hd, T, hr, hled, hes, hnd, hpl⟩ := id hS
  have hn : es.size = xs.length := by rw [← Array.length_toList, hes, List.length_map]
  have hm : es.size + 1 ≤ t.mask := by rcases T.m with e | e | e <;> omega
  have hf := T.fits (by omega : es.size ≤ t.mask)
  unfold setAddHashed setAddHashedIn
  refine wpAny_holding (wpAny_bind (wpAny_setState_of ho hd hf ?_))
  dsimp only
  rw [show byScan (.ref x) es = false from rfl]
  simp only [Bool.false_eq_true, if_false]
  refine wpAny_bind (setSearch_tup hu ho hd T (by omega) hes hk hx (fun hm => ?_) fun hni j j1 j2 j3 => ?_)
  · dsimp only
    have e : s = { s with heap := s.heap } := by cases s; rfl
    have := h false s.heap xs (Heap.SameBut.refl a s.heap) hS (by rw [if_pos hm])
    rw [e]
    exact wpAny_pure this
  · dsimp only
    refine wpAny_bind (wpAny_setState_of ho hd hf ?_)
    dsimp only
    have T1 := Tab.put_ok T j1 j2 j3 (.ref x)
    have hsz1 : (SetTable.insertAt es (t.put j).2 (hTu P w ks, Value.ref x)).size = es.size + 1 := Tab.size_insertAt _
    have hp1 : (SetTable.insertAt es (t.put j).2 (hTu P w ks, Value.ref x)).toList.Perm ((xs ++ [(x, ks)]).map (ent P w)) := by
      refine (SetTable.insertAt_perm _ _ _).trans ?_
      rw [Array.toList_push, hes, List.map_append]
      exact .refl _
    have hmask : (t.put j).1.mask = t.mask := rfl
    have hld : (t.put j).1.led = t.led := rfl
    have hplp : (t.put j).1.plain = t.plain := rfl
    generalize SetTable.insertAt es (t.put j).2 (hTu P w ks, Value.ref x) = es1 at *
    generalize (t.put j).1 = t1 at *
    have hnd0 : ((xs ++ [(x, ks)]).map (·.2)).Nodup := by
      rw [List.map_append]
      exact List.nodup_append.mpr ⟨hnd, by simp, fun u hu v hv e => hni (by rw [show v = ks by simpa using hv] at e; exact e ▸ hu)⟩
    have tail : ∀ t2 : SetTable, Tab.TabOk t2 es1 → t2.mask = t.mask → t2.led = t.led → ((∃ y ∈ xs ++ [(x, ks)], y.2 ≠ []) → t2.plain = false) → wpAny (model P w) A (do
        storeSet a es1 t2
        if (!false && t2.tooFull) = true then do
            setRelay a (SetTable.grown (es.size + 1))
            pure true
          else pure true) Q E s := fun t2 T2 hm2 hl2 hpl2 => by
      have hf2 := T2.fits (by rw [hsz1, hm2]; exact hm)
      have hz1 : es1.size ≤ sizeLine := fits_of_scanBound (by rw [hsz1, hn]; unfold scanBound; omega)
      refine wpAny_bind (wpAny_storeSet_of ho hd ?_ hz1)
      obtain ⟨o1, ho1, hex1, hd1⟩ := tus_store ho hex hd es1 t2
      have hsb1 := Heap.SameBut.update s.heap a (Obj.putSet es1 t2)
      have hfill : t2.fill = es.size + 1 := by
        unfold SetTable.fill
        rw [T2.d, T2.sz, hsz1]
        rfl
      split
      · rename_i htf
        have htf : (es.size + 1) * 5 ≥ t.mask * 3 := by
          have : t2.tooFull = true := by simpa using htf
          unfold SetTable.tooFull at this
          rw [hfill, hm2] at this
          simpa using this
        obtain ⟨m', hm', hok', hsm, hroom'⟩ : ∃ m', SetTable.sizeAbove (SetTable.grown (es.size + 1)) = m' + 1 ∧ Tab.okM m' ∧ m' + 1 ≤ sizeLine ∧ (es.size + 1) * 5 < m' * 3 := by
          rcases T.m with e | e | e
          · have : es.size = 4 := by omega
            rw [this]
            exact ⟨31, by decide, .inr (.inl rfl), by decide, by decide⟩
          · have : es.size = 18 := by omega
            rw [this]
            exact ⟨127, by decide, .inr (.inr rfl), by decide, by decide⟩
          · omega
        unfold setRelay
        refine wpAny_bind (wpAny_bind (wpAny_setState_of ho1 hd1 hf2 ?_))
        dsimp only
        rw [hm', if_neg (by omega)]
        obtain ⟨t3, order, e3, T3, p3, l3, pl3, m3⟩ := Tab.laid_ok hok' es1 (by rw [hsz1]; omega) t2.finger (t2.movedTo m') t2.led t2.plain
        have e3' : t2.relaid (es1.map (·.1)) (SetTable.grown (es.size + 1)) = some (t3, order) := by
          unfold SetTable.relaid
          rw [hm', Nat.add_sub_cancel]
          exact e3
        rw [e3']
        refine wpAny_bind ?_
        show wpAny _ _ (if ((order.filterMap (es1[·]?)).size != es1.size) = true then unsupported _ else pure ((order.filterMap (es1[·]?)), t3)) _ _ _
        have hs3 : (order.filterMap (es1[·]?)).size = es1.size := by rw [← Array.length_toList, p3.length_eq, Array.length_toList]
        rw [if_neg (by rw [hs3]; simp)]
        refine wpAny_pure ?_
        dsimp only
        refine wpAny_storeSet_of ho1 hd1 (wpAny_pure ?_) (by rw [hs3]; exact hz1)
        obtain ⟨o2, ho2, hex2, hd2⟩ := tus_store ho1 hex1 hd1 (order.filterMap (es1[·]?)) t3
        obtain ⟨ys, hy, ey⟩ := perm_map_inv (p3.trans hp1)
        refine h true _ ys (hsb1.trans (Heap.SameBut.update _ a _)) ⟨o2, _, _, t3, ho2, hex2, hd2, T3, by rw [hs3, hsz1, m3]; exact hroom', by rw [l3, hl2, hled], ey, (hy.map _).nodup_iff.mpr hnd0, fun y hy' hne => by rw [pl3]; exact hpl2 ⟨y, hy.mem_iff.mp hy', hne⟩⟩ (by rw [if_neg hni]; exact hy)
      · rename_i htf
        have htf : (es.size + 1) * 5 < t.mask * 3 := by
          have : t2.tooFull = false := by simpa using htf
          unfold SetTable.tooFull at this
          rw [hfill, hm2] at this
          simpa using this
        obtain ⟨ys, hy, ey⟩ := perm_map_inv hp1
        exact wpAny_pure (h true _ ys hsb1 ⟨o1, _, _, t2, ho1, hex1, hd1, T2, by rw [hsz1, hm2]; exact htf, by rw [hl2, hled], ey, (hy.map _).nodup_iff.mpr hnd0, fun y hy' hne => hpl2 ⟨y, hy.mem_iff.mp hy', hne⟩⟩ (by rw [if_neg hni]; exact hy))
    split
    · rename_i hpl1
      refine wpAny_bind (hash_by hx ?_)
      by_cases c : ks = []
      · rw [decide_eq_true c]
        simp only [if_true]
        refine tail t1 T1 hmask hld fun ⟨y, hy, hne⟩ => ?_
        rcases List.mem_append.mp hy with hy | hy
        · rw [hplp]
          exact hpl y hy hne
        · rw [List.mem_singleton.mp hy] at hne
          exact absurd c hne
      · rw [decide_eq_false c]
        simp only [Bool.false_eq_true, if_false]
        exact tail _ (TabOk_plain T1 false) hmask hld fun _ => rfl
    · rename_i hpl1
      refine wpAny_bind (wpAny_pure ?_)
      simp only [if_true]
      exact tail t1 T1 hmask hld fun _ => by simpa using hpl1
end
end L2
namespace L2
open PySem PySem.Spec PyProof.Rows PySem.W
theorem isTu_got {prog : Program} {w : World} {h h' : Heap} {ks : List Str} {a : Addr} (x : IsTu prog w h ks a) (k : ∀ o, h.get? a = some o → h'.get? a = some o) : IsTu prog w h' ks a := by
  obtain ⟨o, items, n, ho, r⟩ := x
  exact ⟨o, items, n, k o ho, r⟩
theorem TuS.keep {P : Program} {w : World} {h h' : Heap} {a : Addr} {xs : List (Addr × List Str)} (x : TuS P w h a xs) (k : ∀ o, h.get? a = some o → h'.get? a = some o) : TuS P w h' a xs := by
  obtain ⟨o, es, ep, t, ho, r⟩ := x
  exact ⟨o, es, ep, t, k o ho, r⟩
theorem tus_fresh {P : Program} {w : World} {h : Heap} {a : Addr} (e : h.get? a = some { cls := .type "set", dict := none, data := .set #[] 0 (.fresh 0 0 (!byTxt w)) }) : TuS P w h a [] :=
  ⟨_, #[], 0, _, e, ⟨rfl, rfl, rfl⟩, rfl, ⟨.inl rfl, rfl, rfl, fun a b x y _ hx => by simp [SetTable.fresh] at hx, fun a x hx => by simp [SetTable.fresh] at hx, fun i j e hj => by simp [SetTable.fresh] at hj⟩, (show 0 < 21 by decide), rfl, rfl, List.nodup_nil, fun x hx => nomatch hx⟩
def InU (xs : List (Addr × List Str)) (i : Nat) (ys : List (Addr × List Str)) : Prop := (∀ ks, ks ∈ ys.map (·.2) ↔ ∃ (j : Nat) (x : Addr × List Str), j < i ∧ xs[j]? = some x ∧ x.2 = ks) ∧ ys.length ≤ i ∧ ∀ y ∈ ys, y ∈ xs
theorem InU.next {xs ys zs : List (Addr × List Str)} {i : Nat} {x : Addr × List Str} (h : InU xs i ys) (hx : xs[i]? = some x) (e : if x.2 ∈ ys.map (·.2) then zs = ys else zs.Perm (ys ++ [x])) : InU xs (i + 1) zs := by
  have step : ∀ ks, (∃ (j : Nat) (y : Addr × List Str), j < i + 1 ∧ xs[j]? = some y ∧ y.2 = ks) ↔ (∃ (j : Nat) (y : Addr × List Str), j < i ∧ xs[j]? = some y ∧ y.2 = ks) ∨ ks = x.2 := fun ks => by
    constructor
    · rintro ⟨j, y, hj, hy, rfl⟩
      rcases Nat.lt_or_ge j i with h1 | h1
      · exact .inl ⟨j, y, h1, hy, rfl⟩
      · rw [show j = i by omega, hx] at hy
        cases hy
        exact .inr rfl
    · rintro (⟨j, y, hj, hy, rfl⟩ | rfl)
      · exact ⟨j, y, by omega, hy, rfl⟩
      · exact ⟨i, x, Nat.lt_succ_self _, hx, rfl⟩
  by_cases c : x.2 ∈ ys.map (·.2)
  · rw [if_pos c] at e
    subst e
    refine ⟨fun ks => ?_, Nat.le_succ_of_le h.2.1, h.2.2⟩
    rw [step, ← h.1 ks]
    exact ⟨.inl, fun z => z.elim id fun q => q ▸ c⟩
  · rw [if_neg c] at e
    refine ⟨fun ks => ?_, ?_, fun y hy => ?_⟩
    · rw [step, (e.map _).mem_iff, List.map_append, List.mem_append, h.1 ks]
      simp
    · rw [e.length_eq, List.length_append]
      exact Nat.succ_le_succ h.2.1
    · rcases List.mem_append.mp (e.mem_iff.mp hy) with hy | hy
      · exact h.2.2 y hy
      · rw [List.mem_singleton.mp hy]
        exact List.mem_of_getElem? hx
section
variable {prog : Program} {w : World} {A : Around} {R : Result → Shared → Prop} {I : Addr} {fp wr : List Addr} {G : Array GenState → Array GenState → Prop} {n : Nat} {P : Nat → Value → Prop} {St : Nat → Shared → Prop}
theorem set_loopU (W : WalksS prog w A.in1 I fp wr G n P St) (S : Addr) (hSf : S ∉ fp) (xs : List (Addr × List Str)) (hval : ∀ i v, P i v → ∃ x, xs[i]? = some x ∧ v = .ref x.1) (hu : A.in1.units < cLine) (hn : n = xs.length) (hb : n ≤ 76) (hne : ∀ x ∈ xs, x.1 ∉ S :: wr) :
    ∀ (k i : Nat) (s : Shared) (ys : List (Addr × List Str)), n - i = k → i ≤ n → St i s → KeysIn prog w s.heap xs → TuS prog w s.heap S ys → InU xs i ys →
      (∀ s' zs, Moved (S :: wr) G s s' → TuS prog w s'.heap S zs → InU xs n zs → R (.ok (.ret .none)) s') →
      codeAny (model prog w) A (.builtin "set.update.loop" ⟨[.ref S, .ref I], []⟩) R s := by
  have hSw : S ∉ wr := fun h => hSf (W.sub _ h)
  have hsub : ∀ b ∈ wr, b ∈ S :: wr := fun b hb => List.mem_cons_of_mem _ hb
  intro k
  induction k with
  | zero =>
    intro i s ys hk hi hst hK hS hin hR
    have e : i = n := by omega
    subst e
    refine codeAny_builtin F.entry_set_update_loop ?_
    rw [Around.under_plainId F.plain_set_update_loop _]
    show wpAny _ A.in1 (pyNext (.ref I) >>= _) _ _ s
    refine wpAny_bind (W.done s _ _ hst fun s' hm => ?_)
    show wpAny _ A.in1 (ret Value.none) _ _ s'
    exact wpAny_pure (hR s' ys (hm.mono hsub) (hS.keep fun o e => hm.heap S o hSw e) hin)
  | succ k ih =>
    intro i s ys hk hi hst hK hS hin hR
    have hlt : i < n := by omega
    refine codeAny_builtin F.entry_set_update_loop ?_
    rw [Around.under_plainId F.plain_set_update_loop _]
    show wpAny _ A.in1 (pyNext (.ref I) >>= _) _ _ s
    refine wpAny_bind (W.item i s _ _ hlt hst fun v s' hP hst' hm => ?_)
    obtain ⟨x, hx, rfl⟩ := hval i v hP
    have hxm : x ∈ xs := List.mem_of_getElem? hx
    have hS' : TuS prog w s'.heap S ys := hS.keep fun o e => hm.heap S o hSw e
    have hK' : KeysIn prog w s'.heap xs := fun y hy => isTu_got (hK y hy) fun o e => hm.heap y.1 o (fun z => hne y hy (hsub _ z)) e
    show wpAny _ A.in1 (holding [Value.ref x.1] (setAdd S (.ref x.1)) >>= _) _ _ s'
    refine wpAny_bind (wpAny_holding ?_)
    unfold setAdd
    refine wpAny_holding ?_
    refine wpAny_bind (wpAny_pyHash_tuple hu (hK' x hxm) ?_)
    refine add_tup (s := { s' with toks := s'.toks + (x.2.length + 1) }) hu hS' (fun y hy => hK' y (hin.2.2 y hy)) (hK' x hxm) (by have := hin.2.1; omega) fun b h' zs hsb hS2 hz => ?_
    refine wpAny_pure ⟨plainId_quiet F.plain_set_update_loop _, ih (i + 1) _ zs (by omega) hlt (W.frame _ s' _ _ hst' (Nat.le_add_right _ _) fun b hb o e => ?_) (fun y hy => isTu_got (hK' y hy) fun o e => ?_) hS2 (hin.next hx hz) fun s'' us hm'' hS'' hu => ?_⟩
    · rw [hsb.2 b (fun h : b = S => hSf (by rw [← h]; exact hb))]
      exact e
    · exact (hsb.2 y.1 (fun h => hne y hy (by rw [h]; exact List.mem_cons_self))).trans e
    · refine hR s'' us (Moved.trans W.gtrans ((hm.mono hsub).then_heap (Nat.le_add_right _ _) fun b o hb e => ?_) hm'') hS'' hu
      rw [hsb.2 b (fun h : b = S => hb (by rw [h]; exact List.mem_cons_self))]
      exact e
end
section
variable {prog : Program} {w : World} {A : Around} {E : Value → Shared → Prop} {s : Shared}
set_option maxHeartbeats 3200000 in
theorem setU_list {l : Addr} {items : Array Value} {xs : List (Addr × List Str)} {Q : Value → Shared → Prop} (hu : A.units + 8 < cLine) (hh : A.handled = none) (hl : s.heap.IsList l items) (hi : items.toList = xs.map fun x => Value.ref x.1) (hk : KeysIn prog w s.heap xs) (hb : items.size ≤ 76)
    (h : ∀ (h' : Heap) (tk : Nat) (ys : List (Addr × List Str)), TuS prog w h' s.heap.objs.size ys → InU xs items.size ys → (∀ b o, b < s.heap.objs.size → s.heap.get? b = some o → h'.get? b = some o) → Q (.ref s.heap.objs.size) { s with heap := h', toks := tk }) :
    wpAny (model prog w) A (call (.type "set") [.ref l]) Q E s := by
  obtain ⟨c, tl, hmro⟩ := PySem.F.called_set.mro
  have hmade := PySem.F.called_set.made
  have hsub := PySem.F.called_set.sub
  refine wpAny_call (codeAny_of_tree ?_)
  show wpAny _ _ (callAny (.type "set") _) _ _ _
  refine wpAny_pure ⟨Code.quiet_builtin _ (by decide +kernel), codeAny_builtin PySem.F.entry_type_call ?_⟩
  rw [Around.under_plain (weight_type_call_type "set" [.ref l] []) rfl]
  have h1 := PySem.F.called_set.notType
  have h2 := PySem.F.called_set.canCreate
  have hct := PySem.F.typeCall_set_1 (.ref l)
  repeat (any_goals (first | assumption | wp_step))
  refine codeAny_mono (code_set_newT (.ref l) (E := E) (Q₁ := fun obj s₁ => obj = .ref s.heap.objs.size ∧ s₁ = { s with heap := s.heap.push { cls := .type "set", dict := none, data := .set #[] 0 (.fresh 0 0 (!byTxt w)) } }) ⟨rfl, rfl⟩) fun r s₁ hr => ?_
  cases r with
  | error e => exact hr
  | ok fl =>
    cases fl with
    | ret obj =>
      obtain ⟨rfl, rfl⟩ := hr
      have hS : (s.heap.push { cls := .type "set", dict := none, data := .set #[] 0 (.fresh 0 0 (!byTxt w)) }).get? s.heap.objs.size = some { cls := .type "set", dict := none, data := .set #[] 0 (.fresh 0 0 (!byTxt w)) } := Heap.get?_push_size _ rfl
      have hT : Shared.TypeIs { s with heap := s.heap.push { cls := .type "set", dict := none, data := .set #[] 0 (.fresh 0 0 (!byTxt w)) } } (.ref s.heap.objs.size) "set" := ⟨_, hS, rfl⟩
      have hli := PySem.F.called_set.init.lookup
      have hbi := PySem.F.called_set.init.bind (.ref s.heap.objs.size)
      repeat (any_goals (first | assumption | wp_step))
      refine codeAny_mono (codeAny_call_builtin (R := wants (fun r s₂ => r = .none ∧ ∃ h' tk ys, s₂ = { s with heap := h', toks := tk } ∧ TuS prog w h' s.heap.objs.size ys ∧ InU xs items.size ys ∧
          (∀ b o, b < s.heap.objs.size → s.heap.get? b = some o → h'.get? b = some o)) E) PySem.F.called_set.init.plain PySem.F.entry_set_init (check_set_init_1 hT ?_)) fun r₂ s₂ hr₂ => ?_
      · obtain ⟨ol, hol, hcl, nl, hdl⟩ := hl
        obtain ⟨ocls, odict, odata, oslots⟩ := ol
        simp only at hcl hdl
        subst hcl; subst hdl
        have hol' : (s.heap.push { cls := .type "set", dict := none, data := .set #[] 0 (.fresh 0 0 (!byTxt w)) }).get? l = some { cls := .type "list", dict := odict, data := .seq items nl, slots := oslots } := Heap.get?_push_of_some _ hol
        have hsls := sub_list_set'
        have hslf := sub_list_frozenset'
        have hne : (Value.type "list" == Value.type "dict") = false := by decide
        have hl1 : (s.heap.push { cls := .type "set", dict := none, data := .set #[] 0 (.fresh 0 0 (!byTxt w)) }).IsList l items := ⟨_, hol', rfl, nl, rfl⟩
        unfold Builtin.«set.__init__» noKeywords Builtin.Frozenset.updateFrom
        generalize hPI : pyIter = PI
        wp_walk
        subst hPI
        refine wpAny_pyIter_list hl1 ?_
        refine wpAny_bind (wpAny_runValue ?_)
        have hlS : l < s.heap.objs.size := Heap.lt_size hol
        have hh3 : A.in1.in1.in1.handled = none := by simp [hh]
        have hneI : l ≠ (s.heap.push { cls := .type "set", dict := none, data := .set #[] 0 (.fresh 0 0 (!byTxt w)) }).objs.size := by
          rw [Heap.size_push]; exact Nat.ne_of_lt (Nat.lt_succ_of_lt hlS)
        have hSf : s.heap.objs.size ∉ [(s.heap.push { cls := .type "set", dict := none, data := .set #[] 0 (.fresh 0 0 (!byTxt w)) }).objs.size, l] := by
          rw [Heap.size_push]; simp only [List.mem_cons, List.mem_singleton, List.not_mem_nil, or_false, not_or]
          exact ⟨Nat.ne_of_lt (Nat.lt_succ_self _), Nat.ne_of_gt hlS⟩
        have hlen : items.size = xs.length := by rw [← Array.length_toList, hi, List.length_map]
        have hval : ∀ (i : Nat) (v : Value), items[i]? = some v → ∃ x, xs[i]? = some x ∧ v = .ref x.1 := fun i v hv => by
          rw [← Array.getElem?_toList, hi, List.getElem?_map] at hv
          obtain ⟨x, hx, rfl⟩ := Option.map_eq_some_iff.mp hv
          exact ⟨x, hx, rfl⟩
        have hlt : ∀ x ∈ xs, x.1 < s.heap.objs.size := fun x hx => by
          obtain ⟨_, _, _, e, _⟩ := hk x hx
          exact Heap.lt_size e
        refine set_loopU ((Walks.list hh3 _ l hneI items).toS) s.heap.objs.size hSf xs hval (by show A.units + 3 < cLine; omega) (by rw [hlen]) hb (fun x hx => ?_) (items.size - 0) 0 _ [] (by omega) (Nat.zero_le _)
          ⟨⟨_, Heap.get?_push_size _ rfl, rfl, rfl⟩, (hl1.push _)⟩ (fun x hx => isTu_got (hk x hx) fun o e => Heap.get?_push_of_some _ (Heap.get?_push_of_some _ e)) (tus_fresh (Heap.get?_push_of_some _ hS)) ⟨fun x => ⟨(fun z => nomatch z), fun ⟨j, y, z, _⟩ => absurd z (Nat.not_lt_zero _)⟩, Nat.le_refl _, fun y hy => nomatch hy⟩ ?hR
        · have := hlt x hx
          rw [Heap.size_push]
          simp only [List.mem_cons, List.mem_singleton, List.not_mem_nil, or_false, not_or]
          exact ⟨Nat.ne_of_lt this, Nat.ne_of_lt (Nat.lt_succ_of_lt this)⟩
        case hR =>
          intro s' zs hm hS' hz
          obtain ⟨h', g', d', tk', os'⟩ := s'
          have eg : g' = s.gens := hm.gens
          have ed : d' = s.drawn := hm.drawn
          have eo : os' = s.os := hm.os
          subst eg; subst ed; subst eo
          show wpAny _ _ _ _ _ _
          refine wpAny_pure ?_
          show wpAny _ _ (ret Value.none) _ _ _
          refine wpAny_pure ⟨rfl, h', tk', zs, rfl, hS', hz, fun b o hb e => ?_⟩
          have hb1 : b ≠ s.heap.objs.size := Nat.ne_of_lt hb
          have hb2 : b ≠ (s.heap.push { cls := .type "set", dict := none, data := .set #[] 0 (.fresh 0 0 (!byTxt w)) }).objs.size := by
            rw [Heap.size_push]; exact Nat.ne_of_lt (Nat.lt_succ_of_lt hb)
          exact hm.heap b o (by simp only [List.mem_cons, List.mem_singleton, List.not_mem_nil, or_false, not_or]; exact ⟨hb1, hb2⟩) (Heap.get?_push_of_some _ (Heap.get?_push_of_some _ e))
      · cases r₂ with
        | error e => exact hr₂
        | ok fl₂ =>
          cases fl₂ with
          | ret r =>
            obtain ⟨rfl, h', tk, ys, rfl, hS', hz, hk'⟩ := hr₂
            repeat (any_goals (first | assumption | wp_step))
            exact h _ _ _ hS' hz hk'
          | _ => exact hr₂.elim
    | _ => exact hr.elim
end
end L2
namespace L2
open PySem PySem.Spec PyProof.Rows PySem.W
def RefsP (xs : List (Addr × List Str)) (vs : List Value) : Prop := vs.Perm (xs.map fun x => Value.ref x.1)
section
variable {prog : Program} {w : World} {A : Around} {E : Value → Shared → Prop} {s : Shared} {a : Addr} {xs : List (Addr × List Str)}
def GoodU (prog : Program) (w : World) (A : Around) (s : Shared) (S : Addr) (xs : List (Addr × List Str)) (it : Value) (s1 : Shared) : Prop :=
  ∃ (J : Addr) (fp : List Addr) (n : Nat) (P : Nat → Value → Prop) (St : Nat → Heap → Prop) (h1 : Heap) (d : Drawn), it = .ref J ∧ s1 = { s with heap := h1, drawn := d } ∧ (∀ b o, s.heap.get? b = some o → h1.get? b = some o) ∧
    Walks prog w A J fp [J] n P St ∧ St 0 h1 ∧ S ∉ fp ∧ s.heap.objs.size ≤ J ∧ n ≤ sizeLine ∧ ∀ acc, ItemsOf P acc n → RefsP xs acc.toList
theorem set_goodU (hh : A.handled = none) (x : TuS prog w s.heap a xs) {S : Addr} (hS : S < s.heap.objs.size) (hSa : S ≠ a) : wpAny (model prog w) A (pyIter (.ref a)) (GoodU prog w A s S xs) E s := by
  obtain ⟨o, es, ep, t, ho, hex, hd, T, hr, hled, exs, hnd, hpl0⟩ := x
  have al : a < s.heap.objs.size := Heap.lt_size ho
  have hm : t.mask ≤ 127 := by rcases T.m with e | e | e <;> omega
  have hsz : es.size ≤ sizeLine := fits_of_scanBound (by unfold scanBound; omega)
  have hf := T.fits (by omega : es.size ≤ t.mask)
  have hpl : 1 < es.size → t.plain = false := fun h1 => by
    rw [← Array.length_toList, exs, List.length_map] at h1
    match xs, h1, hnd, hpl0 with
    | u :: v :: r, _, hnd, hpl0 =>
      by_cases c : u.2 = []
      · refine hpl0 v (by simp) fun d => ?_
        rw [List.map_cons, List.map_cons] at hnd
        exact (List.nodup_cons.mp hnd).1 (by rw [c, d]; exact List.mem_cons_self ..)
      · exact hpl0 u (by simp) c
  have good : ∀ l : List Value, l.Perm (es.toList.map fun e => e.2) → RefsP xs l := fun l hp => by
    rw [exs, List.map_map] at hp
    exact hp
  refine txs_iter ho hex hd hf hsz (fun hdr ps d hp => ?_) (fun hnd2 => ?_)
  · have hT : ((s.heap.push (tupOf ps)).push (siObj (.ref s.heap.objs.size) 0 a es.size ep)).get? s.heap.objs.size = some (tupOf ps) := Heap.get?_push_of_some _ (Heap.get?_push_size _ rfl)
    have hI : ((s.heap.push (tupOf ps)).push (siObj (.ref s.heap.objs.size) 0 a es.size ep)).get? (s.heap.objs.size + 1) = some (siObj (.ref s.heap.objs.size) 0 a es.size ep) := by
      have := Heap.get?_push_size (s.heap.push (tupOf ps)) (o := siObj (.ref s.heap.objs.size) 0 a es.size ep) rfl
      rwa [Heap.size_push] at this
    refine ⟨_, _, _, _, _, _, d, rfl, rfl, fun b o e => Heap.get?_push_of_some _ (Heap.get?_push_of_some _ e), drawn_walks hh (Nat.ne_of_lt (Nat.lt_succ_self _)) (Nat.ne_of_lt (Nat.lt_succ_of_lt al)) hd hf hp, ⟨hI, hT, Heap.get?_push_of_some _ (Heap.get?_push_of_some _ ho)⟩, ?_, Nat.le_succ _, hsz, fun acc ha => ?_⟩
    · simp only [List.mem_cons, List.not_mem_nil, or_false, not_or]
      exact ⟨Nat.ne_of_lt (Nat.lt_succ_of_lt hS), Nat.ne_of_lt hS, hSa⟩
    · have e := items_map (L := ps) (f := fun p => ((es[p]?).map (·.2)).getD .none) (by rw [hp.length_eq, List.length_range]) (fun i v ⟨p, h, h1, h2⟩ => ⟨p, h1, by rw [h2]; rfl⟩) ha
      refine good _ ?_
      rw [e]
      refine (hp.map _).trans ?_
      refine List.Perm.of_eq ?_
      apply List.ext_getElem?
      intro j
      have e2 : es.toList[j]? = es[j]? := Array.getElem?_toList
      rw [List.getElem?_map, List.getElem?_map, e2]
      by_cases hj : j < es.size
      · rw [List.getElem?_range hj, Array.getElem?_eq_getElem hj]
        simp [hj]
      · rw [List.getElem?_eq_none (l := List.range es.size) (by rw [List.length_range]; omega), Array.getElem?_eq_none (by omega)]
        rfl
  · have hI : (s.heap.push (siObj (.int 0 0) 0 a es.size ep)).get? s.heap.objs.size = some (siObj (.int 0 0) 0 a es.size ep) := Heap.get?_push_size _ rfl
    have sf : S ∉ [s.heap.objs.size, a] := by
      simp only [List.mem_cons, List.not_mem_nil, or_false, not_or]
      exact ⟨Nat.ne_of_lt hS, hSa⟩
    cases hbt : byTxt w with
    | true =>
      refine ⟨_, _, _, _, _, _, s.drawn, rfl, rfl, fun b o e => Heap.get?_push_of_some _ e, text_walks hh (Nat.ne_of_lt al) hd hf hbt, ⟨hI, Heap.get?_push_of_some _ ho⟩, sf, Nat.le_refl _, hsz, fun acc ha => ?_⟩
      have e := items_map (L := (pickOrder (w.params.setOrder a ep) es).toList) (f := fun e => e.2) (by rw [(pick_perm _ _).length_eq, Array.length_toList]) (fun i v ⟨e, h1, h2⟩ => ⟨e, by rw [Array.getElem?_toList]; exact h1, h2⟩) ha
      refine good _ ?_
      rw [e]
      exact (pick_perm _ _).map _
    | false =>
      have h1 : es.size ≤ 1 := by
        rw [hbt] at hnd2
        by_cases z : es.size ≤ 1
        · exact z
        · have := hpl (by omega)
          rw [this] at hnd2
          simp at hnd2
          omega
      refine ⟨_, _, _, _, _, _, s.drawn, rfl, rfl, fun b o e => Heap.get?_push_of_some _ e, few_walks hh (Nat.ne_of_lt al) hd hf hbt (by rw [hled, hbt]; rfl) h1, ⟨hI, Heap.get?_push_of_some _ ho⟩, sf, Nat.le_refl _, hsz, fun acc ha => ?_⟩
      have e := items_map (L := es.toList) (f := fun e => e.2) (by rw [Array.length_toList]) (fun i v ⟨e, h1, h2⟩ => ⟨e, by rw [Array.getElem?_toList]; exact h1, h2⟩) ha
      refine good _ ?_
      rw [e]
theorem set_extendU {R : Result → Shared → Prop} (hh : A.handled = none) (x : TuS prog w s.heap a xs) (S : Addr) (hSa : S ≠ a) (res : Value) (c₀ : Nat) (hS : s.heap.get? S = some { cls := .type "list", data := .seq #[] c₀ })
    (hR : ∀ h' tk d acc' c', (∀ b o, b ≠ S → s.heap.get? b = some o → h'.get? b = some o) → h'.get? S = some { cls := .type "list", dict := none, data := .seq acc' c', slots := #[] } → RefsP xs acc'.toList → R (.ok (.ret res)) { s with heap := h', toks := tk, drawn := d }) :
    wpAny (model prog w) A.in1 (Builtin.List.listExtendWith (.ref S) (.ref a) res)
      (fun fin s' => match fin with | .done f => R (.ok f) s' | .again c' => c'.quiet = true ∧ codeAny (model prog w) A c' R s') (fun e s' => R (.error e) s') s := by
  obtain ⟨o, es, ep, t, ho, hex, rest⟩ := id x
  have ty : s.TypeIs (.ref a) "set" := ⟨o, ho, hex.1⟩
  unfold Builtin.List.listExtendWith
  refine wpAny_bind (wpAny_typeOf (T := "set") ty ?_)
  have h1 : Builtin.List.listSameRef (.ref S) (.ref a) = false := by simp [Builtin.List.listSameRef, hSa]
  simp only [h1, show (Value.type "set" == Value.type "list") = false by decide, show (Value.type "set" == Value.type "tuple") = false by decide, Bool.or_false, Bool.false_eq_true, if_false]
  refine wpAny_bind (wpAny_mono (set_goodU (A := A.in1) (E := fun e s' => R (.error e) s') hh x (Heap.lt_size hS) hSa) (fun it s1 good => ?_) fun e s' z => z)
  obtain ⟨J, fp, n, P, St, h2, d, rfl, rfl, keep, W, st, hSf, hJ, hn, hacc⟩ := good
  have hS₁ := keep _ _ hS
  have hSJ : S ≠ J := Nat.ne_of_lt (Nat.lt_of_lt_of_le (Heap.lt_size hS) hJ)
  have key : ∀ (h : Heap) (c₁ tk : Nat), St 0 h → (∀ b o, b ≠ S → h2.get? b = some o → h.get? b = some o) →
      h.get? S = some { cls := .type "list", data := .seq #[] c₁ } → codeAny (model prog w) A (.builtin "list.extend.loop" ⟨[.ref S, .ref J, res], []⟩) R { s with heap := h, toks := tk, drawn := d } := by
    intro h c₁ tk hst hk hS₁
    refine codeAny_extend_loopS W.toS hn S hSf res n 0 _ #[] c₁ rfl (Nat.zero_le _) hst hS₁ (ItemsOf.nil _) fun s' acc' c' hm hS' ha => ?_
    rw [Moved.eq_with hm]
    refine hR s'.heap s'.toks d acc' c' (fun b o hb e => hm.heap b o (fun hmem => ?_) (hk b o hb (keep b o e))) hS' (hacc acc' ha)
    rcases List.mem_cons.mp hmem with e' | hmem
    · exact hb e'
    · have z := List.mem_singleton.mp hmem
      exact absurd (Heap.lt_size e) (by rw [z]; exact Nat.not_lt.mpr hJ)
  refine wpAny_bind (wpAny_holding (set_hint ⟨o, keep _ _ ho, hex.1⟩ ?_))
  refine wpAny_ite_split (fun _ => ?_) (fun _ => wpAny_pure ⟨plainId_quiet PySem.F.plain_extend_loop _, key _ c₀ _ st (fun b o _ e => e) hS₁⟩)
  refine wpAny_bind (wpAny_rule ?_)
  refine wpAny_bind ?_
  show wpAny _ _ (updateSeq S (·.push .none) >>= fun _ => updateSeq S (·.pop)) _ _ _
  refine wpAny_bind (wpAny_updateSeq hS₁ rfl ?_)
  have hS₂ := Heap.get?_update_self (Obj.mapSeq (·.push Value.none)) hS₁ rfl
  refine wpAny_updateSeq (hz := by seq_fits) hS₂ rfl ?_
  have hS₃ := Heap.get?_update_self (Obj.mapSeq (·.pop)) hS₂ rfl
  refine wpAny_pure ⟨plainId_quiet PySem.F.plain_extend_loop _, key _ _ _ ?_ (fun b o hb e => ?_) hS₃⟩
  · refine W.frame 0 _ _ st fun b hb o e => ?_
    have hbS : b ≠ S := fun h => hSf (h ▸ hb)
    exact (Heap.get?_update_other _ _ (Ne.symm hbS)).trans ((Heap.get?_update_other _ _ (Ne.symm hbS)).trans e)
  · exact (Heap.get?_update_other _ _ (Ne.symm hb)).trans ((Heap.get?_update_other _ _ (Ne.symm hb)).trans e)
theorem set_collectU {R : List Value → Shared → Prop} (hh : A.handled = none) (x : TuS prog w s.heap a xs)
    (h : ∀ (vs : List Value) (h' : Heap) (tk : Nat) (d : Drawn), RefsP xs vs → (∀ b o, s.heap.get? b = some o → h'.get? b = some o) → s.heap.objs.size ≤ h'.objs.size → R vs { s with heap := h', toks := tk, drawn := d }) : wpAny (model prog w) A (collect (.ref a)) R E s := by
  have al : a < s.heap.objs.size := by
    obtain ⟨_, _, _, _, e, _⟩ := x
    exact Heap.lt_size e
  unfold collect
  refine wpAny_bind (wpAny_runValue (codeAny_builtin entry_proto_collect' ?_))
  rw [Around.under_plainId PySem.F.plain_proto_collect _]
  show wpAny _ A.in1 (newList [] >>= fun l => again (.builtin "list.__iadd__" ⟨[l, .ref a], []⟩)) _ _ s
  refine wpAny_bind (wpAny_newObj_type ?_)
  refine wpAny_pure ⟨plainId_quiet PySem.F.plain_list_iadd _, codeAny_builtin entry_list_iadd' ?_⟩
  rw [Around.under_plainId PySem.F.plain_list_iadd _]
  have hS : (s.heap.push { cls := .type "list", data := .seq ([] : List Value).toArray }).get? s.heap.objs.size = some { cls := .type "list", data := .seq #[] } := Heap.get?_push_size _ rfl
  show wpAny _ A.in1 (Builtin.List.listExtendWith (.ref s.heap.objs.size) (.ref a) (.ref s.heap.objs.size)) _ _ _
  have key := set_extendU (A := A) (prog := prog) (w := w) (xs := xs) (a := a) (s := { s with heap := s.heap.push { cls := .type "list", data := .seq ([] : List Value).toArray } }) hh (x.keep fun o e => Heap.get?_push_of_some _ e) s.heap.objs.size
    (Nat.ne_of_gt al) (.ref s.heap.objs.size) 0 hS
    (R := fun (q : Result) (s' : Shared) => ∃ (h' : Heap) (tk : Nat) (d : Drawn) (acc' : Array Value) (c' : Nat), q = .ok (.ret (.ref s.heap.objs.size)) ∧ s' = { s with heap := h', toks := tk, drawn := d } ∧ (∀ b o, s.heap.get? b = some o → h'.get? b = some o) ∧
      h'.get? s.heap.objs.size = some { cls := .type "list", dict := none, data := .seq acc' c', slots := #[] } ∧ RefsP xs acc'.toList)
    (fun h' tk d acc' c' hk hS' hacc => ⟨h', tk, d, acc', c', rfl, rfl, fun b o e => hk b o (Nat.ne_of_lt (Heap.lt_size e)) (Heap.get?_push_of_some _ e), hS', hacc⟩)
  refine wpAny_mono key (fun f s' y => ?_) fun e s' y => ?_
  · cases f with
    | done f =>
      obtain ⟨h', tk, d, acc', c', e, rfl, hk, hS', ha⟩ := y
      cases e
      show wpAny _ A (load s.heap.objs.size >>= _) _ _ _
      refine wpAny_bind (wpAny_load hS' (wpAny_pure ?_))
      exact h acc'.toList h' tk d ha hk (Nat.le_of_lt (Heap.lt_size hS'))
    | again c =>
      refine ⟨y.1, codeAny_mono y.2 fun q s2 z => ?_⟩
      obtain ⟨h', tk, d, acc', c', rfl, rfl, hk, hS', ha⟩ := z
      show wpAny _ A (load s.heap.objs.size >>= _) _ _ _
      refine wpAny_bind (wpAny_load hS' (wpAny_pure ?_))
      exact h acc'.toList h' tk d ha hk (Nat.le_of_lt (Heap.lt_size hS'))
  · obtain ⟨_, _, _, _, _, e', _⟩ := y
    cases e'
end
end L2
namespace L2
open PySem PySem.Spec PyProof.Rows PySem.W
def SetU (P : Program) (w : World) (a : Addr) (ys : List (Addr × List Str)) : HO := .ext fun h => TuS P w h a ys
def uniqP (ps : List (List Str)) : List (List Str) := Tim.srt prodLt ps.eraseDups
theorem nodup_dupsP : ∀ (n : Nat) (l : List (List Str)), l.length ≤ n → l.eraseDups.Nodup
  | 0, l, h => by
    have : l = [] := List.length_eq_zero_iff.mp (by omega)
    subst this
    exact List.nodup_nil
  | n + 1, [], _ => List.nodup_nil
  | n + 1, x :: l, h => by
    rw [List.eraseDups_cons]
    refine List.nodup_cons.mpr ⟨fun hx => ?_, nodup_dupsP n _ (Nat.le_trans (List.length_filter_le _ _) (Nat.le_of_succ_le_succ h))⟩
    have := List.mem_filter.mp (List.mem_eraseDups.mp hx)
    simp at this
theorem srt_uniqP {ps qs : List (List Str)} (hn : qs.Nodup) (hm : ∀ x, x ∈ qs ↔ x ∈ ps) : Tim.srt prodLt qs = uniqP ps := by
  unfold uniqP
  refine Tim.srt_eq sto_prod ((Tim.srt_perm prodLt qs).trans ?_) (Tim.srt_asc sto_prod qs)
  refine (List.perm_ext_iff_of_nodup hn (nodup_dupsP _ _ (Nat.le_refl _))).mpr fun x => ?_
  rw [hm x, List.mem_eraseDups]
theorem items_of {P : Program} {w : World} : ∀ {ks : List Str} {vs : List Value}, Vals (ks.map V.str) vs → ItemsAre (strKind P w) ks vs
  | [], _, .nil => .nil
  | k :: ks, _, .cons r rr => by
    obtain ⟨t, rfl⟩ := r
    exact .cons (strKind_is P w k t) (items_of rr)
section
variable {X : Cx} {pins : List (Addr × Obj)} {σ : St} {H : Hp} {s : Shared}
end
end L2
namespace L2
open PySem PySem.Spec PyProof.Rows PySem.W
def TupsK (K : PySem.W.Frag) (H : Hp) (zs : List V) (ps : List (List Str)) : Prop := Paired (fun x p => ∃ b, x = V.ref b ∧ SqT K H b (p.map V.str)) zs ps
theorem tupsK_refs {K : PySem.W.Frag} {H : Hp} : ∀ {zs : List V} {ps : List (List Str)} {its : List Value}, TupsK K H zs ps → Vals zs its → ∃ xs : List (Addr × List Str), its = xs.map (fun x => Value.ref x.1) ∧ xs.map (·.2) = ps ∧ ∀ x ∈ xs, SqT K H x.1 (x.2.map V.str)
  | _, _, _, .nil, .nil => ⟨[], rfl, rfl, fun x hx => nomatch hx⟩
  | _, _, _, .cons ⟨b, e, hb⟩ r, .cons rv rr => by
    subst e
    cases rv
    obtain ⟨xs, rfl, rfl, h⟩ := tupsK_refs r rr
    refine ⟨(b, _) :: xs, rfl, rfl, fun x hx => ?_⟩
    rcases List.mem_cons.mp hx with rfl | hx
    · exact hb
    · exact h x hx
theorem str_inj : ∀ {p q : List Str}, p.map V.str = q.map V.str → p = q
  | [], [], _ => rfl
  | x :: p, y :: q, h => by
    rw [List.map_cons, List.map_cons, List.cons.injEq] at h
    obtain ⟨h1, h2⟩ := h
    injection h1 with h1
    rw [h1, str_inj h2]
  | [], _ :: _, h => by cases h
  | _ :: _, [], h => by cases h
def decY (ys : List (Addr × List Str)) : Value → List Str
  | .ref a => ((ys.find? fun y => decide (y.1 = a)).map (·.2)).getD []
  | _ => []
section
variable {X : Cx} {pins : List (Addr × Obj)} {σ : St} {H : Hp} {s : Shared}
theorem isTu_sq {b : Addr} {ks : List Str} (I : Inv X pins σ H s) (hb : SqT X.K H b (ks.map V.str)) : IsTu X.prog X.w s.heap ks b := by
  obtain ⟨its, rv, ⟨o, e1, c, n, dd⟩, _⟩ := I.tuple hb
  exact ⟨o, its.toArray, n, e1, c, dd, by rw [List.toList_toArray]; exact items_of rv⟩
theorem decY_of {ys : List (Addr × List Str)} (I : Inv X pins σ H s) (h : ∀ y ∈ ys, SqT X.K H y.1 (y.2.map V.str)) {y : Addr × List Str} (hy : y ∈ ys) : decY ys (.ref y.1) = y.2 := by
  show ((ys.find? fun z => decide (z.1 = y.1)).map (·.2)).getD [] = y.2
  cases e : ys.find? fun z => decide (z.1 = y.1) with
  | none =>
    have := List.find?_eq_none.mp e y hy
    simp at this
  | some z =>
    have h1 : z.1 = y.1 := by
      have := List.find?_some e
      simpa using this
    have h2 := h z (List.mem_of_find?_eq_some e)
    rw [h1] at h2
    show z.2 = y.2
    exact str_inj (I.tuple_inj h2 (h y hy))
theorem call_setK (hu : X.A.units + 64 < cLine) (hc : X.calm = true) (P : Program) (w : World) (K : PySem.W.Frag) (hK : X.K = K := by rfl) (hP : X.prog = P := by rfl) (hw : X.w = w := by rfl) : CallR X (.type "set") (fun xs H Q => ∃ (p : Addr) (zs : List V) (ps : List (List Str)), xs = [.ref p] ∧ SqL K H p zs ∧ TupsK K H zs ps ∧ ps.length ≤ 76 ∧
    ∀ (l : Addr) (ys : List (Addr × List Str)), H l = none → (ys.map (·.2)).Nodup → (∀ x, x ∈ ys.map (·.2) ↔ x ∈ ps) → (∀ y ∈ ys, SqT K H y.1 (y.2.map V.str)) → Q (.ref l) (upd H l (SetU P w l ys))) := by
  subst hK hP hw
  intro pins s σ H xs us Q I r h
  obtain ⟨p, zs, ps, rfl, hp, ht, hl, q⟩ := h
  obtain ⟨u, rfl, ru⟩ := vals1 r
  cases ru
  obtain ⟨its, rv, ⟨o, n, e, c, _, d⟩, z⟩ := I.list hp
  obtain ⟨xs, rfl, rfl, hxs⟩ := tupsK_refs ht rv
  rw [List.length_map] at hl
  have hsz : (xs.map fun x => Value.ref x.1).toArray.size = xs.length := by rw [List.size_toArray, List.length_map]
  refine setU_list (xs := xs) (by omega) (I.ok.hd hc) ⟨o, e, c, n, d⟩ (by rw [List.toList_toArray]) (fun x hx => isTu_sq I (hxs x hx)) (by rw [hsz]; exact hl) fun h' tk ys hS hin keep => ?_
  have keep' : ∀ b o, s.heap.get? b = some o → h'.get? b = some o := fun b o e => keep b o (Heap.lt_size e) e
  have hnd : (ys.map (·.2)).Nodup := by
    obtain ⟨_, _, _, _, _, _, _, _, _, _, _, hnd, _⟩ := hS
    exact hnd
  have hex : ∃ o, h'.get? s.heap.objs.size = some o := by
    obtain ⟨o, _, _, _, e, _⟩ := hS
    exact ⟨o, e⟩
  refine ⟨.ref _, _, I.laid (a := s.heap.objs.size) (o := SetU X.prog X.w s.heap.objs.size ys) (t' := tk) keep' (Nat.le_refl _) ⟨hS, hex, fun h1 h2 z k => z.keep k⟩, rfl, q _ ys I.fresh hnd (fun x => ?_) fun y hy => hxs y (hin.2.2 y hy)⟩
  rw [hin.1 x, hsz]
  constructor
  · rintro ⟨j, y, hj, hy, rfl⟩
    exact List.mem_map.mpr ⟨y, List.mem_of_getElem? hy, rfl⟩
  · intro hx
    obtain ⟨y, hy, rfl⟩ := List.mem_map.mp hx
    obtain ⟨j, hj, e⟩ := List.getElem_of_mem hy
    exact ⟨j, y, hj, by rw [List.getElem?_eq_getElem hj, e], rfl⟩
theorem call_sortedK2 (hu : X.A.units + 64 < cLine) (hc : X.calm = true) (P : Program) (w : World) (K : PySem.W.Frag) (hK : X.K = K := by rfl) (hP : X.prog = P := by rfl) (hw : X.w = w := by rfl) : CallR X (.builtin "sorted") (fun xs H Q => ∃ (p : Addr) (ys : List (Addr × List Str)), xs = [.ref p] ∧ H p = some (SetU P w p ys) ∧ (∀ y ∈ ys, SqT K H y.1 (y.2.map V.str)) ∧
    ∀ (l : Addr) (us : List V), H l = none → TupsK K H us (Tim.srt prodLt (ys.map (·.2))) → Q (.ref l) (upd H l (.lst us))) := by
  subst hK hP hw
  intro pins s σ H xs us Q I r h
  obtain ⟨p, ys, rfl, hp, hys, q⟩ := h
  obtain ⟨u, rfl, ru⟩ := vals1 r
  cases ru
  obtain ⟨hS, _, _⟩ : ObjOk X.prog X.w H s.heap p (SetU X.prog X.w p ys) := I.hok p _ hp
  have yl : ys.length ≤ sizeLine := by
    obtain ⟨_, es, _, t, _, _, _, T, hr, _, e, _⟩ := id hS
    have hm : t.mask ≤ 127 := by rcases T.m with e | e | e <;> omega
    have : ys.length = es.size := by rw [← Array.length_toList, e, List.length_map]
    exact fits_of_scanBound (by unfold scanBound; omega)
  have hh := I.ok.hd hc
  have tupAt : ∀ y ∈ ys, TupAt s.heap (.ref y.1) y.2 := fun y hy => by
    obtain ⟨its, rv, ⟨o, e1, c, n, dd⟩, _⟩ := I.tuple (hys y hy)
    exact ⟨y.1, o, its.toArray, n, rfl, e1, c, dd, by rw [List.toList_toArray]; exact rv⟩
  have mem : ∀ vs, RefsP ys vs → ∀ v ∈ vs, ∃ b, v = Value.ref b ∧ SqT X.K H b ((decY ys v).map V.str) ∧ TupAt s.heap v (decY ys v) := fun vs z v hv => by
    obtain ⟨y, hy, rfl⟩ := List.mem_map.mp (z.mem_iff.mp hv)
    rw [decY_of I hys hy]
    exact ⟨y.1, rfl, hys y hy, tupAt y hy⟩
  have evs : ∀ vs, RefsP ys vs → (vs.map (decY ys)).Perm (ys.map (·.2)) := fun vs z => by
    have := z.map (decY ys)
    rw [List.map_map] at this
    refine this.trans (List.Perm.of_eq (List.map_congr_left fun y hy => ?_))
    exact decY_of I hys hy
  have both : ∀ vs, RefsP ys vs → Paired (fun v p => TupAt s.heap v p ∧ decY ys v = p) vs (vs.map (decY ys)) := fun vs z => by
    have m := mem vs z
    clear z
    induction vs with
    | nil => exact .nil
    | cons v vs ih =>
      obtain ⟨_, _, _, t⟩ := m v (List.mem_cons_self ..)
      exact .cons ⟨t, rfl⟩ (ih fun u hu => m u (List.mem_cons_of_mem _ hu))
  refine sorted_anyG (Pv := RefsP ys) (rk := fun vs v => Tim.rank prodLt (vs.map (decY ys)) (decY ys v)) (fun vs z => by rw [show vs.length = ys.length by rw [z.length_eq, List.length_map]]; exact yl)
    (fun A' E' R e k => set_collectU (by rw [e]; exact hh) hS fun vs h' tk d z => k vs h' tk d z) (fun vs A' s' a z hu' ha keep => keys_tups (s := s) (decY ys) (both vs z) ha keep (by omega)) fun vs out l n h' tk d z so keep hl hg => ?_
  have ed := Tim.sorted_data sto_prod (decY ys) so
  have es : Tim.srt prodLt (vs.map (decY ys)) = Tim.srt prodLt (ys.map (·.2)) := Tim.srt_eq sto_prod ((Tim.srt_perm prodLt _).trans (evs vs z)) (Tim.srt_asc sto_prod _)
  rw [es] at ed
  have mo : ∀ v ∈ out.toList, ∃ b, v = Value.ref b ∧ SqT X.K H b ((decY ys v).map V.str) := fun v hv => by
    obtain ⟨b, h1, h2, _⟩ := mem vs z v (so.perm.mem_iff.mp hv)
    exact ⟨b, h1, h2⟩
  obtain ⟨zs, rv, hp⟩ : ∃ zs : List V, Vals zs out.toList ∧ TupsK X.K H zs (out.toList.map (decY ys)) := by
    revert mo
    generalize out.toList = os
    intro mo
    induction os with
    | nil => exact ⟨[], .nil, .nil⟩
    | cons v os ih =>
      obtain ⟨zs, r1, r2⟩ := ih fun u hu => mo u (List.mem_cons_of_mem _ hu)
      obtain ⟨b, e, hb⟩ := mo v (List.mem_cons_self ..)
      exact ⟨.ref b :: zs, .cons e r1, .cons ⟨b, rfl, hb⟩ r2⟩
  rw [ed] at hp
  refine Inv.sorted_list (s := { s with drawn := d }) I.drew rv ?_ keep hl hg (q l zs (I.hok.fresh hl) hp)
  rw [rv.length, so.perm.length_eq, show vs.length = ys.length by rw [z.length_eq, List.length_map]]
  exact yl
end
end L2
namespace L2
open PySem PySem.Spec PyProof.Rows PySem.Builtin.Str PySem.StrLaws PySem.NumText
end L2
namespace Tim
open PySem PyProof.Rows
section
variable {M : Model} {A : Around} {E : Value → Shared → Prop} {s : Shared} {kd : SortKind} {S : Keyed → Prop} {rk : Keyed → Int} {n : Nat}
end
end Tim
namespace Tim
open PySem PyProof.Rows
section
variable {prog : Program} {w : World} {A : Around} {E : Value → Shared → Prop} {s : Shared}
end
end Tim
namespace L2
open PySem PySem.Spec PyProof.Rows PySem.W
section
variable {prog : Program} {w : World} {A : Around} {E : Value → Shared → Prop} {s : Shared} {a : Addr}
end
section
variable {X : Cx} {pins : List (Addr × Obj)} {σ : St} {H : Hp} {s : Shared}
end
end L2
namespace L2
open PySem PySem.Spec PyProof.Rows PySem.W
section
variable {prog : Program} {w : World} {A : Around} {E : Value → Shared → Prop} {s : Shared} {I : Addr} {fp : List Addr} {n : Nat} {P : Nat → Value → Prop} {St : Nat → Heap → Prop} {T : String}
theorem walk_extend {R : Result → Shared → Prop} (W : Walks prog w A.in1 I fp [I] n P St) (st : St 0 s.heap) (hn : n ≤ sizeLine) (hT : s.TypeIs (.ref I) T) (h2 : (Value.type T == Value.type "list") = false) (h3 : (Value.type T == Value.type "tuple") = false) (S : Addr) (hSI : S ≠ I) (hSf : S ∉ fp)
    (hint : ∀ (Q : Bool → Shared → Prop) (E : Value → Shared → Prop), (∀ b tk, Q b { s with toks := tk }) → wpAny (model prog w) A.in1 (Builtin.List.listLengthHint (.ref I)) Q E s)
    (res : Value) (c₀ : Nat) (hS : s.heap.get? S = some { cls := .type "list", data := .seq #[] c₀ })
    (hR : ∀ h' tk acc' c', (∀ b o, b ≠ S → b ≠ I → s.heap.get? b = some o → h'.get? b = some o) → h'.get? S = some { cls := .type "list", dict := none, data := .seq acc' c', slots := #[] } → ItemsOf P acc' n → R (.ok (.ret res)) { s with heap := h', toks := tk }) :
    wpAny (model prog w) A.in1 (Builtin.List.listExtendWith (.ref S) (.ref I) res)
      (fun fin s' => match fin with | .done f => R (.ok f) s' | .again c' => c'.quiet = true ∧ codeAny (model prog w) A c' R s') (fun e s' => R (.error e) s') s := by
  unfold Builtin.List.listExtendWith
  refine wpAny_bind (wpAny_typeOf (T := T) hT ?_)
  have h1 : Builtin.List.listSameRef (.ref S) (.ref I) = false := by simp [Builtin.List.listSameRef, hSI]
  simp only [h1, h2, h3, Bool.or_false, Bool.false_eq_true, if_false]
  refine wpAny_bind (W.self 0 _ _ _ st ?_)
  have key : ∀ (h : Heap) (c₁ tk : Nat), St 0 h → (∀ b o, b ≠ S → s.heap.get? b = some o → h.get? b = some o) →
      h.get? S = some { cls := .type "list", data := .seq #[] c₁ } → codeAny (model prog w) A (.builtin "list.extend.loop" ⟨[.ref S, .ref I, res], []⟩) R { s with heap := h, toks := tk } := by
    intro h c₁ tk hst hk hS₁
    refine codeAny_extend_loopS W.toS hn S hSf res n 0 _ #[] c₁ rfl (Nat.zero_le _) hst hS₁ (ItemsOf.nil _) fun s' acc' c' hm hS' ha => ?_
    rw [Moved.eq_with hm]
    refine hR s'.heap s'.toks acc' c' (fun b o hb hI e => hm.heap b o (fun hmem => ?_) (hk b o hb e)) hS' ha
    rcases List.mem_cons.mp hmem with e' | hmem
    · exact hb e'
    · exact hI (List.mem_singleton.mp hmem)
  refine wpAny_bind (wpAny_holding (hint _ _ fun b tk => ?_))
  refine wpAny_ite_split (fun _ => ?_) (fun _ => wpAny_pure ⟨plainId_quiet PySem.F.plain_extend_loop _, key _ c₀ _ st (fun b o _ e => e) hS⟩)
  refine wpAny_bind (wpAny_rule ?_)
  refine wpAny_bind ?_
  show wpAny _ _ (updateSeq S (·.push .none) >>= fun _ => updateSeq S (·.pop)) _ _ _
  refine wpAny_bind (wpAny_updateSeq hS rfl ?_)
  have hS₂ := Heap.get?_update_self (Obj.mapSeq (·.push Value.none)) hS rfl
  refine wpAny_updateSeq (hz := by seq_fits) hS₂ rfl ?_
  have hS₃ := Heap.get?_update_self (Obj.mapSeq (·.pop)) hS₂ rfl
  refine wpAny_pure ⟨plainId_quiet PySem.F.plain_extend_loop _, key _ _ _ ?_ (fun b o hb e => ?_) hS₃⟩
  · refine W.frame 0 _ _ st fun b hb o e => ?_
    have hbS : b ≠ S := fun h => hSf (h ▸ hb)
    exact (Heap.get?_update_other _ _ (Ne.symm hbS)).trans ((Heap.get?_update_other _ _ (Ne.symm hbS)).trans e)
  · exact (Heap.get?_update_other _ _ (Ne.symm hb)).trans ((Heap.get?_update_other _ _ (Ne.symm hb)).trans e)
theorem walk_init {R : Result → Shared → Prop} (W : Walks prog w A.in1 I fp [I] n P St) (st : St 0 s.heap) (hn : n ≤ sizeLine) (hT : s.TypeIs (.ref I) T) (h2 : (Value.type T == Value.type "list") = false) (h3 : (Value.type T == Value.type "tuple") = false) (S : Addr) (hSI : S ≠ I) (hSf : S ∉ fp)
    (hint : ∀ (s' : Shared) (Q : Bool → Shared → Prop) (E : Value → Shared → Prop), (∀ b ∈ fp, ∀ o, s.heap.get? b = some o → s'.heap.get? b = some o) → (∀ b tk, Q b { s' with toks := tk }) → wpAny (model prog w) A.in1 (Builtin.List.listLengthHint (.ref I)) Q E s')
    (hI : I ∈ fp) (hS : s.heap.get? S = some { cls := .type "list", data := .seq #[] })
    (hR : ∀ h' tk acc' c', (∀ b o, b ≠ S → b ≠ I → s.heap.get? b = some o → h'.get? b = some o) → h'.get? S = some { cls := .type "list", dict := none, data := .seq acc' c', slots := #[] } → ItemsOf P acc' n → R (.ok (.ret .none)) { s with heap := h', toks := tk }) :
    wpAny (model prog w) A.in1 (Builtin.«list.__init__» ⟨[.ref S, .ref I], []⟩)
      (fun fin s' => match fin with | .done f => R (.ok f) s' | .again c' => c'.quiet = true ∧ codeAny (model prog w) A c' R s') (fun e s' => R (.error e) s') s := by
  show wpAny _ A.in1 (do let old ← Builtin.List.listItems (.ref S); Builtin.List.listUpdate (.ref S) (fun _ => #[]); letGo old.toList.reverse; Builtin.List.listExtendWith (.ref S) (.ref I) .none) _ _ s
  refine wpAny_bind ?_
  unfold Builtin.List.listItems
  refine wpAny_bind (wpAny_seqItems hS rfl (wpAny_pure ?_))
  show wpAny _ A.in1 (updateSeq S (fun _ => #[]) >>= fun _ => letGo (#[] : Array Value).toList.reverse >>= fun _ => Builtin.List.listExtendWith (.ref S) (.ref I) .none) _ _ s
  refine wpAny_bind (wpAny_updateSeq hS rfl ?_)
  have hS₂ := Heap.get?_update_self (Obj.mapSeq (fun _ => (#[] : Array Value))) hS rfl
  have oth : ∀ b o, b ≠ S → s.heap.get? b = some o → (s.heap.update S (Obj.mapSeq (fun _ => (#[] : Array Value)))).get? b = some o :=
    fun b o hb e => (Heap.get?_update_other _ _ (Ne.symm hb)).trans e
  have inf : ∀ b ∈ fp, ∀ o, s.heap.get? b = some o → (s.heap.update S (Obj.mapSeq (fun _ => (#[] : Array Value)))).get? b = some o := fun b hb o e => oth b o (fun h => hSf (h ▸ hb)) e
  refine wpAny_bind (wpAny_letGo ?_)
  obtain ⟨o, ho, hc⟩ := hT
  refine walk_extend (T := T) (s := { s with heap := s.heap.update S (Obj.mapSeq (fun _ => (#[] : Array Value))) }) W (W.frame 0 _ _ st inf) hn ⟨o, inf I hI o ho, hc⟩ h2 h3 S hSI hSf (fun Q E q => hint _ Q E inf q) .none _ hS₂ fun h' tk acc' c' hm hS' hacc => ?_
  exact hR h' tk acc' c' (fun b o hb hI e => hm b o hb hI (oth b o hb e)) hS' hacc
theorem call_list_walk {Q : Value → Shared → Prop} (W : Walks prog w A.in1.in1 I fp [I] n P St) (st : St 0 s.heap) (hn : n ≤ sizeLine) (hT : s.TypeIs (.ref I) T) (h2 : (Value.type T == Value.type "list") = false) (h3 : (Value.type T == Value.type "tuple") = false) (hI : I ∈ fp) (hfp : ∀ b ∈ fp, b < s.heap.objs.size)
    (hint : ∀ (s' : Shared) (Q : Bool → Shared → Prop) (E : Value → Shared → Prop), (∀ b ∈ fp, ∀ o, s.heap.get? b = some o → s'.heap.get? b = some o) → (∀ b tk, Q b { s' with toks := tk }) → wpAny (model prog w) A.in1.in1 (Builtin.List.listLengthHint (.ref I)) Q E s')
    (hQ : ∀ h' tk acc' c', (∀ b o, b ≠ I → s.heap.get? b = some o → h'.get? b = some o) → h'.get? s.heap.objs.size = some { cls := .type "list", dict := none, data := .seq acc' c', slots := #[] } → ItemsOf P acc' n → Q (.ref s.heap.objs.size) { s with heap := h', toks := tk }) :
    wpAny (model prog w) A (call (.type "list") [.ref I]) Q E s := by
  have hSf : s.heap.objs.size ∉ fp := fun hm => Nat.lt_irrefl _ (hfp _ hm)
  have hSI : s.heap.objs.size ≠ I := fun e => hSf (e ▸ hI)
  refine callType_codes (Q₁ := fun obj s₁ => obj = .ref s.heap.objs.size ∧ s₁ = { s with heap := s.heap.push { cls := .type "list", data := .seq #[] } }) F.called_list (F.typeCall_list_1 _) F.entry_list_init
    (code_list_new _ ⟨rfl, rfl⟩) fun obj s₁ h₁ => ?_
  obtain ⟨rfl, rfl⟩ := h₁
  have hS : (s.heap.push { cls := .type "list", data := .seq #[] }).get? s.heap.objs.size = some { cls := .type "list", data := .seq #[] } := Heap.get?_push_size _ rfl
  have inf : ∀ b ∈ fp, ∀ o, s.heap.get? b = some o → (s.heap.push { cls := .type "list", data := .seq #[] }).get? b = some o := fun b _ o e => Heap.get?_push_of_some _ e
  obtain ⟨o, ho, hc⟩ := hT
  refine ⟨⟨_, hS, rfl⟩, F.args_list_init_2 _ _, walk_init (T := T) (s := { s with heap := s.heap.push { cls := .type "list", data := .seq #[] } }) W (W.frame 0 _ _ st inf) hn ⟨o, inf I hI o ho, hc⟩ h2 h3 _ hSI hSf (fun s' Q E k q => hint s' Q E (fun b hb o e => k b hb o (inf b hb o e)) q) hI hS fun h' tk acc' c' hm hS' hacc => ?_⟩
  refine ⟨rfl, hQ h' tk acc' c' (fun b o hb e => ?_) hS' hacc⟩
  exact hm b o (Nat.ne_of_lt (Heap.lt_size e)) hb (Heap.get?_push_of_some _ e)
theorem lri_no_len : typeLookup (.type "list_reverseiterator") "__len__" = pure none := by rw [typeLookup_type, builtinLookup_eq_fast]; kernel_rfl
theorem lri_hint : typeLookup (.type "list_reverseiterator") "__length_hint__" = pure (some (.builtin "list_reverseiterator.__length_hint__")) := by rw [typeLookup_type, builtinLookup_eq_fast]; kernel_rfl
theorem rev_hint {Q : Bool → Shared → Prop} (hT : s.TypeIs (.ref I) "list_reverseiterator") (h : Q false s) : wpAny (model prog w) A (Builtin.List.listLengthHint (.ref I)) Q E s := by
  unfold Builtin.List.listLengthHint
  refine wpAny_bind (wpAny_specialOf hT lri_no_len ?_)
  show wpAny _ _ (specialOf (Value.ref I) (Str.ofString "__length_hint__") >>= _) _ _ _
  refine wpAny_bind (wpAny_specialOf hT lri_hint ?_)
  generalize hid : ("list_reverseiterator.__length_hint__" : String) = id0
  wp_delta
  rw [show splitId id0 = some ("list_reverseiterator", "__length_hint__") from by subst hid; decide +kernel]
  subst hid
  refine wpAny_bind (wpAny_isInstance (T := "list_reverseiterator") (b := true) hT (by rw [isSubtype_type]; kernel_rfl) ?_)
  refine wpAny_ite_split (fun hab => absurd hab (by decide)) (fun _ => ?_)
  refine wpAny_ite_split (fun _ => ?_) (fun hab => absurd (by decide +kernel) hab)
  refine wpAny_ite_split (fun hab => absurd hab (by decide)) (fun _ => ?_)
  exact wpAny_pure h
end
section
variable {X : Cx} {e : Expr} {te : TE} {p1 p2 q1 q2 : Pos}
def tListRev (K : PySem.W.Frag) (te : TE) : TE := fun σ H Q => te σ H fun x H1 => ∃ p ys, x = .ref p ∧ SqL K H1 p ys ∧ ∀ l, H1 l = none → Q (.ref l) (upd H1 l (.lst ys.reverse))
theorem items_rev {its : List Value} {acc : Array Value} (h : ItemsOf (fun i v => its.toArray[its.toArray.size - 1 - i]? = some v) acc its.toArray.size) : acc.toList = its.reverse := by
  apply List.ext_getElem?
  intro j
  rw [Array.getElem?_toList]
  have hs : its.toArray.size = its.length := by simp
  by_cases c : j < its.length
  · have hj : j < acc.size := by rw [h.1, hs]; exact c
    have := h.2 j _ (Array.getElem?_eq_getElem hj)
    rw [Array.getElem?_eq_getElem hj, List.getElem?_reverse c, ← this, hs, List.getElem?_toArray]
  · rw [Array.getElem?_eq_none (by rw [h.1, hs]; omega), List.getElem?_eq_none (by rw [List.length_reverse]; omega)]
theorem vals_snoc : ∀ {xs : List V} {us : List Value} {x : V} {u : Value}, Vals xs us → RelV x u → Vals (xs ++ [x]) (us ++ [u])
  | _, _, _, _, .nil, r => .cons r .nil
  | _, _, _, _, .cons r rr, r1 => .cons r (vals_snoc rr r1)
theorem vals_rev : ∀ {xs : List V} {us : List Value}, Vals xs us → Vals xs.reverse us.reverse
  | _, _, .nil => .nil
  | _, _, .cons r rr => by
    rw [List.reverse_cons, List.reverse_cons]
    exact vals_snoc (vals_rev rr) r
theorem pe_listRev (K : PySem.W.Frag) (hc : X.calm = true) (hg : Gl X "list") (hm : X.mg "list" = none) (hg2 : Gl X "reversed") (hm2 : X.mg "reversed" = none) (he : PE X e te) (hs : starEach [e] X.env = [(false, eval e X.env)] := by rfl)
    (hs2 : starEach [.Call (.Name "reversed" p2) [e] [] q2] X.env = [(false, eval (.Call (.Name "reversed" p2) [e] [] q2) X.env)] := by rfl) (hK : X.K = K := by rfl) : PE X (.Call (.Name "list" p1) [.Call (.Name "reversed" p2) [e] [] q2] [] q1) (tListRev K te) := by
  subst hK
  intro pins s σ H Q I h
  refine Call_ (ld_blt I hg hm bt_list (PyProof.Rows.callWith_type1 ?_ hs2 rfl))
  rw [hs2]
  show wpAny _ _ (spliced ((false, eval (.Call (.Name "reversed" p2) [e] [] q2) X.env) :: backTo q1 [])) _ _ s
  refine Calls.spliced_cons (Call_ (ld_blt I hg2 hm2 bt_reversed (PyProof.Rows.callWith_type1 ?_ hs rfl)))
  rw [hs]
  show wpAny _ _ (spliced ((false, eval e X.env) :: backTo q2 [])) _ _ s
  refine Calls.spliced_cons (thn (he pins s σ H _ I h) fun u s1 ⟨x, H1, I1, r1, q⟩ => Calls.spliced_nil ?_)
  obtain ⟨p, ys, rfl, hp, q⟩ := q
  cases r1
  obtain ⟨its, rv, ⟨o, n, eo, c, _, d⟩, z⟩ := I1.list hp
  have hl : s1.heap.IsList p its.toArray := ⟨o, eo, c, n, d⟩
  have pl : p < s1.heap.objs.size := Heap.lt_size eo
  refine call_reversed_list hl (Calls.spliced_nil ?_)
  have hh : X.A.handled = none := I1.ok.hd hc
  have hne : p ≠ s1.heap.objs.size := Nat.ne_of_lt pl
  have hIt : (s1.heap.push (revObj p ((its.toArray.size : Int) - 1))).get? s1.heap.objs.size = some (revObj p ((its.toArray.size : Int) - 1)) := Heap.get?_push_size _ rfl
  have hil : its.length ≤ sizeLine := by rw [← rv.length]; exact z
  refine call_list_walk (T := "list_reverseiterator") (s := { s1 with heap := s1.heap.push (revObj p ((its.toArray.size : Int) - 1)) }) (Walks.listRev (by simp [hh]) s1.heap.objs.size p hne its.toArray) ⟨Nat.zero_le _, ⟨_, hIt, rfl, by show Data.fields _ = Data.fields _; simp⟩, hl.push _⟩ (by rw [List.size_toArray]; exact hil)
    ⟨_, hIt, rfl⟩ (by decide) (by decide) (by simp) (fun b hb => ?_) (fun s' Q E k q => rev_hint ⟨_, k _ (by simp) _ hIt, rfl⟩ (q false s'.toks)) fun h' tk acc' c' keep hS' hacc => ?_
  · simp only [List.mem_cons, List.not_mem_nil, or_false] at hb
    rcases hb with rfl | rfl
    · rw [Heap.size_push]; exact Nat.lt_succ_self _
    · rw [Heap.size_push]; exact Nat.lt_succ_of_lt pl
  · have ea := items_rev hacc
    refine I1.sorted_list (xs := ys.reverse) (by rw [ea]; exact vals_rev rv) (by rw [List.length_reverse]; exact z) (fun b o e => keep b o (Nat.ne_of_lt (Heap.lt_size e)) (Heap.get?_push_of_some _ e)) (by rw [Heap.size_push]; exact Nat.le_succ _) hS' (q _ (I1.hok.fresh (by rw [Heap.size_push]; exact Nat.le_succ _)))
end
end L2
namespace L2
open PySem PySem.Spec PyProof.Rows PySem.W
theorem rv_owner : Manifest.owners.lookup (String.ofList ['d', 'e', 's', 'r', 'e', 'v', 'e', 'r'].reverse) = some Manifest.sig_reversed := by kernel_rfl
theorem rv_next : Slot "reversed" "__next__" "reversed.__next__" :=
  .of (owner := "reversed") (n := "__next__") (by rw [typeLookup_type, builtinLookup_eq_fast]; kernel_rfl) (by decide +kernel) (by decide +kernel) (by decide +kernel)
    (by first | exact .inl (by decide +kernel) | exact .inr (by decide +kernel)) (by rw [isSubtype_type]; kernel_rfl)
theorem rv_next_e : entryFor table "reversed.__next__" = some Builtin.«reversed.__next__» := entryFor_of_tree (by kernel_rfl)
theorem rv_next_a (a : Value) : argsOk "reversed.__next__" ⟨[a], []⟩ := by
  unfold argsOk; rw [signature?_of (id := "reversed.__next__") (n := ['_', '_', 't', 'x', 'e', 'n', '_', '_']) (o := ['d', 'e', 's', 'r', 'e', 'v', 'e', 'r']) (by kernel_rfl) rv_owner]; kernel_rfl
theorem rv_iter : Slot "reversed" "__iter__" "reversed.__iter__" :=
  .of (owner := "reversed") (n := "__iter__") (by rw [typeLookup_type, builtinLookup_eq_fast]; kernel_rfl) (by decide +kernel) (by decide +kernel) (by decide +kernel)
    (by first | exact .inl (by decide +kernel) | exact .inr (by decide +kernel)) (by rw [isSubtype_type]; kernel_rfl)
theorem rv_iter_a (a : Value) : argsOk "reversed.__iter__" ⟨[a], []⟩ := by
  unfold argsOk; rw [signature?_of (id := "reversed.__iter__") (n := ['_', '_', 'r', 'e', 't', 'i', '_', '_']) (o := ['d', 'e', 's', 'r', 'e', 'v', 'e', 'r']) (by kernel_rfl) rv_owner]; kernel_rfl
theorem rv_iter_e : entryFor table "reversed.__iter__" = some Builtin.«dict_keyiterator.__iter__» :=
  entryFor_alias (id' := "dict_keyiterator.__iter__") (by kernel_rfl) (by first | rfl | decide +kernel | (unfold String.splitOn; simp +decide [String.splitOnAux])) (by decide +kernel) (by kernel_rfl)
theorem rv_hint : Slot "reversed" "__length_hint__" "reversed.__length_hint__" :=
  .of (owner := "reversed") (n := "__length_hint__") (by rw [typeLookup_type, builtinLookup_eq_fast]; kernel_rfl) (by decide +kernel) (by decide +kernel) (by decide +kernel)
    (by first | exact .inl (by decide +kernel) | exact .inr (by decide +kernel)) (by rw [isSubtype_type]; kernel_rfl)
theorem rv_hint_e : entryFor table "reversed.__length_hint__" = some Builtin.«reversed.__length_hint__» := entryFor_of_tree (by kernel_rfl)
theorem rv_hint_a (a : Value) : argsOk "reversed.__length_hint__" ⟨[a], []⟩ := by
  unfold argsOk; rw [signature?_of (id := "reversed.__length_hint__") (n := "__length_hint__".toList.reverse) (o := ['d', 'e', 's', 'r', 'e', 'v', 'e', 'r']) (by kernel_rfl) rv_owner]; kernel_rfl
theorem rv_init : Slot "reversed" "__init__" "object.__init__" :=
  .of (owner := "object") (n := "__init__") (by rw [typeLookup_type, builtinLookup_eq_fast]; kernel_rfl) (by decide +kernel) (by decide +kernel) (by decide +kernel)
    (by first | exact .inl (by decide +kernel) | exact .inr (by decide +kernel)) (by rw [isSubtype_type]; kernel_rfl)
theorem rv_called : TypeCalled "reversed" "reversed.__new__" "object.__init__" :=
  ⟨by decide +kernel, by decide +kernel, ⟨_, _, PySem.F.mro_reversed⟩, PySem.F.made_reversed, by decide +kernel, PySem.F.sub_reversed_self, rv_init⟩
theorem tup_no_reversed : typeLookup (.type "tuple") "__reversed__" = pure none := by rw [typeLookup_type, builtinLookup_eq_fast]; kernel_rfl
theorem rv_no_len : typeLookup (.type "reversed") "__len__" = pure none := by rw [typeLookup_type, builtinLookup_eq_fast]; kernel_rfl
def rvObj (l : Addr) (i : Int) : Obj := { cls := .type "reversed", data := .fields #[.ref l, rawInt i] }
def IsRv (h : Heap) (a l : Addr) (i : Int) : Prop := ∃ o, h.get? a = some o ∧ o.cls = .type "reversed" ∧ o.data = .fields #[.ref l, rawInt i]
section
variable {prog : Program} {w : World} {A : Around} {E : Value → Shared → Prop} {s : Shared}
theorem IsRv.typeIs {a l : Addr} {i : Int} (x : IsRv s.heap a l i) : s.TypeIs (.ref a) "reversed" := let ⟨o, ho, hc, _⟩ := x; ⟨o, ho, hc⟩
theorem IsRv.at {h h' : Heap} {a l : Addr} {i : Int} (x : IsRv h a l i) (e : ∀ o, h.get? a = some o → h'.get? a = some o) : IsRv h' a l i := let ⟨o, ho, r⟩ := x; ⟨o, e _ ho, r⟩
theorem code_reversed_newT {l : Addr} {items : Array Value} {Q₁ : Value → Shared → Prop} (hl : IsTup s.heap l items) (hfit : (items.size : Int) < 2 ^ 63)
    (h : Q₁ (.ref s.heap.objs.size) { s with heap := s.heap.push (rvObj l ((items.size : Int) - 1)), toks := s.toks + 1 + 1 }) :
    codeAny (model prog w) A (.call (.builtin "reversed.__new__") ⟨[.type "reversed", .ref l], []⟩) (wants Q₁ E) s := by
  refine codeAny_of_tree ?_
  show wpAny _ A.in1 (do checkBuiltinCall "reversed.__new__" ⟨[.type "reversed", .ref l], []⟩; again (.builtin "reversed.__new__" ⟨[.type "reversed", .ref l], []⟩)) _ _ s
  refine wpAny_bind (wpAny_of_eq (PySem.F.newCall_reversed_1 _) (wpAny_pure ⟨plainId_quiet PySem.F.plain_reversed_new _, codeAny_builtin PySem.F.entry_reversed_new ?_⟩))
  rw [Around.under_plainId PySem.F.plain_reversed_new _]
  unfold Builtin.«reversed.__new__»
  refine wpAny_bind (wpAny_of_eq (newClass_reversed _) ?_)
  try dsimp only
  refine wpAny_bind (wpAny_of_eq (a := ()) (by first | rfl | kernel_rfl) ?_)
  refine wpAny_bind (wpAny_of_eq (a := ()) (by first | rfl | kernel_rfl) ?_)
  try dsimp only
  refine wpAny_bind (wpAny_specialOf hl.typeIs tup_no_reversed ?_)
  try dsimp only
  refine wpAny_bind ?_
  wp_delta
  refine wpAny_bind (wpAny_isInstance (T := "tuple") (b := false) hl.typeIs (by rw [isSubtype_type]; kernel_rfl) ?_)
  rw [if_neg (by decide)]
  refine wpAny_bind (wpAny_specialOf hl.typeIs slot_tuple_getitem.lookup ?_)
  refine wpAny_ite_split (fun _ => ?_) (fun hab => absurd (by decide +kernel) hab)
  refine wpAny_pure ?_
  rw [if_neg (by decide)]
  refine wpAny_bind (len_tuple hl hfit ?_)
  refine wpAny_bind (wpAny_of_eq (a := some (items.size : Int)) rfl ?_)
  refine wpAny_bind ?_
  unfold Builtin.SmallTypes.newRecord
  refine wpAny_newObj_type ?_ (by size_fits)
  exact wpAny_pure h
theorem call_reversed_tup {l : Addr} {items : Array Value} {Q : Value → Shared → Prop} (hl : IsTup s.heap l items) (hfit : (items.size : Int) < 2 ^ 63)
    (h : Q (.ref s.heap.objs.size) { s with heap := s.heap.push (rvObj l ((items.size : Int) - 1)), toks := s.toks + 1 + 1 }) : wpAny (model prog w) A (call (.type "reversed") [.ref l]) Q E s := by
  refine callType_codes (Q₁ := fun obj s₁ => s₁.TypeIs obj "reversed" ∧ Q obj s₁) rv_called (PySem.F.typeCall_reversed_1 _) PySem.F.entry_object_init
    (code_reversed_newT hl hfit ⟨⟨_, Heap.get?_push_size _ rfl, rfl⟩, h⟩) fun obj s₁ h₁ => ?_
  exact ⟨h₁.1, PySem.F.args_object_init_2 obj _, object_init_meets rv_called.init.lookup rv_called.made (by decide) prog w A.in1 _ s₁ ⟨h₁.1, rfl, h₁.2⟩⟩
theorem rv_item {it l : Addr} {i : Nat} {items : Array Value} {x : Value} {Q : Option Value → Shared → Prop} (hit : IsRv s.heap it l (i : Int)) (hl : IsTup s.heap l items) (hx : items[i]? = some x) (hfit : (items.size : Int) < 2 ^ 63)
    (hQ : ∀ h' tk, IsRv h' it l ((i : Int) - 1) → Heap.SameBut it s.heap h' → Q (some x) { s with heap := h', toks := tk }) : wpAny (model prog w) A (pyNext (.ref it)) Q E s := by
  obtain ⟨o, ho, hc, hd⟩ := id hit
  have hi : i < items.size := by
    rw [Array.getElem?_eq_some_iff] at hx
    exact hx.1
  unfold pyNext
  refine wpAny_bind (wpAny_attempt (wpAny_callSpecial?_slot (name := Str.ofString "__next__") hit.typeIs rv_next
    (wpAny_call_entry rv_next hit.typeIs rv_next_e ?_ (rv_next_a _))))
  unfold Builtin.«reversed.__next__»
  refine wpAny_bind (wpAny_of_eq (a := (Value.ref it, [])) rfl ?_)
  try dsimp only
  refine wpAny_bind (wpAny_field ho hd (x := .ref l) rfl ?_)
  refine wpAny_bind (wpAny_field ho hd (x := rawInt (i : Int)) rfl ?_)
  show wpAny _ _ (if (i : Int) < 0 then _ else _) _ _ s
  rw [if_neg (by omega)]
  refine wpAny_bind (wpAny_specialOf hl.typeIs slot_tuple_getitem.lookup ?_)
  rw [if_neg (by decide)]
  refine wpAny_bind (wpAny_mkInt ?_)
  refine wpAny_bind (wpAny_attempt (getItem_tuple (j := i) (x := x) hl (by omega) (by omega) (by unfold seqIndex?; simp; omega) hx ?_))
  refine wpAny_bind (wpAny_field ho hd (x := rawInt (i : Int)) rfl ?_)
  refine wpAny_bind (wpAny_setField ho hd (by simp) ?_)
  refine wpAny_pure ⟨x, rfl, wpAny_pure (hQ _ _ ?_ (Heap.SameBut.update ..))⟩
  exact ⟨_, Heap.get?_update_self _ ho (Obj.isFreed_of_fields (Obj.data_mapFields hd _)), (Obj.cls_mapFields ..).trans hc, by
    rw [Obj.data_mapFields hd]; simp⟩
theorem rv_end {it l : Addr} {Q : Option Value → Shared → Prop} (hh : A.handled = none) (hit : IsRv s.heap it l (-1))
    (hQ : ∀ h', Heap.ExtBut it s.heap h' → Q none { s with heap := h' }) : wpAny (model prog w) A (pyNext (.ref it)) Q E s := by
  obtain ⟨o, ho, hc, hd⟩ := id hit
  unfold pyNext
  refine wpAny_bind (wpAny_attempt (wpAny_callSpecial?_slot (name := Str.ofString "__next__") hit.typeIs rv_next
    (wpAny_call_entry rv_next hit.typeIs rv_next_e ?_ (rv_next_a _))))
  unfold Builtin.«reversed.__next__»
  refine wpAny_bind (wpAny_of_eq (a := (Value.ref it, [])) rfl ?_)
  try dsimp only
  refine wpAny_bind (wpAny_field ho hd (x := .ref l) rfl ?_)
  refine wpAny_bind (wpAny_field ho hd (x := rawInt (-1)) rfl ?_)
  show wpAny _ _ (if (-1 : Int) < 0 then _ else _) _ _ s
  rw [if_pos (by decide)]
  refine wpAny_bind (wpAny_rule ?_)
  refine wpAny_bind ?_
  wp_delta
  refine wpAny_bind (wpAny_setField ho hd (by simp) ?_)
  have ho2 := Heap.get?_update_self (Obj.mapFields (·.setIfInBounds 1 (rawInt (-1)))) ho (Obj.isFreed_of_fields (Obj.data_mapFields hd _))
  refine wpAny_setField ho2 (Obj.data_mapFields hd _) (by simp) ?_
  have eb : Heap.ExtBut it s.heap ((s.heap.update it (Obj.mapFields fun x => x.setIfInBounds 1 (rawInt (-1)))).update it (Obj.mapFields fun x => x.setIfInBounds 0 Value.none)) := by
    intro b o' hb e
    exact (Heap.get?_update_other _ _ (Ne.symm hb)).trans ((Heap.get?_update_other _ _ (Ne.symm hb)).trans e)
  refine wpAny_bind ?_
  show wpAny _ _ (newExc (.type "StopIteration") [] >>= _) _ _ _
  refine wpAny_bind ?_
  simp only [newExc, newTuple]
  refine wpAny_bind (wpAny_newObj_type ?_ (by size_fits))
  refine wpAny_bind (m := firstArgMember _ _) (wpAny_of_eq (a := Value.none) (by first | rfl | (simp only [firstArgMember]; rfl)) ?_)
  refine wpAny_newObj_type ?_ (by size_fits)
  simp only [raiseNew]
  refine wpAny_bind (wpAny_handled ?_)
  first | rw [show A.in1.handled = none from hh] | rw [hh]
  refine wpAny_bind (wpAny_pure (wpAny_throw ?_))
  refine wpAny_bind (wpAny_isInstance (T := "StopIteration") (b := true) ⟨_, Heap.get?_push_size _ rfl, rfl⟩ isSubtype_stop ?_)
  exact wpAny_pure (hQ _ ((eb.push _).push _))
theorem rv_self {it l : Addr} {i : Int} {Q : Value → Shared → Prop} (hit : IsRv s.heap it l i) (h : Q (.ref it) s) : wpAny (model prog w) A (pyIter (.ref it)) Q E s := by
  refine wpAny_pyIter_slot hit.typeIs rv_iter (wpAny_call_entry rv_iter hit.typeIs rv_iter_e ?_ (rv_iter_a _))
  show wpAny _ _ (ret (.ref it)) _ _ s
  exact wpAny_pure ⟨_, rfl, "reversed", _, hit.typeIs, rv_next.lookup, h⟩
theorem rv_hint_ {it l : Addr} {items : Array Value} {Q : Bool → Shared → Prop} (hit : IsRv s.heap it l ((items.size : Int) - 1)) (hl : IsTup s.heap l items) (hfit : items.size ≤ sizeLine) (h : ∀ b tk, Q b { s with toks := tk }) : wpAny (model prog w) A (Builtin.List.listLengthHint (.ref it)) Q E s := by
  obtain ⟨o, ho, hc, hd⟩ := id hit
  unfold Builtin.List.listLengthHint
  refine wpAny_bind (wpAny_specialOf hit.typeIs rv_no_len ?_)
  show wpAny _ _ (specialOf (Value.ref it) (Str.ofString "__length_hint__") >>= _) _ _ _
  refine wpAny_bind (wpAny_specialOf hit.typeIs rv_hint.lookup ?_)
  generalize hid : ("reversed.__length_hint__" : String) = id0
  wp_delta
  rw [show splitId id0 = some ("reversed", "__length_hint__") from by subst hid; decide +kernel]
  subst hid
  refine wpAny_bind (wpAny_isInstance (T := "reversed") (b := true) hit.typeIs (by rw [isSubtype_type]; kernel_rfl) ?_)
  refine wpAny_ite_split (fun hab => absurd hab (by decide)) (fun _ => ?_)
  refine wpAny_ite_split (fun hab => absurd hab (by decide +kernel)) (fun _ => ?_)
  refine wpAny_bind (wpAny_rule ?_)
  refine wpAny_bind (wpAny_of_eq (rv_hint.bind _) ?_)
  try dsimp only
  refine wpAny_bind (wpAny_attempt (wpAny_call_entry rv_hint hit.typeIs rv_hint_e ?_ (rv_hint_a _)))
  unfold Builtin.«reversed.__length_hint__»
  refine wpAny_bind (wpAny_of_eq (a := Value.ref it) rfl ?_)
  refine wpAny_bind (wpAny_field ho hd (x := .ref l) rfl ?_)
  rw [if_neg (show ¬ ((Value.ref l == Value.none) = true) from Bool.false_ne_true)]
  have h63 : (items.size : Int) < 2 ^ 63 := by
    have : sizeLine < 2 ^ 63 := by decide
    omega
  refine wpAny_bind (len_tuple hl h63 ?_)
  refine wpAny_bind (wpAny_of_eq (a := some (items.size : Int)) rfl ?_)
  refine wpAny_bind (wpAny_field ho hd (x := rawInt ((items.size : Int) - 1)) rfl ?_)
  show wpAny _ _ (if (items.size : Int) < (items.size : Int) - 1 + 1 then _ else _) _ _ _
  rw [if_neg (by omega)]
  refine wpAny_bind (wpAny_mkInt (wpAny_pure ⟨_, rfl, ?_⟩))
  have e1 : (items.size : Int) - 1 + 1 = (items.size : Int) := by omega
  rw [e1]
  have t1 : Builtin.List.listFitsIndex (items.size : Int) = true := by
    unfold Builtin.List.listFitsIndex
    rw [Bool.and_eq_true]
    exact ⟨decide_eq_true (by omega), decide_eq_true h63⟩
  have t2 : Builtin.List.listTooLong (items.size : Int).toNat = false := by
    show decide ((items.size : Int).toNat > sizeLine) = false
    rw [decide_eq_false_iff_not, Int.toNat_natCast]
    omega
  have t3 : ¬ ((items.size : Int) < 0) := by omega
  simp only [asInt?, pure_bind, t1, t2, t3, Bool.not_true, Bool.false_eq_true, if_false]
  exact wpAny_pure (h _ _)
theorem rv_walk (hh : A.handled = none) (I l : Addr) (hne : l ≠ I) (items : Array Value) (hz : items.size ≤ sizeLine) :
    Walks prog w A I [I, l] [I] items.size (fun i v => items[items.size - 1 - i]? = some v) (fun i h => i ≤ items.size ∧ IsRv h I l ((items.size : Int) - 1 - (i : Int)) ∧ IsTup h l items) where
  sub := fun b hb => by simp at hb; simp [hb]
  frame := fun _ _ _ x hk => ⟨x.1, x.2.1.at fun o e => hk I (by simp) o e, let ⟨o, ho, r⟩ := x.2.2; ⟨o, hk l (by simp) o ho, r⟩⟩
  item := fun i s Q E hi x hQ => by
    have e : (items.size : Int) - 1 - (i : Int) = ((items.size - 1 - i : Nat) : Int) := by omega
    have hit := x.2.1
    rw [e] at hit
    have hx : items[items.size - 1 - i]? = some (items[items.size - 1 - i]'(by omega)) := Array.getElem?_eq_getElem (by omega)
    have h63 : (items.size : Int) < 2 ^ 63 := by
      have : sizeLine < 2 ^ 63 := by decide
      omega
    refine rv_item hit x.2.2 hx h63 fun h' tk hit' hs' => ?_
    have e2 : ((items.size - 1 - i : Nat) : Int) - 1 = (items.size : Int) - 1 - ((i + 1 : Nat) : Int) := by omega
    rw [e2] at hit'
    exact hQ _ h' tk hx ⟨hi, hit', let ⟨o, ho, r⟩ := x.2.2; ⟨o, (hs'.2 l hne).trans ho, r⟩⟩ fun b o hb eo => hs'.extBut b o (fun h => hb (by simp [h])) eo
  done := fun s Q E x hQ => by
    have e : (items.size : Int) - 1 - (items.size : Int) = -1 := by omega
    have hit := x.2.1
    rw [e] at hit
    exact rv_end hh hit fun h' he' => hQ h' s.toks fun b o hb eo => he' b o (fun h => hb (by simp [h])) eo
  self := fun _ _ _ _ x hQ => rv_self x.2.1 hQ
end
section
variable {prog : Program} {w : World} {A : Around} {E : Value → Shared → Prop} {s : Shared} {I : Addr} {fp : List Addr} {n : Nat} {P : Nat → Value → Prop} {St : Nat → Heap → Prop} {T : String}
theorem walk_collect {R : List Value → Shared → Prop} (W : Walks prog w A.in1 I fp [I] n P St) (st : St 0 s.heap) (hn : n ≤ sizeLine) (hT : s.TypeIs (.ref I) T) (h2 : (Value.type T == Value.type "list") = false) (h3 : (Value.type T == Value.type "tuple") = false) (hI : I ∈ fp) (hfp : ∀ b ∈ fp, b < s.heap.objs.size)
    (hint : ∀ (s' : Shared) (Q : Bool → Shared → Prop) (E : Value → Shared → Prop), (∀ b ∈ fp, ∀ o, s.heap.get? b = some o → s'.heap.get? b = some o) → (∀ b tk, Q b { s' with toks := tk }) → wpAny (model prog w) A.in1 (Builtin.List.listLengthHint (.ref I)) Q E s')
    (h : ∀ (acc : Array Value) (h' : Heap) (tk : Nat), ItemsOf P acc n → (∀ b o, b ≠ I → s.heap.get? b = some o → h'.get? b = some o) → s.heap.objs.size ≤ h'.objs.size → R acc.toList { s with heap := h', toks := tk }) : wpAny (model prog w) A (collect (.ref I)) R E s := by
  have hSf : s.heap.objs.size ∉ fp := fun hm => Nat.lt_irrefl _ (hfp _ hm)
  have hSI : s.heap.objs.size ≠ I := fun e => hSf (e ▸ hI)
  unfold collect
  refine wpAny_bind (wpAny_runValue (codeAny_builtin entry_proto_collect' ?_))
  rw [Around.under_plainId PySem.F.plain_proto_collect _]
  show wpAny _ A.in1 (newList [] >>= fun l => again (.builtin "list.__iadd__" ⟨[l, .ref I], []⟩)) _ _ s
  refine wpAny_bind (wpAny_newObj_type ?_)
  refine wpAny_pure ⟨plainId_quiet PySem.F.plain_list_iadd _, codeAny_builtin entry_list_iadd' ?_⟩
  rw [Around.under_plainId PySem.F.plain_list_iadd _]
  have hS : (s.heap.push { cls := .type "list", data := .seq ([] : List Value).toArray }).get? s.heap.objs.size = some { cls := .type "list", data := .seq #[] } := Heap.get?_push_size _ rfl
  have inf : ∀ b ∈ fp, ∀ o, s.heap.get? b = some o → (s.heap.push { cls := .type "list", data := .seq ([] : List Value).toArray }).get? b = some o := fun b _ o e => Heap.get?_push_of_some _ e
  obtain ⟨oT, hoT, hcT⟩ := hT
  show wpAny _ A.in1 (Builtin.List.listExtendWith (.ref s.heap.objs.size) (.ref I) (.ref s.heap.objs.size)) _ _ _
  have key := walk_extend (A := A) (T := T) (s := { s with heap := s.heap.push { cls := .type "list", data := .seq ([] : List Value).toArray } }) W (W.frame 0 _ _ st inf) hn ⟨oT, inf I hI oT hoT, hcT⟩ h2 h3 s.heap.objs.size
    hSI hSf (fun Q E q => hint _ Q E inf q) (.ref s.heap.objs.size) 0 hS
    (R := fun (q : Result) (s' : Shared) => ∃ (h' : Heap) (tk : Nat) (acc' : Array Value) (c' : Nat), q = .ok (.ret (.ref s.heap.objs.size)) ∧ s' = { s with heap := h', toks := tk } ∧ (∀ b o, b ≠ I → s.heap.get? b = some o → h'.get? b = some o) ∧
      h'.get? s.heap.objs.size = some { cls := .type "list", dict := none, data := .seq acc' c', slots := #[] } ∧ ItemsOf P acc' n)
    (fun h' tk acc' c' hk hS' hacc => ⟨h', tk, acc', c', rfl, rfl, fun b o hb e => hk b o (Nat.ne_of_lt (Heap.lt_size e)) hb (Heap.get?_push_of_some _ e), hS', hacc⟩)
  refine wpAny_mono key (fun f s' y => ?_) fun e s' y => ?_
  · cases f with
    | done f =>
      obtain ⟨h', tk, acc', c', e, rfl, hk, hS', ha⟩ := y
      cases e
      show wpAny _ A (load s.heap.objs.size >>= _) _ _ _
      refine wpAny_bind (wpAny_load hS' (wpAny_pure ?_))
      exact h acc' h' tk ha hk (Nat.le_of_lt (Heap.lt_size hS'))
    | again c =>
      refine ⟨y.1, codeAny_mono y.2 fun q s2 z => ?_⟩
      obtain ⟨h', tk, acc', c', rfl, rfl, hk, hS', ha⟩ := z
      show wpAny _ A (load s.heap.objs.size >>= _) _ _ _
      refine wpAny_bind (wpAny_load hS' (wpAny_pure ?_))
      exact h acc' h' tk ha hk (Nat.le_of_lt (Heap.lt_size hS'))
  · obtain ⟨_, _, _, _, e', _⟩ := y
    cases e'
theorem code_tuple_walk {Q₁ : Value → Shared → Prop} (W : Walks prog w A.in1.in1 I fp [I] n P St) (st : St 0 s.heap) (hsz : n ≤ sizeLine) (hT : s.TypeIs (.ref I) T) (h2 : (Value.type T == Value.type "list") = false) (h3 : (Value.type T == Value.type "tuple") = false) (hI : I ∈ fp) (hfp : ∀ b ∈ fp, b < s.heap.objs.size)
    (hint : ∀ (s' : Shared) (Q : Bool → Shared → Prop) (E : Value → Shared → Prop), (∀ b ∈ fp, ∀ o, s.heap.get? b = some o → s'.heap.get? b = some o) → (∀ b tk, Q b { s' with toks := tk }) → wpAny (model prog w) A.in1.in1 (Builtin.List.listLengthHint (.ref I)) Q E s')
    (h : ∀ (acc : Array Value) (h' : Heap) (tk : Nat), ItemsOf P acc n → (∀ b o, b ≠ I → s.heap.get? b = some o → h'.get? b = some o) → s.heap.objs.size ≤ h'.objs.size → Q₁ (.ref h'.objs.size) { s with heap := h'.push { cls := .type "tuple", data := .seq acc }, toks := tk }) :
    codeAny (model prog w) A (.call (.builtin "tuple.__new__") ⟨[.type "tuple", .ref I], []⟩) (wants Q₁ E) s := by
  refine codeAny_of_tree ?_
  show wpAny _ A.in1 (do checkBuiltinCall "tuple.__new__" ⟨[.type "tuple", .ref I], []⟩; again (.builtin "tuple.__new__" ⟨[.type "tuple", .ref I], []⟩)) _ _ s
  refine wpAny_bind (wpAny_of_eq (PySem.F.newCall_tuple_1 _) (wpAny_pure ⟨plainId_quiet PySem.F.plain_tuple_new _, codeAny_builtin PySem.F.entry_tuple_new ?_⟩))
  rw [Around.under_plainId PySem.F.plain_tuple_new _]
  have hsub := sub_tuple_self
  have hinit := init_tuple_lookup
  have hmh := madeHere_tuple
  wp_walk using wpAny_typeOf hT, walk_collect (T := T) W st hsz hT h2 h3 hI hfp hint
  intro acc h' tk hacc keep hle
  show wpAny _ _ (Builtin.Tuple.tupleExact acc.toList.toArray >>= fun v => ret v) _ _ _
  unfold Builtin.Tuple.tupleExact
  refine wpAny_bind (wpAny_newObj_type ?_ (by show acc.toList.toArray.size ≤ sizeLine; simp only [Array.toArray_toList]; rw [hacc.1]; exact hsz))
  refine wpAny_pure ?_
  have e : acc.toList.toArray = acc := by simp
  rw [e]
  exact h acc h' tk hacc keep hle
theorem call_tuple_walk {Q : Value → Shared → Prop} (W : Walks prog w A.in1.in1.in1 I fp [I] n P St) (st : St 0 s.heap) (hsz : n ≤ sizeLine) (hT : s.TypeIs (.ref I) T) (h2 : (Value.type T == Value.type "list") = false) (h3 : (Value.type T == Value.type "tuple") = false) (hI : I ∈ fp) (hfp : ∀ b ∈ fp, b < s.heap.objs.size)
    (hint : ∀ (s' : Shared) (Q : Bool → Shared → Prop) (E : Value → Shared → Prop), (∀ b ∈ fp, ∀ o, s.heap.get? b = some o → s'.heap.get? b = some o) → (∀ b tk, Q b { s' with toks := tk }) → wpAny (model prog w) A.in1.in1.in1 (Builtin.List.listLengthHint (.ref I)) Q E s')
    (hQ : ∀ (acc : Array Value) (h' : Heap) (tk : Nat), ItemsOf P acc n → (∀ b o, b ≠ I → s.heap.get? b = some o → h'.get? b = some o) → s.heap.objs.size ≤ h'.objs.size → Q (.ref h'.objs.size) { s with heap := h'.push { cls := .type "tuple", data := .seq acc }, toks := tk }) :
    wpAny (model prog w) A (call (.type "tuple") [.ref I]) Q E s := by
  refine callType_codes (Q₁ := fun obj s₁ => s₁.TypeIs obj "tuple" ∧ Q obj s₁) PySem.F.called_tuple (PySem.F.typeCall_tuple_1 _) PySem.F.entry_object_init
    (code_tuple_walk (T := T) W st hsz hT h2 h3 hI hfp hint fun acc h' tk a b c => ⟨⟨_, Heap.get?_push_size _ rfl, rfl⟩, hQ acc h' tk a b c⟩) fun obj s₁ h₁ => ?_
  exact ⟨h₁.1, PySem.F.args_object_init_2 obj _, object_init_meets PySem.F.called_tuple.init.lookup PySem.F.called_tuple.made (by decide) prog w A.in1 _ s₁ ⟨h₁.1, rfl, h₁.2⟩⟩
end
section
variable {X : Cx} {e : Expr} {te : TE} {p1 p2 q1 q2 : Pos}
def tTupRev (K : PySem.W.Frag) (te : TE) : TE := fun σ H Q => te σ H fun x H1 => ∃ p ys, x = .ref p ∧ SqT K H1 p ys ∧ ∀ l, H1 l = none → Q (.ref l) (upd H1 l (.tup ys.reverse))
theorem pe_tupRev (K : PySem.W.Frag) (hc : X.calm = true) (hg : Gl X "tuple") (hm : X.mg "tuple" = none) (hg2 : Gl X "reversed") (hm2 : X.mg "reversed" = none) (he : PE X e te) (hs : starEach [e] X.env = [(false, eval e X.env)] := by rfl)
    (hs2 : starEach [.Call (.Name "reversed" p2) [e] [] q2] X.env = [(false, eval (.Call (.Name "reversed" p2) [e] [] q2) X.env)] := by rfl) (hK : X.K = K := by rfl) : PE X (.Call (.Name "tuple" p1) [.Call (.Name "reversed" p2) [e] [] q2] [] q1) (tTupRev K te) := by
  subst hK
  intro pins s σ H Q I h
  refine Call_ (ld_blt I hg hm bt_tuple (PyProof.Rows.callWith_type1 ?_ hs2 rfl))
  rw [hs2]
  show wpAny _ _ (spliced ((false, eval (.Call (.Name "reversed" p2) [e] [] q2) X.env) :: backTo q1 [])) _ _ s
  refine Calls.spliced_cons (Call_ (ld_blt I hg2 hm2 bt_reversed (PyProof.Rows.callWith_type1 ?_ hs rfl)))
  rw [hs]
  show wpAny _ _ (spliced ((false, eval e X.env) :: backTo q2 [])) _ _ s
  refine Calls.spliced_cons (thn (he pins s σ H _ I h) fun u s1 ⟨x, H1, I1, r1, q⟩ => Calls.spliced_nil ?_)
  obtain ⟨p, ys, rfl, hp, q⟩ := q
  cases r1
  obtain ⟨its, rv, hl, z⟩ := I1.tuple hp
  have pl : p < s1.heap.objs.size := by
    obtain ⟨o, eo, _⟩ := hl
    exact Heap.lt_size eo
  have hil : its.toArray.size ≤ sizeLine := by rw [List.size_toArray, ← rv.length]; exact z
  have h63 : (its.toArray.size : Int) < 2 ^ 63 := by
    have : sizeLine < 2 ^ 63 := by decide
    omega
  refine call_reversed_tup hl h63 (Calls.spliced_nil ?_)
  have hh : X.A.handled = none := I1.ok.hd hc
  have hne : p ≠ s1.heap.objs.size := Nat.ne_of_lt pl
  have hIt : (s1.heap.push (rvObj p ((its.toArray.size : Int) - 1))).get? s1.heap.objs.size = some (rvObj p ((its.toArray.size : Int) - 1)) := Heap.get?_push_size _ rfl
  have hl2 : IsTup (s1.heap.push (rvObj p ((its.toArray.size : Int) - 1))) p its.toArray := let ⟨o, ho, r⟩ := hl; ⟨o, Heap.get?_push_of_some _ ho, r⟩
  refine call_tuple_walk (T := "reversed") (s := { s1 with heap := s1.heap.push (rvObj p ((its.toArray.size : Int) - 1)), toks := s1.toks + 1 + 1 }) (rv_walk (by simp [hh]) s1.heap.objs.size p hne its.toArray hil) ⟨Nat.zero_le _, ⟨_, hIt, rfl, by show Data.fields _ = Data.fields _; simp⟩, hl2⟩ hil
    ⟨_, hIt, rfl⟩ (by decide) (by decide) (by simp) (fun b hb => ?_) (fun s' Q E k q => rv_hint_ (l := p) (items := its.toArray) ⟨_, k _ (by simp) _ hIt, rfl, rfl⟩ (let ⟨o, ho, r⟩ := hl2; ⟨o, k _ (by simp) _ ho, r⟩) hil q) fun acc h' tk hacc keep hle => ?_
  · simp only [List.mem_cons, List.not_mem_nil, or_false] at hb
    rcases hb with rfl | rfl
    · rw [Heap.size_push]; exact Nat.lt_succ_self _
    · rw [Heap.size_push]; exact Nat.lt_succ_of_lt pl
  · have ea := items_rev hacc
    rw [Heap.size_push] at hle
    refine ⟨.ref h'.objs.size, _, I1.laid (a := h'.objs.size) (o := .tup ys.reverse) (t' := tk) (fun b o e => Heap.get?_push_of_some _ (keep b o (Nat.ne_of_lt (Heap.lt_size e)) (Heap.get?_push_of_some _ e))) (by omega) ⟨by rw [List.length_reverse]; exact z, its.reverse, vals_rev rv, ⟨_, Heap.get?_push_size _ rfl, rfl, 0, ?_⟩⟩, rfl, q _ (I1.hok.fresh (by omega))⟩
    show Data.seq acc 0 = _
    rw [← ea, Array.toArray_toList]
end
end L2
set_option maxHeartbeats 4000000
namespace Wy
open PySem L2
def top (i : Nat) : Stmt := PySem.Challenge.pw_whyrows_k15_what_is_a_why.main.body.getD i (.Pass ⟨0, 0, 0, 0⟩)
abbrev s_is_whole : Stmt := top 4
abbrev s_is_text_begun_by : Stmt := top 5
abbrev s_is_word : Stmt := top 6
abbrev s_is_product : Stmt := top 8
abbrev s_is_product_with_ways : Stmt := top 9
abbrev s_is_why : Stmt := top 10
abbrev s__law_cell_at : Stmt := top 12
abbrev s__law_stream : Stmt := top 13
abbrev s__law_word : Stmt := top 14
abbrev s__law_words : Stmt := top 15
abbrev s__law_why : Stmt := top 16
abbrev s__law_no_word : Stmt := top 17
abbrev s__law_spoiled_pair : Stmt := top 18
abbrev s__law_other_thing : Stmt := top 19
abbrev s__law_spoiled : Stmt := top 20
abbrev s_law : Stmt := top 21
theorem sc_is_whole : FnScope ["thing"] ["thing"] (defScope s_is_whole) := ⟨rfl, rfl, rfl, by decide +kernel, rfl, by decide +kernel, by decide +kernel⟩
theorem sc_is_text_begun_by : FnScope ["thing", "first_signs"] ["thing", "first_signs"] (defScope s_is_text_begun_by) := ⟨rfl, rfl, rfl, by decide +kernel, rfl, by decide +kernel, by decide +kernel⟩
theorem sc_is_word : FnScope ["thing"] ["thing"] (defScope s_is_word) := ⟨rfl, rfl, rfl, by decide +kernel, rfl, by decide +kernel, by decide +kernel⟩
theorem sc_is_product : FnScope ["thing"] ["thing"] (defScope s_is_product) := ⟨rfl, rfl, rfl, by decide +kernel, rfl, by decide +kernel, by decide +kernel⟩
theorem sc_is_product_with_ways : FnScope ["thing"] ["thing"] (defScope s_is_product_with_ways) := ⟨rfl, rfl, rfl, by decide +kernel, rfl, by decide +kernel, by decide +kernel⟩
theorem sc_is_why : FnScope ["thing", "products"] ["thing"] (defScope s_is_why) := ⟨rfl, rfl, rfl, by decide +kernel, rfl, by decide +kernel, by decide +kernel⟩
theorem sc__law_cell_at : FnScope ["_law_script", "_law_k"] ["_law_script", "_law_k"] (defScope s__law_cell_at) := ⟨rfl, rfl, rfl, by decide +kernel, rfl, by decide +kernel, by decide +kernel⟩
theorem sc__law_stream : FnScope ["_law_cell", "_law_many", "_law_number", "_law_found", "_law_k"] ["_law_cell", "_law_many"] (defScope s__law_stream) := ⟨rfl, rfl, rfl, by decide +kernel, rfl, by decide +kernel, by decide +kernel⟩
theorem sc__law_word : FnScope ["_law_cell", "_law_size", "_law_signs", "_law_found", "_law_number"] ["_law_cell", "_law_size"] (defScope s__law_word) := ⟨rfl, rfl, rfl, by decide +kernel, rfl, by decide +kernel, by decide +kernel⟩
theorem sc__law_words : FnScope ["_law_cell", "_law_many", "_law_signs", "_law_way", "_law_base", "_law_size", "_law_at", "_law_found", "_law_k", "_law_word_here", "_law_sign"] ["_law_cell", "_law_many"] (defScope s__law_words) := ⟨rfl, rfl, rfl, by decide +kernel, rfl, by decide +kernel, by decide +kernel⟩
theorem sc__law_why : FnScope ["_law_cells", "_law_words_here", "_law_most", "_law_ways", "_law_cell", "_law_row", "_law_size", "_law_product", "_law_many"] ["_law_cells", "_law_words_here", "_law_most"] (defScope s__law_why) := ⟨rfl, rfl, rfl, by decide +kernel, rfl, by decide +kernel, by decide +kernel⟩
theorem sc__law_no_word : FnScope ["_law_cell", "_law_word_here", "_law_some"] ["_law_cell", "_law_word_here"] (defScope s__law_no_word) := ⟨rfl, rfl, rfl, by decide +kernel, rfl, by decide +kernel, by decide +kernel⟩
theorem sc__law_spoiled_pair : FnScope ["_law_pair", "_law_way", "_law_cell", "_law_word_here", "_law_product", "_law_many", "_law_at"] ["_law_pair", "_law_way", "_law_cell", "_law_word_here"] (defScope s__law_spoiled_pair) := ⟨rfl, rfl, rfl, by decide +kernel, rfl, by decide +kernel, by decide +kernel⟩
theorem sc__law_other_thing : FnScope ["_law_cell", "_law_some"] ["_law_cell"] (defScope s__law_other_thing) := ⟨rfl, rfl, rfl, by decide +kernel, rfl, by decide +kernel, by decide +kernel⟩
theorem sc__law_spoiled : FnScope ["_law_why_here", "_law_way", "_law_cell", "_law_word_here", "_law_at", "_law_turned", "_law_spoiled_here"] ["_law_why_here", "_law_way", "_law_cell", "_law_word_here"] (defScope s__law_spoiled) := ⟨rfl, rfl, rfl, by decide +kernel, rfl, by decide +kernel, by decide +kernel⟩
theorem sc_law : FnScope ["_law_script", "_law_way", "_law_words_here", "_law_most", "_law_why_here", "_law_thing", "_law_due", "_law_cell", "_law_handed", "_law_told", "_law_again"] ["_law_script"] (defScope s_law) := ⟨rfl, rfl, rfl, by decide +kernel, rfl, by decide +kernel, by decide +kernel⟩
structure Txt (K : PySem.W.Frag) (mg : Str → Option Value) : Prop where
  b_all : mg "all" = none
  b_bool : mg "bool" = none
  b_int : mg "int" = none
  b_isinstance : mg "isinstance" = none
  b_len : mg "len" = none
  b_list : mg "list" = none
  b_range : mg "range" = none
  b_reversed : mg "reversed" = none
  b_set : mg "set" = none
  b_sorted : mg "sorted" = none
  b_str : mg "str" = none
  b_tuple : mg "tuple" = none
  c_SMALL_LETTERS : ∃ t, mg "SMALL_LETTERS" = some (.str "abcdefghijklmnopqrstuvwxyz" t)
  c_FURTHER_SIGNS : ∃ t, mg "FURTHER_SIGNS" = some (.str "abcdefghijklmnopqrstuvwxyz0123456789" t)
  c_MOST_SIGNS : ∃ t, mg "MOST_SIGNS" = some (.int 12 t)
  t_is_whole : Top K mg "is_whole" s_is_whole ["thing"]
  t_is_text_begun_by : Top K mg "is_text_begun_by" s_is_text_begun_by ["thing", "first_signs"]
  t_is_word : Top K mg "is_word" s_is_word ["thing"]
  t_is_product : Top K mg "is_product" s_is_product ["thing"]
  t_is_product_with_ways : Top K mg "is_product_with_ways" s_is_product_with_ways ["thing"]
  t_is_why : Top K mg "is_why" s_is_why ["thing"]
  t__law_cell_at : Top K mg "_law_cell_at" s__law_cell_at ["_law_script", "_law_k"]
  t__law_stream : Top K mg "_law_stream" s__law_stream ["_law_cell", "_law_many"]
  t__law_word : Top K mg "_law_word" s__law_word ["_law_cell", "_law_size"]
  t__law_words : Top K mg "_law_words" s__law_words ["_law_cell", "_law_many"]
  t__law_why : Top K mg "_law_why" s__law_why ["_law_cells", "_law_words_here", "_law_most"]
  t__law_no_word : Top K mg "_law_no_word" s__law_no_word ["_law_cell", "_law_word_here"]
  t__law_spoiled_pair : Top K mg "_law_spoiled_pair" s__law_spoiled_pair ["_law_pair", "_law_way", "_law_cell", "_law_word_here"]
  t__law_other_thing : Top K mg "_law_other_thing" s__law_other_thing ["_law_cell"]
  t__law_spoiled : Top K mg "_law_spoiled" s__law_spoiled ["_law_why_here", "_law_way", "_law_cell", "_law_word_here"]
  t_law : Top K mg "law" s_law ["_law_script"]
end Wy
namespace Wy
open PySem L2
theorem iteFb {b : Bool} {A B : Prop} (e : b = false) (h : B) : if b = true then A else B := by
  subst e
  exact iteF h
theorem iteTb {b : Bool} {A B : Prop} (e : b = true) (h : A) : if b = true then A else B := by
  subst e
  exact iteT h
theorem len_list (z : Str) : z.cps.toList.length = z.length := by simp [Str.length]
theorem app_list (a b : Str) : (a ++ b).cps.toList = a.cps.toList ++ b.cps.toList := by
  show (a.cps ++ b.cps).toList = _
  rw [Array.toList_append]
theorem len_app (a b : Str) : (a ++ b).length = a.length + b.length := by
  show (a.cps ++ b.cps).size = a.cps.size + b.cps.size
  exact Array.size_append
theorem strOk_of {z : Str} (h : ∀ c ∈ z.cps.toList, c < 0x110000) : PyData.strOk z = true := by
  unfold PyData.strOk
  rw [← Array.all_toList, List.all_eq_true]
  exact fun c hc => decide_eq_true (h c hc)
theorem cut_mem {z : Str} {lo hi : Option Int} {c : Nat} (h : c ∈ (cutS z lo hi).cps.toList) : c ∈ z.cps.toList := by
  unfold cutS at h
  rw [List.toList_toArray] at h
  exact List.mem_of_mem_drop (List.mem_of_mem_take h)
theorem dats_get {K : PySem.W.Frag} {H : Hp} : ∀ {ds : List PyData} {xs : List V} {i : Nat} {x : V}, Dats K H ds xs → xs[i]? = some x → ∃ d, ds[i]? = some d ∧ Dat K H d x
  | _, _, i, x, .nil, h => by simp at h
  | _, _, 0, x, .cons a b, h => by
    simp at h
    subst h
    exact ⟨_, rfl, a⟩
  | _, _, i + 1, x, .cons a b, h => by
    obtain ⟨d, e, r⟩ := dats_get (i := i) (x := x) b (by simpa using h)
    exact ⟨d, by simpa using e, r⟩
theorem dats_len {K : PySem.W.Frag} {H : Hp} : ∀ {ds : List PyData} {xs : List V}, Dats K H ds xs → ds.length = xs.length
  | _, _, .nil => rfl
  | _, _, .cons a b => by rw [List.length_cons, List.length_cons, dats_len b]
def SameBut (d : Addr) (H H' : Hp) : Prop := ∀ b o, b ≠ d → H b = some o → H' b = some o
theorem SameBut.trans {d : Addr} {H H1 H2 : Hp} (a : SameBut d H H1) (b : SameBut d H1 H2) : SameBut d H H2 := fun c o n e => b c o n (a c o n e)
theorem SameBut.upd (d : Addr) (H : Hp) (o : HO) : SameBut d H (upd H d o) := fun b u n e => by rw [upd_ne n]; exact e
theorem SameBut.seqT {K : PySem.W.Frag} {d a : Addr} {H H' : Hp} {xs : List V} {o : HO} (s : SameBut d H H') (hd : H d = some o) (hn : ∀ ys, o ≠ .tup ys) (hf : ∀ b ys, o ≠ .frz b (.tup ys)) (h : SqT K H a xs) : SqT K H' a xs := by
  rcases h with (h | ⟨b, h⟩) | h
  · exact .inl (.inl (s a _ (fun e => by subst e; rw [hd] at h; exact hn _ (Option.some.inj h)) h))
  · exact .inl (.inr ⟨b, s a _ (fun e => by subst e; rw [hd] at h; exact hf _ _ (Option.some.inj h)) h⟩)
  · exact .inr h
def KeepT (H H' : Hp) : Prop := ∀ b ys, H b = some (.tup ys) → H' b = some (.tup ys)
theorem Same.keepT {H H' : Hp} (s : Same H H') : KeepT H H' := fun b ys e => s b _ e
theorem KeepT.trans {H H1 H2 : Hp} (a : KeepT H H1) (b : KeepT H1 H2) : KeepT H H2 := fun c ys e => b c ys (a c ys e)
theorem KeepT.upd {H H' : Hp} {d : Addr} {xs ys : List V} (k : KeepT H H') (e : H' d = some (.lst xs)) : KeepT H (upd H' d (.lst ys)) := fun b zs hb => by
  rw [upd_ne (fun z => by rw [z] at hb; have := k _ _ hb; rw [e] at this; cases this)]
  exact k b zs hb
abbrev Tab := List (List Str × Int)
def encI (W : Tab) : List (List Str × V) := W.map fun kv => (kv.1, V.int kv.2)
def encD (W : Tab) : HO := .dT ((encI W).map fun kv => (kv.1.map Sum.inr, kv.2))
def getA (W : Tab) (k : List Str) : Option Int := (W.find? fun kv => decide (kv.1 = k)).map (·.2)
def putA (W : Tab) (k : List Str) (v : Int) : Tab := if (W.any fun kv => decide (kv.1 = k)) = true then W.map (fun kv => if kv.1 = k then (kv.1, v) else kv) else W ++ [(k, v)]
def addA (W : Tab) (k : List Str) (v : Int) : Tab := putA W k ((getA W k).getD 0 + v)
theorem inr_inj {a b : List Str} : a.map (Sum.inr : Str → Key) = b.map Sum.inr ↔ a = b := by
  constructor
  · intro h
    exact List.map_inj_right (fun x y e => Sum.inr.inj e) |>.mp h
  · intro h
    rw [h]
theorem dec_inr (a b : List Str) : decide (a.map (Sum.inr : Str → Key) = b.map Sum.inr) = decide (a = b) := decide_eq_decide.mpr inr_inj
theorem valV_enc (W : Tab) (k : List Str) : valV ((encI W).map fun kv => (kv.1.map (Sum.inr : Str → Key), kv.2)) (k.map Sum.inr) = (getA W k).map V.int := by
  unfold valV getA encI
  induction W with
  | nil => rfl
  | cons p W ih =>
    rw [List.map_cons, List.map_cons]
    by_cases e : p.1 = k
    · rw [List.find?_cons_of_pos (by rw [e]; simp), List.find?_cons_of_pos (by simpa using e)]
      rfl
    · rw [List.find?_cons_of_neg (by simpa using fun q => e (inr_inj.mp q)), List.find?_cons_of_neg (by simpa using e)]
      exact ih
theorem putK_enc (W : Tab) (k : List Str) (v : Int) : putK ((encI W).map fun kv => (kv.1.map (Sum.inr : Str → Key), kv.2)) (k.map Sum.inr) (V.int v) = (encI (putA W k v)).map fun kv => (kv.1.map Sum.inr, kv.2) := by
  unfold putK putA encI
  have e1 : ((List.map (fun kv : List Str × V => (kv.1.map (Sum.inr : Str → Key), kv.2)) (W.map fun kv => (kv.1, V.int kv.2))).any fun kv => decide (kv.1 = k.map Sum.inr)) = W.any fun kv => decide (kv.1 = k) := by
    rw [List.any_map, List.any_map]
    congr 1
    funext kv
    exact dec_inr kv.1 k
  rw [e1]
  split
  · rw [List.map_map, List.map_map, List.map_map, List.map_map]
    refine List.map_congr_left fun kv _ => ?_
    show (if kv.1.map (Sum.inr : Str → Key) = k.map Sum.inr then (kv.1.map Sum.inr, V.int v) else (kv.1.map Sum.inr, V.int kv.2)) = _
    by_cases h : kv.1 = k
    · rw [if_pos (by rw [h])]
      show _ = (((if kv.1 = k then (kv.1, v) else kv).1).map Sum.inr, V.int (if kv.1 = k then (kv.1, v) else kv).2)
      rw [if_pos h]
    · rw [if_neg (fun q => h (inr_inj.mp q))]
      show _ = (((if kv.1 = k then (kv.1, v) else kv).1).map Sum.inr, V.int (if kv.1 = k then (kv.1, v) else kv).2)
      rw [if_neg h]
  · rw [List.map_append, List.map_append]
    rfl
theorem keys_put (W : Tab) (k : List Str) (v : Int) : (putA W k v).map (·.1) = if k ∈ W.map (·.1) then W.map (·.1) else W.map (·.1) ++ [k] := by
  unfold putA
  have e : (W.any fun kv => decide (kv.1 = k)) = decide (k ∈ W.map (·.1)) := by
    rw [Bool.eq_iff_iff, List.any_eq_true, decide_eq_true_iff, List.mem_map]
    constructor
    · rintro ⟨p, hp, h⟩
      exact ⟨p, hp, of_decide_eq_true h⟩
    · rintro ⟨p, hp, h⟩
      exact ⟨p, hp, decide_eq_true h⟩
  rw [e]
  by_cases h : k ∈ W.map (·.1)
  · rw [if_pos (decide_eq_true h), if_pos h, List.map_map]
    refine List.map_congr_left fun kv _ => ?_
    show (if kv.1 = k then (kv.1, v) else kv).1 = kv.1
    split <;> rfl
  · rw [if_neg (by simpa using h), if_neg h, List.map_append]
    rfl
theorem nd_put {W : Tab} (h : (W.map (·.1)).Nodup) (k : List Str) (v : Int) : ((putA W k v).map (·.1)).Nodup := by
  rw [keys_put]
  split
  · exact h
  · rename_i hk
    exact nd_snoc h hk
theorem len_put (W : Tab) (k : List Str) (v : Int) : (putA W k v).length ≤ W.length + 1 := by
  have : (putA W k v).length = ((putA W k v).map (·.1)).length := by rw [List.length_map]
  rw [this, keys_put]
  split
  · rw [List.length_map]; omega
  · rw [List.length_append, List.length_map]; exact Nat.le_refl _
def pairD (kv : List Str × Int) : PyData := .tuple [.tuple (kv.1.map .str), .int kv.2]
def whyD (W : Tab) : List PyData := W.map pairD
theorem paired_snoc {α β : Type} {F : α → β → Prop} {x : α} {y : β} : ∀ {xs : List α} {ys : List β}, Paired F xs ys → F x y → Paired F (xs ++ [x]) (ys ++ [y])
  | _, _, .nil, h => .cons h .nil
  | _, _, .cons a b, h => .cons a (paired_snoc b h)
def PlAt (H : Hp) (x : V) (kv : List Str × Int) : Prop := ∃ q b, x = .ref q ∧ H q = some (.tup [.ref b, .int kv.2]) ∧ H b = some (.tup (kv.1.map V.str))
theorem PlAt.keep {H H' : Hp} {x : V} {kv : List Str × Int} (h : PlAt H x kv) (s : KeepT H H') : PlAt H' x kv := by
  obtain ⟨q, b, e, h1, h2⟩ := h
  exact ⟨q, b, e, s _ _ h1, s _ _ h2⟩
end Wy
namespace Wy
open PySem L2
theorem at_ints {ns : List Int} {k : Nat} (h : k < ns.length) : atI (ns.map V.int) (k : Int) = some (V.int (ns.getD k 0)) := by
  rw [getD_lt h]
  exact atI_nat (by rw [List.getElem?_map, List.getElem?_eq_getElem h]; rfl)
end Wy
namespace Wy
open PySem L2
theorem cut_drop (xs : List V) (n : Nat) (h : n ≤ xs.length) : cutV xs (some (n : Int)) none = xs.drop n := by
  unfold cutV
  rw [HT.sIx_nat, HT.sIx_none, Nat.min_eq_left h, List.take_of_length_le (by rw [List.length_drop]; exact Nat.le_refl _)]
section
variable {P : Program} {w : World} {K : PySem.W.Frag} {mg : Str → Option Value} {base : Heap}
def sp_stream : Sp := fun vs H Q _ => ∃ c m : Int, vs = [.int c, .int m] ∧ 0 ≤ m ∧ m ≤ 100 ∧ ∀ p (ns : List Int) H', Same H H' → H' p = some (.lst (ns.map V.int)) → ns.length = m.toNat → H p = none → (∀ n ∈ ns, 0 ≤ n ∧ n < 2147483647) → Q (.ref p) H'
theorem ok__law_stream (T : Txt K mg) : Def P w K mg base 1 "_law_stream" ["_law_cell", "_law_many"] sp_stream := by
  refine T.t__law_stream.ok sc__law_stream (fun vs H Q E h => ?_) fun f cdv A outer s H vs Q E hr h => ?_
  · obtain ⟨c, m, rfl, _⟩ := h
    rfl
  · obtain ⟨c, m, rfl, m0, m1, k⟩ := h
    refine ⟨_, (pss_4
      (ps_set (i := 2) sc__law_stream.nd rfl (Or.inl rfl) (pe_op op_add pe_int (pe_op op_mod (pv 0) pe_int)))
      (ps_set (i := 3) sc__law_stream.nd rfl (Or.inl rfl) (pe_lst pa_nil))
      (ps_for PassesOwn.never rfl (pi_range1 rfl T.b_range (pa_1 (pe_op op_add (pv 1) pe_int))) (pg_name (i := 4) sc__law_stream.nd rfl (Or.inl rfl)) (pss_2
      (ps_set (i := 2) sc__law_stream.nd rfl (Or.inl rfl) (pe_op op_mod (pe_op op_mul (pv 2) pe_int) pe_int))
      (ps_expr (pe_bm PySem.F.plainAttrs_list PySem.F.slot_list_append PySem.F.type_list_append mt_append (pv 3) (pa_1 (pv 2))))))
      (ps_ret (pe_slice (sl_listK K) (pv 3) (po_some pe_int) po_none))), ?_⟩
    refine ⟨_, rfl, _, _, rfl, rfl, (by show (0 : Int) < 2147483646; decide), _, _, rfl, rfl, ?_⟩
    refine ⟨by decide, fun p hp => ?_⟩
    refine ⟨_, rfl, _, _, rfl, rfl, _, rfl, by omega, by omega, for_range (lo := 0) (n := (m + 2).toNat) (fun i σ H' => ∃ (kk : Option V) (n : Int) (ns : List Int), σ = [some (.int c), some (.int m), some (.int n), some (.ref p), kk] ∧ H' = upd H p (.lst (ns.map V.int)) ∧ ns.length = i ∧ ∀ x ∈ ns, 0 ≤ x ∧ x < 2147483647)
      ⟨none, _, [], rfl, rfl, rfl, fun _ z => nomatch z⟩ ?_ ?_⟩
    · rintro i σ H' hi ⟨kk, n, ns, rfl, rfl, hl, hn⟩
      refine ⟨_, rfl, _, _, rfl, rfl, .inr ⟨by decide, by decide⟩, _, _, rfl, rfl, (by show (0 : Int) < 2147483647; decide), ?_⟩
      refine ⟨_, rfl, .inl ⟨rfl, _, SqL.of upd_same⟩, _, rfl, _, _, _, rfl, rfl, upd_same, by rw [List.length_map, hl]; exact small1000 (by omega), ?_⟩
      refine ⟨_, _, ns ++ [n * 48271 % 2147483647], rfl, ?_, by rw [List.length_append, hl]; rfl, fun x hx => ?_⟩
      · rw [upd_upd, List.map_append]
        rfl
      · rcases List.mem_append.mp hx with hx | hx
        · exact hn x hx
        · rw [List.mem_singleton.mp hx]
          exact ⟨Int.emod_nonneg _ (by decide), Int.emod_lt_of_pos _ (by decide)⟩
    · rintro σ H' ⟨kk, n, ns, rfl, rfl, hl, hn⟩
      refine ⟨_, rfl, _, rfl, _, _, rfl, SqL.of upd_same, fun q hq => ?_⟩
      have e : cutV (ns.map V.int) (some 2) none = (ns.drop 2).map V.int := by
        have := cut_drop (ns.map V.int) 2 (by rw [List.length_map]; omega)
        rw [List.map_drop]
        exact this
      rw [e]
      have s1 := same_upd (o := HO.lst (ns.map V.int)) hp
      exact k q (ns.drop 2) _ (s1.trans (same_upd hq)) upd_same (by rw [List.length_drop]; omega) (s1.free hq) fun x hx => hn x (List.mem_of_mem_drop hx)
end
end Wy
namespace Wy
open PySem L2
def fur : Str := "abcdefghijklmnopqrstuvwxyz0123456789"
theorem len_fur : fur.length = 36 := by decide +kernel
theorem fur_lt : ∀ c ∈ fur.cps.toList, c < 0x110000 := by decide +kernel
def Wz (n : Nat) (z : Str) : Prop := z.length ≤ n ∧ ∀ c ∈ z.cps.toList, c ∈ fur.cps.toList
theorem Wz.ok {n : Nat} {z : Str} (h : Wz n z) : PyData.strOk z = true := strOk_of fun c hc => fur_lt c (h.2 c hc)
theorem Wz.cut {n : Nat} {z : Str} (h : Wz n z) (lo hi : Option Int) : Wz n (cutS z lo hi) := ⟨Nat.le_trans (cutS_length z lo hi) h.1, fun c hc => h.2 c (cut_mem hc)⟩
theorem Wz.app {n m : Nat} {z y : Str} (h : Wz n z) (k : Wz m y) : Wz (n + m) (z ++ y) := ⟨by rw [len_app]; exact Nat.add_le_add h.1 k.1, fun c hc => by
  rw [app_list] at hc
  exact (List.mem_append.mp hc).elim (h.2 c) (k.2 c)⟩
theorem Wz.one {c : Nat} (h : c ∈ fur.cps.toList) : Wz 1 ⟨#[c]⟩ := ⟨Nat.le_refl _, fun d hd => by
  have : d = c := by simpa using hd
  subst this
  exact h⟩
theorem Wz.le {n m : Nat} {z : Str} (h : Wz n z) (k : n ≤ m) : Wz m z := ⟨Nat.le_trans h.1 k, h.2⟩
theorem Wz.size {n : Nat} {z : Str} (h : Wz n z) (k : n ≤ 1000) : z.length ≤ sizeLine := Nat.le_trans (Nat.le_trans h.1 k) (by decide)
theorem one_len (d : Nat) : (⟨#[d]⟩ : Str).length ≤ 1 := Nat.le_refl _
theorem fur_at (c : Int) {m : Int} (h0 : 0 < m) (h1 : m ≤ 36) : ∃ d, atI fur.cps.toList (c % m) = some d ∧ d ∈ fur.cps.toList :=
  atI_in (Int.emod_nonneg _ (by omega)) (by rw [len_list, len_fur]; have := Int.emod_lt_of_pos c h0; omega)
theorem fur_size : fur.length ≤ sizeLine := by rw [len_fur]; decide
section
variable {P : Program} {w : World} {K : PySem.W.Frag} {mg : Str → Option Value} {base : Heap}
end
end Wy
namespace Wy
open PySem L2
theorem opt_int (o : Option Int) : (o.map V.int).getD (V.int 0) = V.int (o.getD 0) := by cases o <;> rfl
theorem told_all {W : Tab} (h : (W.map (·.1)).Nodup) {k : List Str} (hk : k ∈ W.map (·.1)) : ∃ n, getA W k = some n ∧ (k, n) ∈ W := by
  obtain ⟨⟨k', n⟩, hp, e⟩ := List.mem_map.mp hk
  have e' : k' = k := e
  subst e'
  unfold getA
  cases q : W.find? fun kv => decide (kv.1 = k') with
  | none =>
    have := List.find?_eq_none.mp q _ hp
    simp at this
  | some x =>
    have h1 := List.find?_some q
    have h2 := List.mem_of_find?_eq_some q
    obtain ⟨x1, x2⟩ := x
    have : x1 = k' := by simpa using h1
    subst this
    exact ⟨x2, rfl, h2⟩
theorem dat_prod {K : PySem.W.Frag} {H : Hp} {b : Addr} {p : List Str} (h : H b = some (.tup (p.map V.str))) (ho : ∀ x ∈ p, PyData.strOk x = true) : Dat K H (.tuple (p.map .str)) (.ref b) := by
  refine .tup (SqT.of h) ?_
  clear h
  induction p with
  | nil => exact .nil
  | cons x p ih => exact .cons (.str x (ho x (List.mem_cons_self ..))) (ih fun y hy => ho y (List.mem_cons_of_mem _ hy))
theorem pls_dats {K : PySem.W.Frag} {H : Hp} : ∀ {xs : List V} {W : Tab}, Paired (PlAt H) xs W → (∀ kv ∈ W, ∀ z ∈ kv.1, PyData.strOk z = true) → Dats K H (whyD W) xs
  | _, _, .nil, _ => .nil
  | _, _, .cons ⟨q, b, e, h1, h2⟩ r, ok => by
    subst e
    exact .cons (.tup (SqT.of h1) (.cons (dat_prod h2 (ok _ (List.mem_cons_self ..))) (.cons (.int _) .nil))) (pls_dats r fun kv hkv => ok kv (List.mem_cons_of_mem _ hkv))
theorem paired_get {α β : Type} {F : α → β → Prop} : ∀ {l : List α} {k : List β} {i : Nat} {x : α}, Paired F l k → l[i]? = some x → ∃ y, k[i]? = some y ∧ F x y
  | _, _, _, _, .nil, h => by simp at h
  | _, _, 0, _, .cons a _, h => by
    simp at h
    subst h
    exact ⟨_, rfl, a⟩
  | _, _, i + 1, x, .cons _ r, h => by
    obtain ⟨y, e, f⟩ := paired_get (i := i) (x := x) r (by simpa using h)
    exact ⟨y, by simpa using e, f⟩
def PairAt (K : PySem.W.Frag) (H : Hp) (x : V) (p : List Str × Int) : Prop := ∃ q b, x = V.ref q ∧ SqT K H q [.ref b, .int p.2] ∧ (SqL K H b (p.1.map V.str) ∨ SqT K H b (p.1.map V.str))
theorem PairAt.same {K : PySem.W.Frag} {H H' : Hp} {x : V} {p : List Str × Int} (h : PairAt K H x p) (s : Same H H') : PairAt K H' x p := by
  obtain ⟨q, b, e, h1, h2⟩ := h
  exact ⟨q, b, e, s.seqT h1, h2.imp s.seq s.seqT⟩
end Wy
namespace Wy
open PySem L2
theorem cut_pos {z : Str} {m : Int} (h1 : 1 ≤ z.length) (hm : 1 ≤ m) : 1 ≤ (cutS z none (some m)).length := by
  obtain ⟨k, rfl⟩ := Int.eq_ofNat_of_zero_le (show 0 ≤ m by omega)
  have hk : 1 ≤ k := by omega
  show 1 ≤ (cutS z none (some (k : Int))).cps.size
  rw [← Array.length_toList]
  unfold cutS
  rw [HT.sIx_nat, HT.sIx_none, List.toList_toArray, List.length_take, List.length_drop, len_list]
  omega
section
variable {P : Program} {w : World} {K : PySem.W.Frag} {mg : Str → Option Value} {base : Heap}
end
end Wy
namespace Wy
open PySem L2
section
variable {P : Program} {w : World} {K : PySem.W.Frag} {mg : Str → Option Value} {base : Heap}
def sp_cell (K : PySem.W.Frag) : Sp := fun vs H Q _ => ∃ (a : Addr) (ns : List Int) (k : Int), vs = [.ref a, .int k] ∧ SqL K H a (ns.map V.int) ∧ 0 ≤ k ∧ Q (.int (ns.getD k.toNat 0)) H
theorem ok__law_cell_at (T : Txt K mg) : Def P w K mg base 1 "_law_cell_at" ["_law_script", "_law_k"] (sp_cell K) := by
  refine T.t__law_cell_at.ok sc__law_cell_at (fun vs H Q E h => ?_) fun f cdv A outer s H vs Q E hr h => ?_
  · obtain ⟨a, ns, k, rfl, _⟩ := h
    rfl
  · obtain ⟨a, ns, k, rfl, hS, h0, q⟩ := h
    refine ⟨_, (pss_2
      (ps_if (pt_cmpR op_lt (pv 1) (pe_callB (call_lenK K) rfl T.b_len bt_len (pa_1 (pv 0))) (nomark _)) (pss_one (ps_ret (pe_ix (ix_listK K) (pv 0) (pv 1) (fun _ _ => rfl)))) pss_nil)
      (ps_ret pe_int)), ?_⟩
    refine ⟨_, rfl, _, rfl, _, _, rfl, .inl ⟨_, hS, rfl⟩, _, _, rfl, rfl, _, rfl, ?_⟩
    rw [List.length_map]
    refine ite2 (fun h1 => ?_) (fun h1 => ?_)
    · have h1' : k < ns.length := by simpa using h1
      have hk : k.toNat < ns.length := by omega
      refine ⟨_, rfl, _, rfl, _, _, _, V.int (ns.getD k.toNat 0), rfl, rfl, hS, ?_, q⟩
      rw [atI_lt h0 (by rw [List.length_map]; exact h1'), List.getElem?_map, List.getElem?_eq_getElem hk, getD_lt hk]
      rfl
    · have h1' : ¬ k < ns.length := by simpa using h1
      have e : ns.getD k.toNat 0 = 0 := by
        exact getD_ge (by omega)
      rw [e] at q
      exact q
end
end Wy
namespace Wy
open PySem L2
theorem vin {a b : Int} (h : ¬ decide (V.int a = V.int b) = true) : a ≠ b := fun e => h (decide_eq_true (congrArg V.int e))
end Wy
namespace Wy
open PySem L2
def small : Str := "abcdefghijklmnopqrstuvwxyz"
def signsOk (fs : Str) : List Nat → Bool
  | [] => false
  | c :: r => decide (c ∈ fs.cps.toList) && r.all fun d => decide (d ∈ fur.cps.toList)
def txtB (fs z : Str) : Bool := decide (1 ≤ z.length) && decide (z.length ≤ 12) && signsOk fs z.cps.toList
def txtD (fs : Str) : PyData → Bool
  | .str z => txtB fs z
  | _ => false
def wholeD : PyData → Bool
  | .int _ => true
  | _ => false
def shD : PyData → Prop
  | .str z => z.length ≤ 200
  | _ => True
theorem dat_str {K : PySem.W.Frag} {H : Hp} {d : PyData} {x : V} (h : Dat K H d x) : (∃ z, d = .str z ∧ x = .str z) ∨ (tyIs (tyD d) "str" = false ∧ ∀ fs, txtD fs d = false) := by
  cases h with
  | str z _ => exact .inl ⟨z, rfl, rfl⟩
  | non => exact .inr ⟨rfl, fun _ => rfl⟩
  | bl _ => exact .inr ⟨rfl, fun _ => rfl⟩
  | int _ => exact .inr ⟨rfl, fun _ => rfl⟩
  | lst _ _ => exact .inr ⟨rfl, fun _ => rfl⟩
  | tup _ _ => exact .inr ⟨rfl, fun _ => rfl⟩
theorem txtB_len {fs z : Str} (h : ¬ (1 ≤ z.length ∧ z.length ≤ 12)) : txtB fs z = false := by
  unfold txtB
  by_cases h1 : 1 ≤ z.length
  · have h2 : ¬ z.length ≤ 12 := fun q => h ⟨h1, q⟩
    simp [h2]
  · simp [h1]
theorem txtB_ok {fs z : Str} (h1 : 1 ≤ z.length) (h2 : z.length ≤ 12) : txtB fs z = signsOk fs z.cps.toList := by
  unfold txtB
  simp [h1, h2]
theorem split_list {z : Str} (h : 1 ≤ z.length) : ∃ c r, z.cps.toList = c :: r := by
  have := len_list z
  cases e : z.cps.toList with
  | nil => rw [e] at this; simp at this; omega
  | cons c r => exact ⟨c, r, rfl⟩
theorem cut_tail {z : Str} (h : 1 ≤ z.length) : (cutS z (some 1) none).cps.toList = z.cps.toList.tail := by
  have e1 : HT.sIx z.length 0 (some 1) = 1 := by
    have := HT.sIx_nat z.length 0 1
    rw [show ((1 : Nat) : Int) = 1 from rfl] at this
    rw [this]
    omega
  have hl := len_list z
  unfold cutS
  rw [e1, HT.sIx_none]
  show ((z.cps.toList.drop 1).take (z.length - 1)).toArray.toList = _
  rw [List.toList_toArray, List.take_of_length_le (by rw [List.length_drop]; omega), List.drop_one]
end Wy
namespace Wy
open PySem L2
section
variable {P : Program} {w : World} {K : PySem.W.Frag} {mg : Str → Option Value} {base : Heap}
def sp_begun (K : PySem.W.Frag) : Sp := fun vs H Q _ => ∃ x fs d, vs = [x, .str fs] ∧ Dat K H d x ∧ shD d ∧ ∀ H', Same H H' → Q (.bl (txtD fs d)) H'
theorem ok_is_text_begun_by (T : Txt K mg) : Def P w K mg base 1 "is_text_begun_by" ["thing", "first_signs"] (sp_begun K) := by
  refine T.t_is_text_begun_by.ok sc_is_text_begun_by (fun vs H Q E h => ?_) fun f cdv A outer s H vs Q E hr h => ?_
  · obtain ⟨x, fs, d, rfl, _⟩ := h
    rfl
  · obtain ⟨x, fs, d, rfl, hd, hz, k⟩ := h
    refine ⟨_, (pss_2
      (ps_if (PW.pt (pw_or (pt_not (pt_val (pe_callB (call_isiD K) rfl T.b_isinstance bt_isinstance (pa_2 (pv 0) (pe_ty rfl T.b_str bt_str))))) (pw_or1 (pt_not (pt_chain op_le op_le pe_int (pe_callB (call_lenK K) rfl T.b_len bt_len (pa_1 (pv 0))) (pe_gI rfl T.c_MOST_SIGNS)))))) (pss_one (ps_ret pe_bl)) pss_nil)
      (ps_ret (pe_and (pe_cmpR op_in_str (pe_ix ix_str (pv 0) pe_int (fun _ _ => rfl)) (pv 1) (by with_unfolding_all rfl)) (pe_one (pe_callB (call_allL rfl K) rfl T.b_all bt_all (pa_1 (pe_comp (N := ["sign"]) (caps := [none]) rfl (by with_unfolding_all rfl) (pi_str (pe_slice sl_str (pv 0) (po_some pe_int) po_none)) (fun _ _ _ _ _ => (pg_name (i := 0) (show (["sign"] : List Str).Nodup by decide +kernel) rfl (Or.inl rfl))) (fun _ _ _ _ _ => pf_nil) (fun _ _ _ _ _ => (pe_cmpR op_in_str (pv 0) (pe_gS rfl T.c_FURTHER_SIGNS) (by with_unfolding_all rfl)))))))))), ?_⟩
    rcases dat_str hd with ⟨z, rfl, rfl⟩ | ⟨ty, hn⟩
    · have hz : z.length ≤ 200 := hz
      have hsl : z.length ≤ sizeLine := Nat.le_trans hz (by decide)
      have no : ¬ (1 ≤ z.length ∧ z.length ≤ 12) → Q (.bl false) H := fun q => by
        have := k H (Same.refl H)
        rw [show txtD fs (.str z) = false from txtB_len q] at this
        exact this
      refine ⟨_, rfl, _, _, _, rfl, hd, by decide, _, rfl, ?_⟩
      refine iteFb (show (!tyIs "str" "str") = false by decide) ?_
      refine ⟨_, rfl, _, _, rfl, ⟨hsl, rfl⟩, _, _, rfl, rfl, _, rfl, ?_⟩
      refine ite2 (fun h1 => ?_) (fun h1 => ?_)
      · refine ⟨_, _, rfl, rfl, _, rfl, ?_⟩
        refine ite2 (fun h2 => ?_) (fun h2 => ?_)
        · exact no fun q => by simp at h2; omega
        · have l1 : 1 ≤ z.length := by simp at h1; omega
          have l2 : z.length ≤ 12 := by simp at h2; omega
          obtain ⟨c, r, ecr⟩ := split_list l1
          have et : txtD fs (.str z) = signsOk fs z.cps.toList := txtB_ok (fs := fs) l1 l2
          rw [ecr] at et
          refine ⟨_, rfl, _, _, c, rfl, rfl, hsl, (by rw [ecr]; exact atI_nat (j := 0) rfl), _, rfl, _, _, rfl, rfl, _, rfl, ?_⟩
          rw [StrLaws.found_one]
          refine ite2 (fun h3 => ?_) (fun h3 => ?_)
          · refine ⟨_, rfl, _, rfl, _, rfl, hsl, _, rfl, fun D hD => ?_⟩
            have ect : (cutS z (some 1) none).cps.toList = r := by rw [cut_tail l1, ecr]; rfl
            have hrl : r.length ≤ 12 := by
              have := len_list z
              rw [ecr, List.length_cons] at this
              omega
            have esz : (cutS z (some 1) none).cps.size = r.length := by rw [← ect, Array.length_toList]
            refine comp_by r.length (fun i σ' H' => (∃ v, σ' = [v]) ∧ H' = upd H D (.lst ((r.take i).map fun c => V.bl (decide (c ∈ fur.cps.toList))))) ⟨⟨_, rfl⟩, rfl⟩ (fun i σ' H' hi _ => by show i < _; rw [esz]; exact hi) (fun σ' H' p => ⟨esz.symm, ?_⟩) (fun i σ' H' hi p x H2 y => ?_)
            · obtain ⟨_, rfl⟩ := p
              refine ⟨D, r.map fun c => decide (c ∈ fur.cps.toList), rfl, SqL.of (by rw [upd_same, List.take_length, List.map_map]; rfl), ?_⟩
              have := k (upd H D (.lst ((r.take r.length).map fun c => V.bl (decide (c ∈ fur.cps.toList))))) (same_upd hD)
              rw [et] at this
              have e2 : signsOk fs (c :: r) = (r.map fun c => decide (c ∈ fur.cps.toList)).all id := by
                show (decide (c ∈ fs.cps.toList) && _) = _
                rw [h3, Bool.true_and, List.all_map]
                rfl
              rw [e2] at this
              exact this
            · obtain ⟨⟨v, rfl⟩, rfl⟩ := p
              obtain ⟨rfl, c', hc, rfl⟩ := y
              have hc' : r[i]? = some c' := by rw [← ect, Array.getElem?_toList]; exact hc
              refine ⟨_, rfl, _, _, rfl, rfl, _, upd_same, ?_, ⟨_, rfl⟩, ?_⟩
              · rw [List.length_map, List.length_take]
                exact small1000 (by omega)
              · rw [upd_upd, StrLaws.found_one, List.take_succ, hc', List.map_append]
                rfl
          · have := k H (Same.refl H)
            rw [et] at this
            have e2 : signsOk fs (c :: r) = false := by
              show (decide (c ∈ fs.cps.toList) && _) = _
              rw [Bool.eq_false_iff.mpr h3, Bool.false_and]
            rw [e2] at this
            exact this
      · refine ⟨_, rfl, iteT ?_⟩
        exact no fun q => by simp at h1; omega
    · refine ⟨_, rfl, _, _, _, rfl, hd, by decide, _, rfl, ?_⟩
      refine iteTb (by rw [ty]; rfl) (iteT ?_)
      have := k H (Same.refl H)
      rw [hn] at this
      exact this
def sp_word (K : PySem.W.Frag) (fs : Str) : Sp := fun vs H Q _ => ∃ x d, vs = [x] ∧ Dat K H d x ∧ shD d ∧ ∀ H', Same H H' → Q (.bl (txtD fs d)) H'
theorem ok_is_word (T : Txt K mg) : Def P w K mg base 2 "is_word" ["thing"] (sp_word K small) := by
  refine T.t_is_word.ok sc_is_word (fun vs H Q E h => ?_) fun f cdv A outer s H vs Q E hr h => ?_
  · obtain ⟨x, d, rfl, _⟩ := h
    rfl
  · obtain ⟨x, d, rfl, hd, hz, k⟩ := h
    refine ⟨_, (pss_one (ps_ret (pe_def (ok_is_text_begun_by T) hr rfl (pa_2 (pv 0) (pe_gS rfl T.c_SMALL_LETTERS))))), ?_⟩
    exact ⟨_, rfl, _, _, d, rfl, hd, hz, k⟩
end
end Wy
namespace Wy
open PySem L2
section
variable {P : Program} {w : World} {K : PySem.W.Frag} {mg : Str → Option Value} {base : Heap}
def sp_whole (K : PySem.W.Frag) : Sp := fun vs H Q _ => ∃ x d, vs = [x] ∧ Dat K H d x ∧ Q (.bl (wholeD d)) H
theorem ok_is_whole (T : Txt K mg) : Def P w K mg base 1 "is_whole" ["thing"] (sp_whole K) := by
  refine T.t_is_whole.ok sc_is_whole (fun vs H Q E h => ?_) fun f cdv A outer s H vs Q E hr h => ?_
  · obtain ⟨x, d, rfl, _⟩ := h
    rfl
  · obtain ⟨x, d, rfl, hd, k⟩ := h
    refine ⟨_, (pss_one (ps_ret (pe_and (pe_callB (call_isiD K) rfl T.b_isinstance bt_isinstance (pa_2 (pv 0) (pe_ty rfl T.b_int bt_int))) (pe_one (pe_not (pe_callB (call_isiD K) rfl T.b_isinstance bt_isinstance (pa_2 (pv 0) (pe_ty rfl T.b_bool bt_bool)))))))), ?_⟩
    refine ⟨_, rfl, _, _, _, rfl, hd, by decide, _, rfl, ite2 (fun h1 => ?_) (fun h1 => ?_)⟩
    · refine ⟨_, rfl, _, _, _, rfl, hd, by decide, _, rfl, ?_⟩
      cases hd <;> first | exact k | (exact absurd h1 Bool.false_ne_true)
    · cases hd <;> first | exact k | (exact absurd rfl h1)
end
end Wy
namespace Wy
open PySem L2
def Ws (z : Str) : Prop := ∀ c r, z.cps.toList = c :: r → c ∈ small.cps.toList
theorem ws_nil : Ws "" := fun c r h => by
  have : (("" : Str).cps.toList : List Nat) = [] := by decide +kernel
  rw [this] at h
  cases h
theorem ws_one {d : Nat} (h : d ∈ small.cps.toList) : Ws ⟨#[d]⟩ := fun c r e => by
  injection (show [d] = c :: r from e) with e1 e2
  subst e1
  exact h
theorem nil_str {z : Str} (h : z.cps.toList = []) : z = "" := by
  cases z with | mk a =>
    have ha : a.toList = [] := h
    have : a = #[] := Array.toList_eq_nil_iff.mp ha
    subst this
    decide +kernel
theorem ws_app {a b : Str} (h : Ws a) (k : a.cps.toList = [] → Ws b) : Ws (a ++ b) := fun c r e => by
  rw [app_list] at e
  cases ea : a.cps.toList with
  | nil =>
    rw [ea, List.nil_append] at e
    exact k ea c r e
  | cons x xs =>
    rw [ea, List.cons_append] at e
    injection e with e1 _
    subst e1
    exact h _ _ ea
theorem ws_cut {z : Str} {hi : Option Int} (h : Ws z) : Ws (cutS z none hi) := fun c r e => by
  unfold cutS at e
  rw [List.toList_toArray, HT.sIx_none, List.drop_zero, Nat.sub_zero] at e
  cases ez : z.cps.toList with
  | nil => rw [ez, List.take_nil] at e; cases e
  | cons x xs =>
    rw [ez] at e
    cases n : HT.sIx z.length z.length hi with
    | zero => rw [n, List.take_zero] at e; cases e
    | succ m =>
      rw [n, List.take_succ_cons] at e
      injection e with e1 _
      subst e1
      exact h _ _ ez
theorem app_ne (a : Str) (d : Nat) : (a ++ (⟨#[d]⟩ : Str)).cps.toList ≠ [] := fun e => by
  rw [app_list] at e
  exact absurd (List.append_eq_nil_iff.mp e).2 (by intro z; cases z)
theorem cut_ne {z : Str} {m : Int} (h1 : 1 ≤ z.length) (hm : 1 ≤ m) : (cutS z none (some m)).cps.toList ≠ [] := fun e => by
  have := cut_pos h1 hm
  rw [← len_list, e] at this
  exact absurd this (by decide)
theorem cut_last {y : Str} (h : 1 ≤ y.length) : (cutS y none (some (-1))).length ≤ y.length - 1 := by
  rw [← len_list]
  unfold cutS
  rw [List.toList_toArray, List.length_take, HT.sIx_none, List.drop_zero, Nat.sub_zero]
  refine Nat.le_trans (Nat.min_le_left _ _) ?_
  have : HT.sIx y.length y.length (some (-1)) = y.length - 1 := by
    unfold HT.sIx
    simp
    omega
  omega
theorem cut_upl (z : Str) {m : Int} (h : 0 ≤ m) : ((cutS z none (some m)).length : Int) ≤ m := by
  obtain ⟨k, rfl⟩ := Int.eq_ofNat_of_zero_le h
  rw [← len_list]
  unfold cutS
  rw [List.toList_toArray, List.length_take, HT.sIx_none, HT.sIx_nat, List.drop_zero, Nat.sub_zero]
  have := Nat.min_le_left (min k z.length) z.cps.toList.length
  have := Nat.min_le_left k z.length
  omega
theorem cut_midl (z : Str) {lo hi : Int} (h0 : 0 ≤ lo) (h1 : lo ≤ hi) : ((cutS z (some lo) (some hi)).length : Int) ≤ hi - lo := by
  obtain ⟨a, rfl⟩ := Int.eq_ofNat_of_zero_le h0
  obtain ⟨b, rfl⟩ := Int.eq_ofNat_of_zero_le (Int.le_trans h0 h1)
  rw [← len_list]
  unfold cutS
  rw [List.toList_toArray, List.length_take, HT.sIx_nat, HT.sIx_nat]
  have := Nat.min_le_left (min b z.length - min a z.length) (z.cps.toList.drop (min a z.length)).length
  omega
theorem fur26 : ∀ k : Nat, k < 26 → ∃ d, fur.cps.toList[k]? = some d ∧ d ∈ small.cps.toList := by decide +kernel
theorem fur_at26 (c : Int) : ∃ d, atI fur.cps.toList (c % 26) = some d ∧ d ∈ fur.cps.toList ∧ d ∈ small.cps.toList := by
  have h0 : 0 ≤ c % 26 := Int.emod_nonneg _ (by decide)
  have h1 : c % 26 < 26 := Int.emod_lt_of_pos _ (by decide)
  obtain ⟨k, hk⟩ := Int.eq_ofNat_of_zero_le h0
  rw [hk]
  obtain ⟨d, hd, hs⟩ := fur26 k (by omega)
  exact ⟨d, atI_nat hd, List.mem_of_getElem? hd, hs⟩
theorem txt_of {z : Str} (h : Wz 12 z) (h1 : 1 ≤ z.length) (hs : Ws z) : txtB small z = true := by
  rw [txtB_ok h1 h.1]
  obtain ⟨c, r, e⟩ := split_list h1
  rw [e]
  show (decide _ && _) = true
  rw [decide_eq_true (hs c r e), Bool.true_and]
  exact List.all_eq_true.mpr fun d hd => decide_eq_true (h.2 d (by rw [e]; exact List.mem_cons_of_mem _ hd))
section
variable {P : Program} {w : World} {K : PySem.W.Frag} {mg : Str → Option Value} {base : Heap}
def sp_gwordT : Sp := fun vs H Q _ => ∃ c m : Int, vs = [.int c, .int m] ∧ 1 ≤ m ∧ m ≤ 40 ∧ ∀ z H', Same H H' → Wz m.toNat z → z.length = m.toNat → Ws z → Q (.str z) H'
theorem okF__law_word (T : Txt K mg) : Def P w K mg base 2 "_law_word" ["_law_cell", "_law_size"] sp_gwordT := by
  refine T.t__law_word.ok sc__law_word (fun vs H Q E h => ?_) fun f cdv A outer s H vs Q E hr h => ?_
  · obtain ⟨c, m, rfl, _⟩ := h
    rfl
  · obtain ⟨c, m, rfl, m0, m1, k⟩ := h
    refine ⟨_, (pss_4
      (ps_set (i := 2) sc__law_word.nd rfl (Or.inl rfl) pe_str)
      (ps_set (i := 3) sc__law_word.nd rfl (Or.inl rfl) pe_str)
      (ps_for PassesOwn.never rfl (pi_listK K (pe_def (ok__law_stream T) hr rfl (pa_2 (pv 0) (pv 1)))) (pg_name (i := 4) sc__law_word.nd rfl (Or.inl rfl)) (pss_one (ps_if (pt_cmpR op_eq (pv 3) pe_str (nomark _)) (pss_one (ps_set (i := 3) sc__law_word.nd rfl (Or.inl rfl) (pe_ix ix_str (pv 2) (pe_op op_mod (pv 4) pe_int) (fun _ _ => rfl)))) (pss_one (ps_set (i := 3) sc__law_word.nd rfl (Or.inl rfl) (pe_op op_add_str (pv 3) (pe_ix ix_str (pv 2) (pe_op op_mod (pv 4) pe_int) (fun _ _ => rfl))))))))
      (ps_ret (pv 3))), ?_⟩
    refine ⟨_, rfl, _, rfl, c, m, rfl, by omega, by omega, fun p ns H1 s1 hp hl _ hn => ?_⟩
    refine ⟨p, rfl, ⟨_, SqL.of hp⟩, for_list (xs := ns.map V.int) (fun i σ H' => H' = H1 ∧ ∃ (v : Option V) (z : Str), σ = [some (.int c), some (.int m), some (.str fur), some (.str z), v] ∧ Wz i z ∧ z.length = i ∧ Ws z) ⟨rfl, _, "", rfl, ⟨Nat.le_refl _, fun c hc => nomatch hc⟩, rfl, ws_nil⟩ (fun i σ H' _ z => by rw [z.1]; exact SqL.of hp) ?_ ?_⟩
    · rintro i x σ H' hx ⟨rfl, v, z, rfl, hw, hz, hs⟩
      rw [List.getElem?_map] at hx
      obtain ⟨n, hni, rfl⟩ := Option.map_eq_some_iff.mp hx
      have il : i < ns.length := (List.getElem?_eq_some_iff.mp hni).1
      refine ⟨_, rfl, rfl, _, rfl, ite2 (fun h1 => ?_) (fun h1 => ?_)⟩
      · obtain ⟨d, hd, hds, hsm⟩ := fur_at26 n
        have e : z = "" := by
          have := of_decide_eq_true h1
          injection this
        have i0 : i = 0 := by rw [← hz, e]; rfl
        refine ⟨_, rfl, _, rfl, _, _, rfl, rfl, (by show (0 : Int) < 26; decide), _, _, d, rfl, rfl, fur_size, hd, ?_⟩
        exact ⟨rfl, _, _, rfl, (Wz.one hds).le (by omega), by rw [i0]; rfl, ws_one hsm⟩
      · obtain ⟨d, hd, hds⟩ := fur_at n (m := 36) (by decide) (by decide)
        refine ⟨_, rfl, _, rfl, _, rfl, _, _, rfl, rfl, (by show (0 : Int) < 36; decide), _, _, d, rfl, rfl, fur_size, hd, _, _, rfl, rfl, ?_, ?_⟩
        · exact Nat.le_trans (Nat.add_le_add (Nat.le_of_eq hz) (one_len d)) (Nat.le_trans (show i + 1 ≤ 1000 by omega) (by decide))
        · exact ⟨rfl, _, _, rfl, hw.app (Wz.one hds), by rw [len_app, hz]; rfl, ws_app hs fun e => absurd (show decide (V.str z = V.str "") = true from decide_eq_true (congrArg V.str (nil_str e))) h1⟩
    · rintro σ H' ⟨rfl, v, z, rfl, hw, hz, hs⟩
      rw [List.length_map, hl] at hw hz
      exact ⟨_, rfl, k z _ s1 hw hz hs⟩
def sp_wordsT : Sp := fun vs H Q _ => ∃ c m : Int, vs = [.int c, .int m] ∧ 0 ≤ m ∧ m ≤ 20 ∧ ∀ p (ws : List Str) H', Same H H' → H' p = some (.lst (ws.map V.str)) → ws.length = m.toNat → H p = none → (∀ z ∈ ws, Wz 12 z ∧ 1 ≤ z.length ∧ Ws z) → Q (.ref p) H'
theorem okF__law_words (T : Txt K mg) : Def P w K mg base 3 "_law_words" ["_law_cell", "_law_many"] sp_wordsT := by
  refine T.t__law_words.ok sc__law_words (fun vs H Q E h => ?_) fun f cdv A outer s H vs Q E hr h => ?_
  · obtain ⟨c, m, rfl, _⟩ := h
    rfl
  · obtain ⟨c, m, rfl, m0, m1, k⟩ := h
    refine ⟨_, (pss_8
      (ps_set (i := 2) sc__law_words.nd rfl (Or.inl rfl) pe_str)
      (ps_set (i := 3) sc__law_words.nd rfl (Or.inl rfl) (pe_def (ok__law_stream T) hr rfl (pa_2 (pv 0) pe_int)))
      (ps_set (i := 4) sc__law_words.nd rfl (Or.inl rfl) (pe_def (okF__law_word T) hr rfl (pa_2 (pv 0) pe_int)))
      (ps_set (i := 5) sc__law_words.nd rfl (Or.inl rfl) (pe_op op_add pe_int (pe_op op_mod (pe_ix (ix_listK K) (pv 3) pe_int (fun _ _ => rfl)) pe_int)))
      (ps_set (i := 6) sc__law_words.nd rfl (Or.inl rfl) (pe_op op_mod (pe_ix (ix_listK K) (pv 3) pe_int (fun _ _ => rfl)) (pv 5)))
      (ps_set (i := 7) sc__law_words.nd rfl (Or.inl rfl) (pe_lst pa_nil))
      (ps_for PassesOwn.never rfl (pi_range1 rfl T.b_range (pa_1 (pv 1))) (pg_name (i := 8) sc__law_words.nd rfl (Or.inl rfl)) (pss_one (ps_if (pt_cmpR op_eq (pe_op op_mod (pe_ix (ix_listK K) (pv 3) pe_int (fun _ _ => rfl)) pe_int) pe_int (nomark _)) (pss_2
      (ps_set (i := 9) sc__law_words.nd rfl (Or.inl rfl) (pe_def (okF__law_word T) hr rfl (pa_2 (pe_op op_add (pe_ix (ix_listK K) (pv 3) pe_int (fun _ _ => rfl)) (pe_op op_mul pe_int (pv 8))) (pe_op op_add pe_int (pe_op op_mod (pe_op op_add (pe_ix (ix_listK K) (pv 3) pe_int (fun _ _ => rfl)) (pe_op op_mul pe_int (pv 8))) pe_int)))))
      (ps_expr (pe_bm PySem.F.plainAttrs_list PySem.F.slot_list_append PySem.F.type_list_append mt_append (pv 7) (pa_1 (pe_op op_add_str (pe_slice sl_str (pv 9) po_none (po_some (pe_un un_neg pe_int))) (pe_ix ix_str (pv 2) (pe_op op_mod (pe_op op_add (pe_ix (ix_listK K) (pv 3) pe_int (fun _ _ => rfl)) (pv 8)) pe_int) (fun _ _ => rfl))))))) (pss_one (ps_if (pt_cmpR op_eq (pe_op op_mod (pe_ix (ix_listK K) (pv 3) pe_int (fun _ _ => rfl)) pe_int) pe_int (nomark _)) (pss_one (ps_expr (pe_bm PySem.F.plainAttrs_list PySem.F.slot_list_append PySem.F.type_list_append mt_append (pv 7) (pa_1 (pe_slice sl_str (pv 4) po_none (po_some (pe_op op_add pe_int (pe_op op_mod (pe_op op_add (pe_ix (ix_listK K) (pv 3) pe_int (fun _ _ => rfl)) (pv 8)) pe_int)))))))) (pss_3
      (ps_set (i := 10) sc__law_words.nd rfl (Or.inl rfl) (pe_ix ix_str (pv 2) (pe_op op_mod (pe_op op_add (pe_ix (ix_listK K) (pv 3) pe_int (fun _ _ => rfl)) (pv 8)) pe_int) (fun _ _ => rfl)))
      (ps_if (pt_cmpR op_eq (pv 6) pe_int (nomark _)) (pss_one (ps_set (i := 10) sc__law_words.nd rfl (Or.inl rfl) (pe_ix ix_str (pv 2) (pe_op op_mod (pe_op op_add (pe_ix (ix_listK K) (pv 3) pe_int (fun _ _ => rfl)) (pv 8)) pe_int) (fun _ _ => rfl)))) pss_nil)
      (ps_expr (pe_bm PySem.F.plainAttrs_list PySem.F.slot_list_append PySem.F.type_list_append mt_append (pv 7) (pa_1 (pe_op op_add_str (pe_op op_add_str (pe_slice sl_str (pv 4) po_none (po_some (pv 6))) (pv 10)) (pe_slice sl_str (pv 4) (po_some (pe_op op_add (pv 6) pe_int)) (po_some (pv 5)))))))))))))
      (ps_ret (pv 7))), ?_⟩
    refine ⟨_, rfl, c, 4, rfl, by decide, by decide, fun p ns H1 s1 hp hl _ hn => ?_⟩
    refine ⟨_, rfl, c, 12, rfl, by decide, by decide, fun z H2 s2 hz hzl hzs => ?_⟩
    have hp2 := s2 _ _ hp
    have hl4 : ns.length = 4 := hl
    have a0 : atI (ns.map V.int) 0 = some (V.int (ns.getD 0 0)) := at_ints (k := 0) (by omega)
    have a1 : atI (ns.map V.int) 1 = some (V.int (ns.getD 1 0)) := at_ints (k := 1) (by omega)
    have a2 : atI (ns.map V.int) 2 = some (V.int (ns.getD 2 0)) := at_ints (k := 2) (by omega)
    have a3 : atI (ns.map V.int) 3 = some (V.int (ns.getD 3 0)) := at_ints (k := 3) (by omega)
    generalize ns.getD 0 0 = n0 at *
    generalize ns.getD 1 0 = n1 at *
    generalize ns.getD 2 0 = n2 at *
    generalize ns.getD 3 0 = n3 at *
    refine ⟨_, rfl, _, _, _, _, rfl, rfl, SqL.of hp2, a0, _, _, rfl, rfl, (by show (0 : Int) < 12; decide), _, _, rfl, rfl, ?_⟩
    refine ⟨_, rfl, _, _, _, _, rfl, rfl, SqL.of hp2, a1, _, rfl, _, _, rfl, rfl, (by show (0 : Int) < 1 + n0 % 12; omega), ?_⟩
    refine ⟨by decide, fun q hq => ?_⟩
    have s3 := same_upd (o := HO.lst []) hq
    have sz : z.length ≤ sizeLine := hz.size (by decide)
    refine ⟨_, rfl, _, rfl, by omega, by omega, for_range (lo := 0) (n := m.toNat) (fun i σ H' => Same H2 H' ∧ (∃ ws : List Str, H' q = some (.lst (ws.map V.str)) ∧ ws.length = i ∧ ∀ y ∈ ws, Wz 12 y ∧ 1 ≤ y.length ∧ Ws y) ∧ ∃ (v1 v2 v3 : Option V), σ = [some (.int c), some (.int m), some (.str fur), some (.ref p), some (.str z), some (.int (1 + n0 % 12)), some (.int (n1 % (1 + n0 % 12))), some (.ref q), v1, v2, v3])
      ⟨s3, ⟨[], upd_same, rfl, fun _ z => nomatch z⟩, _, _, _, rfl⟩ ?_ ?_⟩
    · rintro i σ H' hi ⟨sm, ⟨ws, hw, wl, hwz⟩, v1, v2, v3, rfl⟩
      have hp3 := sm _ _ hp2
      have lw : ws.length < sizeLine := by rw [wl]; exact small1000 (by omega)
      have fin : ∀ (y : Str) (H3 : Hp), Same H' H3 → Wz 12 y → 1 ≤ y.length → Ws y → Same H2 (upd H3 q (.lst (ws.map V.str ++ [V.str y]))) ∧ ∃ ws' : List Str, upd H3 q (.lst (ws.map V.str ++ [V.str y])) q = some (.lst (ws'.map V.str)) ∧ ws'.length = i + 1 ∧ ∀ x ∈ ws', Wz 12 x ∧ 1 ≤ x.length ∧ Ws x := fun y H3 s4 hy hy1 hys => by
        refine ⟨(sm.trans s4).set hq, ws ++ [y], by rw [upd_same, List.map_append]; rfl, by rw [List.length_append, wl]; rfl, fun x hx => ?_⟩
        rcases List.mem_append.mp hx with hx | hx
        · exact hwz x hx
        · rw [List.mem_singleton.mp hx]
          exact ⟨hy, hy1, hys⟩
      refine ⟨_, rfl, _, _, _, _, rfl, rfl, SqL.of hp3, a2, _, _, rfl, rfl, (by show (0 : Int) < 4; decide), rfl, _, rfl, ite2 (fun h1 => ?_) (fun h1 => ?_)⟩
      · refine ⟨_, rfl, _, _, _, _, rfl, rfl, SqL.of hp3, a3, _, rfl, _, _, rfl, rfl, .inl ⟨by decide, by decide⟩, _, _, rfl, rfl, _, rfl, _, _, _, _, rfl, rfl, SqL.of hp3, a1, _, rfl, _, _, rfl, rfl, .inl ⟨by decide, by decide⟩, _, _, rfl, rfl, _, _, rfl, rfl, (by show (0 : Int) < 12; decide), _, _, rfl, rfl, _, _, rfl, by omega, by omega, fun y H3 s4 hy hyl hys => ?_⟩
        obtain ⟨d, hd, hds, hsm⟩ := fur_at26 (n0 + (0 + (i : Int)))
        have hy12 : Wz 12 y := hy.le (by omega)
        have yz : y.length ≤ sizeLine := hy12.size (by decide)
        have cy := hy12.cut none (some (-1))
        refine ⟨_, rfl, .inl ⟨rfl, _, SqL.of (s4 _ _ hw)⟩, _, rfl, _, rfl, _, rfl, _, rfl, yz, _, rfl, _, rfl, _, _, _, _, rfl, rfl, SqL.of (s4 _ _ hp3), a0, _, rfl, _, _, rfl, rfl, _, _, rfl, rfl, (by show (0 : Int) < 26; decide), _, _, d, rfl, rfl, fur_size, hd, _, _, rfl, rfl, Nat.le_trans (Nat.add_le_add cy.1 (one_len d)) (by decide), ?_⟩
        refine ⟨_, _, _, rfl, rfl, s4 _ _ hw, by rw [List.length_map]; exact lw, ?_⟩
        obtain ⟨f1, f2⟩ := fin _ H3 s4 ⟨by rw [len_app]; exact Nat.le_trans (Nat.add_le_add (cut_last (by omega)) (one_len d)) (by have := hy12.1; omega), (cy.app (Wz.one hds)).2⟩ (by rw [len_app]; exact Nat.le_add_left 1 _) (ws_app (ws_cut hys) fun _ => ws_one hsm)
        exact ⟨f1, f2, _, _, _, rfl⟩
      · refine ⟨_, rfl, _, _, _, _, rfl, rfl, SqL.of hp3, a2, _, _, rfl, rfl, (by show (0 : Int) < 4; decide), rfl, _, rfl, ite2 (fun h2 => ?_) (fun h2 => ?_)⟩
        · have cz := hz.cut none (some (1 + (n0 + (0 + (i : Int))) % 12))
          refine ⟨_, rfl, .inl ⟨rfl, _, SqL.of hw⟩, _, rfl, _, rfl, _, _, _, _, rfl, rfl, SqL.of hp3, a0, _, rfl, _, _, rfl, rfl, _, _, rfl, rfl, (by show (0 : Int) < 12; decide), _, _, rfl, rfl, _, rfl, _, rfl, sz, ?_⟩
          refine ⟨_, _, _, rfl, rfl, hw, by rw [List.length_map]; exact lw, ?_⟩
          obtain ⟨f1, f2⟩ := fin _ H' (Same.refl _) cz (cut_pos (by omega) (by omega)) (ws_cut hzs)
          exact ⟨f1, f2, _, _, _, rfl⟩
        · obtain ⟨d, hd, hds⟩ := fur_at (n3 + (0 + (i : Int))) (m := 36) (by decide) (by decide)
          obtain ⟨d', hd', hds', hsm'⟩ := fur_at26 (n3 + (0 + (i : Int)))
          have n10 : 0 ≤ n1 % (1 + n0 % 12) := Int.emod_nonneg _ (by omega)
          have n11 : n1 % (1 + n0 % 12) < 1 + n0 % 12 := Int.emod_lt_of_pos _ (by omega)
          have le3 : ∀ x : Nat, (cutS z none (some (n1 % (1 + n0 % 12))) ++ (⟨#[x]⟩ : Str) ++ cutS z (some (n1 % (1 + n0 % 12) + 1)) (some (1 + n0 % 12))).length ≤ 12 := fun x => by
            rw [len_app, len_app]
            have q1 := cut_upl z n10
            have q2 := cut_midl z (lo := n1 % (1 + n0 % 12) + 1) (hi := 1 + n0 % 12) (by omega) (by omega)
            have q3 := one_len x
            omega
          have c1 := hz.cut none (some (n1 % (1 + n0 % 12)))
          have c2 := hz.cut (some (n1 % (1 + n0 % 12) + 1)) (some (1 + n0 % 12))
          refine ⟨_, rfl, _, rfl, _, _, _, _, rfl, rfl, SqL.of hp3, a3, _, rfl, _, _, rfl, rfl, _, _, rfl, rfl, (by show (0 : Int) < 36; decide), _, _, d, rfl, rfl, fur_size, hd, ?_⟩
          refine ⟨_, rfl, rfl, _, rfl, ite2 (fun h3 => ?_) (fun h3 => ?_)⟩
          · refine ⟨_, rfl, _, rfl, _, _, _, _, rfl, rfl, SqL.of hp3, a3, _, rfl, _, _, rfl, rfl, _, _, rfl, rfl, (by show (0 : Int) < 26; decide), _, _, d', rfl, rfl, fur_size, hd', ?_⟩
            have ca := c1.app (Wz.one hds')
            refine ⟨_, rfl, .inl ⟨rfl, _, SqL.of hw⟩, _, rfl, _, rfl, _, rfl, _, rfl, sz, _, rfl, _, _, rfl, rfl, Nat.le_trans (Nat.add_le_add c1.1 (one_len d')) (by decide), ?_⟩
            refine ⟨_, rfl, _, rfl, _, _, rfl, rfl, _, rfl, _, rfl, _, rfl, _, rfl, sz, _, _, rfl, rfl, Nat.le_trans (Nat.add_le_add ca.1 c2.1) (by decide), ?_⟩
            refine ⟨_, _, _, rfl, rfl, hw, by rw [List.length_map]; exact lw, ?_⟩
            obtain ⟨f1, f2⟩ := fin _ H' (Same.refl _) ⟨le3 d', (ca.app c2).2⟩ (by rw [len_app, len_app]; exact Nat.le_trans (Nat.le_add_left 1 _) (Nat.le_add_right _ _)) (ws_app (ws_app (ws_cut hzs) fun _ => ws_one hsm') fun e => absurd e (app_ne _ _))
            exact ⟨f1, f2, _, _, _, rfl⟩
          · have ca := c1.app (Wz.one hds)
            refine ⟨_, rfl, .inl ⟨rfl, _, SqL.of hw⟩, _, rfl, _, rfl, _, rfl, _, rfl, sz, _, rfl, _, _, rfl, rfl, Nat.le_trans (Nat.add_le_add c1.1 (one_len d)) (by decide), ?_⟩
            refine ⟨_, rfl, _, rfl, _, _, rfl, rfl, _, rfl, _, rfl, _, rfl, _, rfl, sz, _, _, rfl, rfl, Nat.le_trans (Nat.add_le_add ca.1 c2.1) (by decide), ?_⟩
            refine ⟨_, _, _, rfl, rfl, hw, by rw [List.length_map]; exact lw, ?_⟩
            obtain ⟨f1, f2⟩ := fin _ H' (Same.refl _) ⟨le3 d, (ca.app c2).2⟩ (by rw [len_app, len_app]; exact Nat.le_trans (Nat.le_add_left 1 _) (Nat.le_add_right _ _)) (ws_app (ws_app (ws_cut hzs) fun e => absurd e (cut_ne (by omega) (by have := vin h3; omega))) fun e => absurd e (app_ne _ _))
            exact ⟨f1, f2, _, _, _, rfl⟩
    · rintro σ H' ⟨sm, ⟨ws, hw, wl, hwz⟩, v1, v2, v3, rfl⟩
      exact ⟨_, rfl, k q ws H' ((s1.trans s2).trans sm) hw wl ((s1.trans s2).free hq) hwz⟩
end
end Wy
namespace Wy
open PySem L2
def strD : PyData → Str
  | .str z => z
  | _ => ""
def prodB : PyData → Bool
  | .tuple es => es.all (txtD small) && decide (es.map strD = Tim.srt strLt (es.map strD))
  | _ => false
def oneB : PyData → Bool
  | .int n => decide (1 ≤ n)
  | _ => false
def pairB : PyData → Bool
  | .tuple [a, b] => prodB a && oneB b
  | _ => false
def prodOf : PyData → List Str
  | .tuple (.tuple es :: _) => es.map strD
  | _ => []
def whyB : PyData → Bool
  | .list ds => ds.all pairB && decide (ds.map prodOf = uniqP (ds.map prodOf))
  | _ => false
def okP : PyData → Prop
  | .tuple es => es.length ≤ 100 ∧ ∀ e ∈ es, shD e
  | _ => True
def okPr : PyData → Prop
  | .tuple [a, _] => okP a
  | _ => True
def okY : PyData → Prop
  | .list ds => ds.length ≤ 70 ∧ ∀ d ∈ ds, okPr d
  | _ => True
theorem dat_lst {K : PySem.W.Frag} {H : Hp} {d : PyData} {x : V} (h : Dat K H d x) : (∃ a xs ds, d = .list ds ∧ x = .ref a ∧ SqL K H a xs ∧ Dats K H ds xs) ∨ (tyIs (tyD d) "list" = false ∧ (∀ ds, d ≠ .list ds)) := by
  cases h with
  | lst a b => exact .inl ⟨_, _, _, rfl, rfl, a, b⟩
  | non => exact .inr ⟨rfl, fun _ z => nomatch z⟩
  | bl _ => exact .inr ⟨rfl, fun _ z => nomatch z⟩
  | int _ => exact .inr ⟨rfl, fun _ z => nomatch z⟩
  | str _ _ => exact .inr ⟨rfl, fun _ z => nomatch z⟩
  | tup _ _ => exact .inr ⟨rfl, fun _ z => nomatch z⟩
theorem dat_tup2 {K : PySem.W.Frag} {H : Hp} {d : PyData} {x : V} (h : Dat K H d x) : (∃ a xs ds, d = .tuple ds ∧ x = .ref a ∧ SqT K H a xs ∧ Dats K H ds xs) ∨ (tyIs (tyD d) "tuple" = false ∧ (∀ ds, d ≠ .tuple ds)) := by
  cases h with
  | tup a b => exact .inl ⟨_, _, _, rfl, rfl, a, b⟩
  | non => exact .inr ⟨rfl, fun _ z => nomatch z⟩
  | bl _ => exact .inr ⟨rfl, fun _ z => nomatch z⟩
  | int _ => exact .inr ⟨rfl, fun _ z => nomatch z⟩
  | str _ _ => exact .inr ⟨rfl, fun _ z => nomatch z⟩
  | lst _ _ => exact .inr ⟨rfl, fun _ z => nomatch z⟩
theorem dat_whole {K : PySem.W.Frag} {H : Hp} {d : PyData} {x : V} (h : Dat K H d x) : (∃ i, d = .int i ∧ x = .int i) ∨ (wholeD d = false ∧ oneB d = false) := by
  cases h with
  | int i => exact .inl ⟨i, rfl, rfl⟩
  | non => exact .inr ⟨rfl, rfl⟩
  | bl _ => exact .inr ⟨rfl, rfl⟩
  | tup _ _ => exact .inr ⟨rfl, rfl⟩
  | str _ _ => exact .inr ⟨rfl, rfl⟩
  | lst _ _ => exact .inr ⟨rfl, rfl⟩
theorem words_strs {K : PySem.W.Frag} {H : Hp} : ∀ {es : List PyData} {xs : List V}, Dats K H es xs → es.all (txtD small) = true → xs = (es.map strD).map V.str ∧ es = (es.map strD).map PyData.str ∧ (∀ w ∈ es.map strD, PyData.strOk w = true ∧ txtB small w = true)
  | _, _, .nil, _ => ⟨rfl, rfl, fun _ z => nomatch z⟩
  | d :: ds, x :: xs, .cons h t, e => by
    rw [List.all_cons, Bool.and_eq_true] at e
    cases h with
    | str z hz =>
      obtain ⟨a, b, c⟩ := words_strs t e.2
      refine ⟨by rw [List.map_cons, List.map_cons, ← a]; rfl, by rw [List.map_cons, List.map_cons, ← b]; rfl, fun w hw => ?_⟩
      rcases List.mem_cons.mp hw with rfl | hw
      · exact ⟨hz, e.1⟩
      · exact c w hw
    | non => exact absurd e.1 Bool.false_ne_true
    | bl _ => exact absurd e.1 Bool.false_ne_true
    | int _ => exact absurd e.1 Bool.false_ne_true
    | lst _ _ => exact absurd e.1 Bool.false_ne_true
    | tup _ _ => exact absurd e.1 Bool.false_ne_true
def dR (r : List Str) : PyData := .tuple (r.map .str)
theorem dats_r {K : PySem.W.Frag} {H : Hp} : ∀ {r : List Str}, (∀ w ∈ r, PyData.strOk w = true) → Dats K H (r.map .str) (r.map V.str)
  | [], _ => .nil
  | w :: r, h => .cons (.str w (h w (List.mem_cons_self ..))) (dats_r fun x hx => h x (List.mem_cons_of_mem _ hx))
theorem depth_r (r : List Str) : PyData.depthAll (r.map .str) = 0 := by
  induction r with
  | nil => rfl
  | cons x p ih =>
    show max (PyData.depth (.str x)) (PyData.depthAll (p.map .str)) = 0
    rw [ih]
    rfl
theorem depth_R (R : List (List Str)) : PyData.depthAll (R.map dR) ≤ 1 := by
  induction R with
  | nil => exact Nat.zero_le _
  | cons r R ih =>
    show max (PyData.depth (dR r)) (PyData.depthAll (R.map dR)) ≤ 1
    refine Nat.max_le.mpr ⟨?_, ih⟩
    show PyData.depthAll (r.map .str) + 1 ≤ 1
    rw [depth_r]
    exact Nat.le_refl _
theorem dats_K {K : PySem.W.Frag} {H : Hp} : ∀ {zs : List V} {R : List (List Str)}, TupsK K H zs R → (∀ r ∈ R, ∀ w ∈ r, PyData.strOk w = true) → Dats K H (R.map dR) zs
  | _, _, .nil, _ => .nil
  | _, _, .cons ⟨b, e, hb⟩ t, h => by
    rw [e]
    exact .cons (.tup hb (dats_r (h _ (List.mem_cons_self ..)))) (dats_K t fun r hr => h r (List.mem_cons_of_mem _ hr))
theorem eqv_strsF : ∀ p q : List Str, PyData.eqvAll (p.map .str) (q.map .str) = decide (p = q)
  | [], [] => rfl
  | [], _ :: _ => rfl
  | _ :: _, [] => rfl
  | x :: p, y :: q => by
    show (PyData.eqv (.str x) (.str y) && PyData.eqvAll (p.map .str) (q.map .str)) = _
    rw [eqv_strsF p q, show PyData.eqv (.str x) (.str y) = decide (x = y) by
      show (x == y) = _
      by_cases h : x = y <;> simp [h]]
    by_cases h1 : x = y <;> by_cases h2 : p = q <;> simp [h1, h2]
theorem eqv_setsF : ∀ p q : List (List Str), PyData.eqvAll (p.map dR) (q.map dR) = decide (p = q)
  | [], [] => rfl
  | [], _ :: _ => rfl
  | _ :: _, [] => rfl
  | x :: p, y :: q => by
    show (PyData.eqvAll (x.map .str) (y.map .str) && PyData.eqvAll (p.map dR) (q.map dR)) = _
    rw [eqv_setsF p q, eqv_strsF x y]
    by_cases h1 : x = y <;> by_cases h2 : p = q <;> simp [h1, h2]
theorem prodB_no {d : PyData} (h : ∀ ds, d ≠ .tuple ds) : prodB d = false := by
  cases d with
  | tuple ds => exact absurd rfl (h ds)
  | _ => rfl
theorem pairB_no {d : PyData} (h : ∀ a b, d ≠ .tuple [a, b]) : pairB d = false := by
  unfold pairB
  split
  · exact absurd rfl (h _ _)
  · rfl
theorem whyB_no {d : PyData} (h : ∀ ds, d ≠ .list ds) : whyB d = false := by
  cases d with
  | list ds => exact absurd rfl (h ds)
  | _ => rfl
theorem dats2 {K : PySem.W.Frag} {H : Hp} {ds : List PyData} {xs : List V} (h : Dats K H ds xs) (e : ds.length = 2) : ∃ a b x y, ds = [a, b] ∧ xs = [x, y] ∧ Dat K H a x ∧ Dat K H b y := by
  match ds, xs, h, e with
  | [a, b], [x, y], .cons h1 (.cons h2 .nil), _ => exact ⟨a, b, x, y, rfl, rfl, h1, h2⟩
theorem dI (a b : Int) : decide (V.int a = V.int b) = decide (a = b) := decide_eq_decide.mpr ⟨fun h => by injection h, fun h => by rw [h]⟩
theorem pairs_of {K : PySem.W.Frag} {H : Hp} {d : PyData} {x : V} (h : Dat K H d x) (e : pairB d = true) : ∃ q b n, x = .ref q ∧ SqT K H q [.ref b, n] ∧ SqT K H b ((prodOf d).map V.str) ∧ ∀ w ∈ prodOf d, PyData.strOk w = true := by
  rcases dat_tup2 h with ⟨q, xs, ds, rfl, rfl, hq, hds⟩ | ⟨_, hn⟩
  · unfold pairB at e
    split at e
    · rename_i a b z
      obtain rfl := PyData.tuple.inj z
      obtain ⟨a', b', x1, y1, e1, e2, h1, h2⟩ := dats2 hds rfl
      cases e1
      subst e2
      rw [Bool.and_eq_true] at e
      rcases dat_tup2 h1 with ⟨b0, zs, es, rfl, rfl, hb, hes⟩ | ⟨_, hn⟩
      · have ep : (es.all (txtD small) && decide (es.map strD = Tim.srt strLt (es.map strD))) = true := e.1
        rw [Bool.and_eq_true] at ep
        obtain ⟨w1, w2, w3⟩ := words_strs hes ep.1
        exact ⟨q, b0, y1, rfl, hq, by show SqT K H b0 ((es.map strD).map V.str); rw [← w1]; exact hb, fun w hw => (w3 w hw).1⟩
      · rw [prodB_no hn] at e
        exact absurd e.1 Bool.false_ne_true
    · cases e
  · rw [pairB_no fun a b => hn _] at e
    cases e
section
variable {P : Program} {w : World} {K : PySem.W.Frag} {mg : Str → Option Value} {base : Heap}
def sp_prodB (K : PySem.W.Frag) : Sp := fun vs H Q _ => ∃ (x : V) (d : PyData), vs = [x] ∧ Dat K H d x ∧ okP d ∧ ∀ H', Same H H' → Q (.bl (prodB d)) H'
theorem ok_is_product (T : Txt K mg) : Def P w K mg base 3 "is_product" ["thing"] (sp_prodB K) := by
  refine T.t_is_product.ok sc_is_product (fun vs H Q E h => ?_) fun f cdv A outer s H vs Q E hr h => ?_
  · obtain ⟨x, d, rfl, _⟩ := h
    rfl
  · obtain ⟨x, d, rfl, hd, hz, q⟩ := h
    refine ⟨_, (pss_2
      (ps_if (PW.pt (pw_or (pt_not (pt_val (pe_callB (call_isiD K) rfl T.b_isinstance bt_isinstance (pa_2 (pv 0) (pe_ty rfl T.b_tuple bt_tuple))))) (pw_or1 (pt_not (pt_val (pe_callB (call_allL rfl K) rfl T.b_all bt_all (pa_1 (pe_comp (N := ["name"]) (caps := [none]) rfl (by with_unfolding_all rfl) (pi_tupK K (pv 0)) (fun _ _ _ _ _ => (pg_name (i := 0) (show (["name"] : List Str).Nodup by decide +kernel) rfl (Or.inl rfl))) (fun _ _ _ _ _ => pf_nil) (fun _ _ _ _ _ => (pe_def (ok_is_word T) hr rfl (pa_1 (pv 0)))))))))))) (pss_one (ps_ret pe_bl)) pss_nil)
      (ps_ret (pe_cmpR (op_eqD hr.units K) (pe_callTy (call_listK K) rfl T.b_list bt_list (pa_1 (pv 0))) (pe_callB (call_sortedS K) rfl T.b_sorted bt_sorted (pa_1 (pv 0))) (nomark _)))), ?_⟩
    refine ⟨_, rfl, x, _, d, rfl, hd, by decide, _, rfl, ?_⟩
    rcases dat_tup2 hd with ⟨a, xs, ds, rfl, rfl, ht, hds⟩ | ⟨ty, hn⟩
    · refine iteFb (show (!tyIs "tuple" "tuple") = false by decide) ?_
      have el := dats_len hds
      have hz1 : ds.length ≤ 100 := hz.1
      refine ⟨_, rfl, a, rfl, ⟨_, ht⟩, fun D hD => ?_⟩
      refine comp_by xs.length (fun i σ' H' => (∃ v, σ' = [v]) ∧ Same H H' ∧ H' D = some (.lst (((ds.take i).map (txtD small)).map V.bl))) ⟨⟨_, rfl⟩, same_upd hD, upd_same⟩ (fun i σ' H' hi p => ?_) (fun σ' H' p => ⟨?_, ?_⟩) (fun i σ' H' hi p x H2 y => ?_)
      · obtain ⟨_, sm, _⟩ := p
        exact ⟨xs, xs[i], sm.seqT ht, List.getElem?_eq_getElem hi⟩
      · obtain ⟨_, sm, _⟩ := p
        exact ⟨xs, sm.seqT ht, Nat.le_refl _⟩
      · obtain ⟨_, sm, e⟩ := p
        refine ⟨D, ds.map (txtD small), rfl, SqL.of (by rw [e, ← el, List.take_length]), _, rfl, ?_⟩
        have e2 : (ds.map (txtD small)).all id = ds.all (txtD small) := by rw [List.all_map]; rfl
        rw [e2]
        have ef : prodB (.tuple ds) = (ds.all (txtD small) && decide (ds.map strD = Tim.srt strLt (ds.map strD))) := rfl
        cases h2 : ds.all (txtD small) with
        | true =>
          refine iteFb rfl ?_
          obtain ⟨w1, w2, w3⟩ := words_strs hds h2
          have ht1 : SqT K H' a ((ds.map strD).map V.str) := by rw [← w1]; exact sm.seqT ht
          have q1 : ∀ G, Same H' G → Q (.bl (decide (ds.map strD = Tim.srt strLt (ds.map strD)))) G := fun G sG => by
            have q := q _ (sm.trans sG)
            rw [ef, h2, Bool.true_and] at q
            exact q
          generalize ds.map strD = ws at *
          refine ⟨_, rfl, _, _, rfl, .inr ht1, fun c hc => ?_⟩
          have u1 := same_upd (o := HO.lst (ws.map V.str)) hc
          refine ⟨_, rfl, a, ws, rfl, .inr (u1.seqT ht1), fun c2 hc2 => ?_⟩
          have u2 := same_upd (o := HO.lst ((Tim.srt strLt ws).map V.str)) hc2
          refine ⟨.list (ws.map .str), .list ((Tim.srt strLt ws).map .str), .lst (SqL.of (u2 _ _ upd_same)) (dats_r fun w hw => (w3 w hw).1), .lst (SqL.of upd_same) (dats_r fun w hw => (w3 w ((Tim.srt_perm strLt _).mem_iff.mp hw)).1), ?_, ?_⟩
          · show PyData.depthAll (ws.map .str) + 1 ≤ 60
            rw [depth_r]
            decide
          · show Q (.bl (PyData.eqvAll _ _)) _
            rw [eqv_strsF]
            exact q1 _ (u1.trans u2)
        | false =>
          refine iteTb rfl ?_
          have q := q _ sm
          rw [ef, h2, Bool.false_and] at q
          exact q
      · obtain ⟨⟨v, rfl⟩, sm, e⟩ := p
        obtain ⟨rfl, hx⟩ := y
        obtain ⟨d, hdi, hdx⟩ := dats_get (Dats.same sm _ _ hds) (hx xs (sm.seqT ht))
        refine ⟨_, rfl, x, d, rfl, hdx, hz.2 d (List.mem_of_getElem? hdi), fun H3 s3 => ⟨_, s3 _ _ e, ?_, ⟨_, rfl⟩, (sm.trans s3).set hD, ?_⟩⟩
        · rw [List.length_map, List.length_map, List.length_take]
          exact small1000 (by omega)
        · rw [upd_same, List.take_succ, hdi, List.map_append, List.map_append]
          rfl
    · refine iteTb (by rw [ty]; rfl) (iteT ?_)
      have q := q H (Same.refl H)
      rw [prodB_no hn] at q
      exact q
def sp_pairB (K : PySem.W.Frag) : Sp := fun vs H Q _ => ∃ (x : V) (d : PyData), vs = [x] ∧ Dat K H d x ∧ okPr d ∧ ∀ H', Same H H' → Q (.bl (pairB d)) H'
theorem ok_is_product_with_ways (T : Txt K mg) : Def P w K mg base 4 "is_product_with_ways" ["thing"] (sp_pairB K) := by
  refine T.t_is_product_with_ways.ok sc_is_product_with_ways (fun vs H Q E h => ?_) fun f cdv A outer s H vs Q E hr h => ?_
  · obtain ⟨x, d, rfl, _⟩ := h
    rfl
  · obtain ⟨x, d, rfl, hd, hz, q⟩ := h
    refine ⟨_, (pss_2
      (ps_if (PW.pt (pw_or (pt_not (pt_val (pe_callB (call_isiD K) rfl T.b_isinstance bt_isinstance (pa_2 (pv 0) (pe_ty rfl T.b_tuple bt_tuple))))) (pw_or1 (pt_cmpR op_ne (pe_callB (call_lenK K) rfl T.b_len bt_len (pa_1 (pv 0))) pe_int (nomark _))))) (pss_one (ps_ret pe_bl)) pss_nil)
      (ps_ret (pe_and (pe_def (ok_is_product T) hr rfl (pa_1 (pe_ix (ix_tupK K) (pv 0) pe_int (fun _ _ => rfl)))) (pe_and (pe_def (ok_is_whole T) hr rfl (pa_1 (pe_ix (ix_tupK K) (pv 0) pe_int (fun _ _ => rfl)))) (pe_one (pe_cmpR op_ge (pe_ix (ix_tupK K) (pv 0) pe_int (fun _ _ => rfl)) pe_int (nomark _))))))), ?_⟩
    refine ⟨_, rfl, x, _, d, rfl, hd, by decide, _, rfl, ?_⟩
    rcases dat_tup2 hd with ⟨a, xs, ds, rfl, rfl, ht, hds⟩ | ⟨ty, hn⟩
    · refine iteFb (show (!tyIs "tuple" "tuple") = false by decide) ?_
      have el := dats_len hds
      refine ⟨_, rfl, _, _, rfl, .inr ⟨_, ht, rfl⟩, rfl, _, rfl, ?_⟩
      refine ite2 (fun h1 => ?_) (fun h1 => ?_)
      · have q := q H (Same.refl H)
        have no : pairB (.tuple ds) = false := pairB_no fun a b z => by
          obtain rfl := PyData.tuple.inj z
          have e2 : xs.length = 2 := by rw [← el]; rfl
          rw [e2] at h1
          exact absurd h1 (by decide)
        rw [no] at q
        exact q
      · have l2 : ds.length = 2 := by
          rw [el]
          refine Classical.byContradiction fun z => h1 ?_
          show (!decide (V.int (xs.length : Int) = V.int 2)) = true
          rw [dI, decide_eq_false (by omega)]
          rfl
        obtain ⟨d1, d2, x1, x2, rfl, rfl, hd1, hd2⟩ := dats2 hds l2
        refine ⟨_, rfl, _, _, _, _, rfl, rfl, ht, rfl, x1, d1, rfl, hd1, hz, fun H1 s1 => ⟨_, rfl, ite2 (fun h2 => ?_) (fun h2 => ?_)⟩⟩
        · have q1 : ∀ G, Same H1 G → Q (.bl (oneB d2)) G := fun G sG => by
            have q := q _ (s1.trans sG)
            rw [show pairB (.tuple [d1, d2]) = (prodB d1 && oneB d2) from rfl, h2, Bool.true_and] at q
            exact q
          have ht1 := s1.seqT ht
          refine ⟨_, rfl, _, _, _, _, rfl, rfl, ht1, rfl, x2, d2, rfl, Dat.same s1 _ _ hd2, _, rfl, ?_⟩
          rcases dat_whole hd2 with ⟨i, rfl, rfl⟩ | ⟨n1, n2⟩
          · refine iteTb rfl ?_
            exact ⟨_, rfl, _, _, _, _, rfl, rfl, ht1, rfl, _, _, rfl, rfl, q1 _ (Same.refl _)⟩
          · refine iteFb n1 ?_
            have q := q1 _ (Same.refl _)
            rw [n2] at q
            exact q
        · have q := q H1 s1
          rw [show pairB (.tuple [d1, d2]) = (prodB d1 && oneB d2) from rfl, Bool.eq_false_iff.mpr h2, Bool.false_and] at q
          exact q
    · refine iteTb (by rw [ty]; rfl) (iteT ?_)
      have q := q H (Same.refl H)
      rw [pairB_no fun a b => hn _] at q
      exact q
def sp_whyB (K : PySem.W.Frag) : Sp := fun vs H Q _ => ∃ (x : V) (d : PyData), vs = [x] ∧ Dat K H d x ∧ okY d ∧ ∀ H', Same H H' → Q (.bl (whyB d)) H'
theorem ok_is_why (T : Txt K mg) : Def P w K mg base 5 "is_why" ["thing"] (sp_whyB K) := by
  refine T.t_is_why.ok sc_is_why (fun vs H Q E h => ?_) fun f cdv A outer s H vs Q E hr h => ?_
  · obtain ⟨x, d, rfl, _⟩ := h
    rfl
  · obtain ⟨x, d, rfl, hd, hz, q⟩ := h
    refine ⟨_, (pss_3
      (ps_if (PW.pt (pw_or (pt_not (pt_val (pe_callB (call_isiD K) rfl T.b_isinstance bt_isinstance (pa_2 (pv 0) (pe_ty rfl T.b_list bt_list))))) (pw_or1 (pt_not (pt_val (pe_callB (call_allL rfl K) rfl T.b_all bt_all (pa_1 (pe_comp (N := ["pair"]) (caps := [none]) rfl (by with_unfolding_all rfl) (pi_listK K (pv 0)) (fun _ _ _ _ _ => (pg_name (i := 0) (show (["pair"] : List Str).Nodup by decide +kernel) rfl (Or.inl rfl))) (fun _ _ _ _ _ => pf_nil) (fun _ _ _ _ _ => (pe_def (ok_is_product_with_ways T) hr rfl (pa_1 (pv 0)))))))))))) (pss_one (ps_ret pe_bl)) pss_nil)
      (ps_setComp (i := 1) sc_is_why.nd rfl rfl (N := ["pair"]) (caps := [none]) rfl (by with_unfolding_all rfl) (pi_listK K (pv 0)) (fun _ _ _ _ _ => (pg_name (i := 0) (show (["pair"] : List Str).Nodup by decide +kernel) rfl (Or.inl rfl))) (fun _ _ _ _ _ => pf_nil) (fun _ _ _ _ _ => (pe_ix (ix_tupK K) (pv 0) pe_int (fun _ _ => rfl))))
      (ps_ret (pe_cmpR (op_eqD hr.units K) (pv 1) (pe_callB (call_sortedK2 hr.units rfl P w K) rfl T.b_sorted bt_sorted (pa_1 (pe_callTy (call_setK hr.units rfl P w K) rfl T.b_set bt_set (pa_1 (pv 1))))) (nomark _)))), ?_⟩
    refine ⟨_, rfl, x, _, d, rfl, hd, by decide, _, rfl, ?_⟩
    rcases dat_lst hd with ⟨a, xs, ds, rfl, rfl, hl, hds⟩ | ⟨ty, hn⟩
    · refine iteFb (show (!tyIs "list" "list") = false by decide) ?_
      have el := dats_len hds
      have hz1 : ds.length ≤ 70 := hz.1
      refine ⟨_, rfl, a, rfl, ⟨_, hl⟩, fun D hD => ?_⟩
      refine comp_by xs.length (fun i σ' H' => (∃ v, σ' = [v]) ∧ Same H H' ∧ H' D = some (.lst (((ds.take i).map pairB).map V.bl))) ⟨⟨_, rfl⟩, same_upd hD, upd_same⟩ (fun i σ' H' hi p => ?_) (fun σ' H' p => ⟨?_, ?_⟩) (fun i σ' H' hi p x H2 y => ?_)
      · obtain ⟨_, sm, _⟩ := p
        exact ⟨xs, xs[i], sm.seq hl, List.getElem?_eq_getElem hi⟩
      · obtain ⟨_, sm, _⟩ := p
        exact ⟨xs, sm.seq hl, Nat.le_refl _⟩
      · obtain ⟨_, sm, e⟩ := p
        refine ⟨D, ds.map pairB, rfl, SqL.of (by rw [e, ← el, List.take_length]), _, rfl, ?_⟩
        have e2 : (ds.map pairB).all id = ds.all pairB := by rw [List.all_map]; rfl
        rw [e2]
        have ef : whyB (.list ds) = (ds.all pairB && decide (ds.map prodOf = uniqP (ds.map prodOf))) := rfl
        cases h2 : ds.all pairB with
        | true =>
          refine iteFb rfl ?_
          have q1 : ∀ G, Same H' G → Q (.bl (decide (ds.map prodOf = uniqP (ds.map prodOf)))) G := fun G sG => by
            have q := q _ (sm.trans sG)
            rw [ef, h2, Bool.true_and] at q
            exact q
          have hl1 := sm.seq hl
          have hds1 := Dats.same sm _ _ hds
          refine ⟨_, rfl, a, rfl, ⟨_, hl1⟩, fun D2 hD2 => ?_⟩
          refine comp_by xs.length (fun i σ' G => (∃ v, σ' = [v]) ∧ Same H' G ∧ ∃ ps, G D2 = some (.lst ps) ∧ TupsK K H' ps ((ds.take i).map prodOf)) ⟨⟨_, rfl⟩, same_upd hD2, [], upd_same, .nil⟩ (fun i σ' G hi p => ?_) (fun σ' G p => ⟨?_, ?_⟩) (fun i σ' G hi p x H2 y => ?_)
          · obtain ⟨_, sm2, _⟩ := p
            exact ⟨xs, xs[i], sm2.seq hl1, List.getElem?_eq_getElem hi⟩
          · obtain ⟨_, sm2, _⟩ := p
            exact ⟨xs, sm2.seq hl1, Nat.le_refl _⟩
          · obtain ⟨_, sm2, ps, ep, hps⟩ := p
            rw [← el, List.take_length] at hps
            have hps2 : TupsK K G ps (ds.map prodOf) := Paired.mapP hps fun _ _ ⟨b, e, z⟩ => ⟨b, e, sm2.seqT z⟩
            have okp : ∀ r ∈ ds.map prodOf, ∀ w ∈ r, PyData.strOk w = true := fun r hr w hw => by
              obtain ⟨d, hd, rfl⟩ := List.mem_map.mp hr
              obtain ⟨i, hi, e⟩ := List.getElem_of_mem hd
              obtain ⟨x, hx, hdx⟩ : ∃ x, xs[i]? = some x ∧ Dat K H d x := by
                have hxi : xs[i]? = some (xs[i]'(by omega)) := List.getElem?_eq_getElem (by omega)
                obtain ⟨d', hd', hdx⟩ := dats_get hds hxi
                rw [List.getElem?_eq_getElem hi, e] at hd'
                cases hd'
                exact ⟨_, hxi, hdx⟩
              obtain ⟨_, _, _, _, _, _, h⟩ := pairs_of hdx (List.all_eq_true.mp h2 d hd)
              exact h w hw
            have lR : (ds.map prodOf).length ≤ 76 := by rw [List.length_map]; omega
            generalize ds.map prodOf = R at *
            refine ⟨_, rfl, _, rfl, D2, ps, R, rfl, SqL.of ep, hps2, lR, fun e1 us he1 nd1 hus hyt => ?_⟩
            have u1 := same_upd (o := SetU P w e1 us) he1
            refine ⟨e1, us, rfl, upd_same, (fun y hy => u1.seqT (hyt y hy)), fun e2 us2 he2 ht2 => ?_⟩
            rw [srt_uniqP nd1 hus] at ht2
            have u2 := same_upd (o := HO.lst us2) he2
            have ht3 : TupsK K (upd (upd G e1 (SetU P w e1 us)) e2 (.lst us2)) us2 (uniqP R) := Paired.mapP ht2 fun _ _ ⟨b, e, z⟩ => ⟨b, e, u2.seqT z⟩
            have hps3 : TupsK K (upd (upd G e1 (SetU P w e1 us)) e2 (.lst us2)) ps R := Paired.mapP hps2 fun _ _ ⟨b, e, z⟩ => ⟨b, e, (u1.trans u2).seqT z⟩
            have memU : ∀ r ∈ uniqP R, r ∈ R := fun r hr => by
              unfold uniqP at hr
              exact List.mem_eraseDups.mp ((Tim.srt_perm prodLt _).mem_iff.mp hr)
            refine ⟨.list (R.map dR), .list ((uniqP R).map dR), .lst (SqL.of ((u1.trans u2) _ _ ep)) (dats_K hps3 okp), .lst (SqL.of upd_same) (dats_K ht3 fun r hr => okp r (memU r hr)), ?_, ?_⟩
            · exact Nat.le_trans (Nat.succ_le_succ (depth_R _)) (by decide)
            · show Q (.bl (PyData.eqvAll _ _)) _
              rw [eqv_setsF]
              exact q1 _ (sm2.trans (u1.trans u2))
          · obtain ⟨⟨v, rfl⟩, sm2, ps, ep, hps⟩ := p
            obtain ⟨rfl, hx⟩ := y
            obtain ⟨d, hdi, hdx⟩ := dats_get hds1 (hx xs (sm2.seq hl1))
            obtain ⟨q', b, n, rfl, hq, hb, _⟩ := pairs_of hdx (List.all_eq_true.mp h2 d (List.mem_of_getElem? hdi))
            have lps := Paired.length hps
            rw [List.length_map, List.length_take] at lps
            refine ⟨_, rfl, _, _, _, _, rfl, rfl, sm2.seqT hq, rfl, _, ep, small1000 (by omega), ⟨_, rfl⟩, sm2.set hD2, _, upd_same, ?_⟩
            rw [List.take_succ, hdi, List.map_append]
            exact paired_snoc hps ⟨b, rfl, hb⟩
        | false =>
          refine iteTb rfl ?_
          have q := q _ sm
          rw [ef, h2, Bool.false_and] at q
          exact q
      · obtain ⟨⟨v, rfl⟩, sm, e⟩ := p
        obtain ⟨rfl, hx⟩ := y
        obtain ⟨d, hdi, hdx⟩ := dats_get (Dats.same sm _ _ hds) (hx xs (sm.seq hl))
        refine ⟨_, rfl, x, d, rfl, hdx, hz.2 d (List.mem_of_getElem? hdi), fun H3 s3 => ⟨_, s3 _ _ e, ?_, ⟨_, rfl⟩, (sm.trans s3).set hD, ?_⟩⟩
        · rw [List.length_map, List.length_map, List.length_take]
          exact small1000 (by omega)
        · rw [upd_same, List.take_succ, hdi, List.map_append, List.map_append]
          rfl
    · refine iteTb (by rw [ty]; rfl) (iteT ?_)
      have q := q H (Same.refl H)
      rw [whyB_no hn] at q
      exact q
end
end Wy
namespace Wy
open PySem L2
theorem depth_strs (p : List Str) : PyData.depthAll (p.map .str) = 0 := by
  induction p with
  | nil => rfl
  | cons x p ih =>
    show max (PyData.depth (.str x)) (PyData.depthAll (p.map .str)) = 0
    rw [ih]
    rfl
theorem depth_prod (p : List Str) : PyData.depth (.tuple (p.map .str)) = 1 := by
  show PyData.depthAll (p.map .str) + 1 = 1
  rw [depth_strs]
def Asc (p : List Str) : Prop := p.Pairwise fun a b => strLt b a = false
def Rise (W : Tab) : Prop := (W.map (·.1)).Pairwise fun a b => prodLt a b = true
end Wy
namespace Wy
open PySem L2
theorem pw_strict {α : Type} {lt : α → α → Bool} (h : Tim.STO lt) : ∀ {l : List α}, l.Pairwise (fun a b => lt b a = false) → l.Nodup → l.Pairwise fun a b => lt a b = true
  | [], _, _ => .nil
  | a :: l, h1, h2 => by
    obtain ⟨a1, a2⟩ := List.pairwise_cons.mp h1
    obtain ⟨b1, b2⟩ := List.nodup_cons.mp h2
    refine List.pairwise_cons.mpr ⟨fun b hb => ?_, pw_strict h a2 b2⟩
    cases e : lt a b with
    | true => rfl
    | false => exact absurd (h.tri a b e (a1 b hb)) fun z => b1 (z ▸ hb)
def nf (p : List Str × Int) : List Str × Int := (Tim.srt strLt p.1, p.2)
end Wy
namespace Wy
open PySem L2
theorem cut_ints (ns : List Int) (lo hi : Option Int) : ∃ ms : List Int, cutV (ns.map V.int) lo hi = ms.map V.int ∧ ms.length ≤ ns.length := by
  refine ⟨(ns.drop (HT.sIx ns.length 0 lo)).take (HT.sIx ns.length ns.length hi - HT.sIx ns.length 0 lo), ?_, ?_⟩
  · unfold cutV
    rw [List.length_map, List.map_take, List.map_drop]
  · rw [List.length_take, List.length_drop]
    omega
theorem mem_putA {W : Tab} {k : List Str} {v : Int} {kv : List Str × Int} (h : kv ∈ putA W k v) : kv ∈ W ∨ kv = (k, v) := by
  unfold putA at h
  split at h
  · obtain ⟨x, hx, e⟩ := List.mem_map.mp h
    by_cases q : x.1 = k
    · rw [if_pos q] at e
      exact .inr (by rw [← e, q])
    · rw [if_neg q] at e
      exact .inl (e ▸ hx)
  · rcases List.mem_append.mp h with h | h
    · exact .inl h
    · exact .inr (List.mem_singleton.mp h)
theorem get_mem {W : Tab} {k : List Str} {n : Int} (h : getA W k = some n) : (k, n) ∈ W := by
  unfold getA at h
  obtain ⟨x, hx, rfl⟩ := Option.map_eq_some_iff.mp h
  have h1 := List.find?_some hx
  have : x.1 = k := by simpa using h1
  rw [← this]
  exact List.mem_of_find?_eq_some hx
end Wy
namespace Wy
open PySem L2
def Wt (z : Str) : Prop := Wz 40 z ∧ txtB small z = true
def WOkT (W : Tab) : Prop := Rise W ∧ ∀ kv ∈ W, 1 ≤ kv.2 ∧ Asc kv.1 ∧ kv.1.length ≤ 50 ∧ (∀ z ∈ kv.1, Wt z) ∧ kv.2 < 2 ^ 200
section
variable {P : Program} {w : World} {K : PySem.W.Frag} {mg : Str → Option Value} {base : Heap}
def sp_why : Sp := fun vs H Q _ => ∃ (ca wa : Addr) (cs : List Int) (ws : List Str) (m : Int), vs = [.ref ca, .ref wa, .int m] ∧ H ca = some (.lst (cs.map V.int)) ∧ cs.length ≤ 90 ∧ H wa = some (.lst (ws.map V.str)) ∧ 1 ≤ ws.length ∧ (∀ z ∈ ws, Wt z) ∧ 0 ≤ m ∧ m ≤ 40 ∧
  ∀ l ys W H', Same H H' → H l = none → H' l = some (.lst ys) → (∀ H2, KeepT H' H2 → Paired (PlAt H2) ys W) → W.length ≤ cs.length → WOkT W → Q (.ref l) H'
theorem ok__law_why (T : Txt K mg) : Def P w K mg base 2 "_law_why" ["_law_cells", "_law_words_here", "_law_most"] sp_why := by
  refine T.t__law_why.ok sc__law_why (fun vs H Q E h => ?_) fun f cdv A outer s H vs Q E hr h => ?_
  · obtain ⟨ca, wa, cs, ws, m, rfl, _⟩ := h
    rfl
  · obtain ⟨ca, wa, cs, ws, m, rfl, hca, cl, hwa, wl, hwz, m0, m1, k⟩ := h
    refine ⟨_, (pss_3
      (ps_set (i := 3) sc__law_why.nd rfl (Or.inr rfl) pe_dnewT)
      (ps_for PassesOwn.never rfl (pi_listK K (pv 0)) (pg_name (i := 4) sc__law_why.nd rfl (Or.inl rfl)) (pss_6
      (ps_set (i := 5) sc__law_why.nd rfl (Or.inl rfl) (pe_def (ok__law_stream T) hr rfl (pa_2 (pv 4) (pe_op op_add (pv 2) pe_int))))
      (ps_set (i := 6) sc__law_why.nd rfl (Or.inl rfl) (pe_op op_mod (pe_ix (ix_listK K) (pv 5) pe_int (fun _ _ => rfl)) (pe_op op_add (pv 2) pe_int)))
      (ps_set (i := 7) sc__law_why.nd rfl (Or.inl rfl) (pe_callTy (call_tupleK K) rfl T.b_tuple bt_tuple (pa_1 (pe_callB (call_sortedS K) rfl T.b_sorted bt_sorted (pa_1 (pe_comp (N := ["_law_number", "_law_words_here"]) (caps := [none, some 1]) rfl (by with_unfolding_all rfl) (pi_listK K (pe_slice (sl_listK K) (pv 5) (po_some pe_int) (po_some (pe_op op_add pe_int (pv 6))))) (fun _ _ _ _ _ => (pg_name (i := 0) (show (["_law_number", "_law_words_here"] : List Str).Nodup by decide +kernel) rfl (Or.inl rfl))) (fun _ _ _ _ _ => pf_nil) (fun _ _ _ _ _ => (pe_ix (ix_listK K) (pv 1) (pe_op op_mod (pv 0) (pe_callB (call_lenK K) rfl T.b_len bt_len (pa_1 (pv 1)))) (fun _ _ => rfl)))))))))
      (ps_set (i := 8) sc__law_why.nd rfl (Or.inl rfl) (pe_op op_add pe_int (pe_op op_mod (pe_ix (ix_listK K) (pv 5) pe_int (fun _ _ => rfl)) pe_int)))
      (ps_if (pt_cmpR op_eq (pe_op op_mod (pe_ix (ix_listK K) (pv 5) pe_int (fun _ _ => rfl)) pe_int) pe_int (nomark _)) (pss_one (ps_set (i := 8) sc__law_why.nd rfl (Or.inl rfl) (pe_op op_add pe_int (pe_op op_mod (pv 4) (pe_op op_pow pe_int pe_int))))) pss_nil)
      (ps_dput (hu_of hr) (pv 3) (pv 7) (pe_op op_add (pe_dget2 (hu_of hr) (pv 3) (pv 7) pe_int ⟨rfl, rfl, rfl, rfl⟩) (pv 8)) rfl)))
      (ps_ret (pe_comp (N := ["_law_product", "_law_ways"]) (caps := [none, some 3]) rfl (by with_unfolding_all rfl) (pi_listK K (pe_callB (call_sortedD hr.units rfl K) rfl T.b_sorted bt_sorted (pa_1 (pv 3)))) (fun _ _ _ _ _ => (pg_name (i := 0) (show (["_law_product", "_law_ways"] : List Str).Nodup by decide +kernel) rfl (Or.inl rfl))) (fun _ _ _ _ _ => pf_nil) (fun _ _ _ _ _ => (pe_tup (pa_2 (pv 0) (pe_dget (hu_of hr) (pv 1) (pv 0) (fun _ _ => rfl)))))))), ?_⟩
    refine fun d hd => ?_
    have s1 := same_upd (o := HO.dT []) hd
    refine ⟨_, rfl, ca, rfl, ⟨_, SqL.of (s1 _ _ hca)⟩, for_list (xs := cs.map V.int) (fun i σ G => Same H G ∧ (∃ v1 v2 v3 v4 v5, σ = [some (.ref ca), some (.ref wa), some (.int m), some (.ref d), v1, v2, v3, v4, v5]) ∧ ∃ W : Tab, G d = some (encD W) ∧ (W.map (·.1)).Nodup ∧ W.length ≤ i ∧ ∀ kv ∈ W, 1 ≤ kv.2 ∧ Asc kv.1 ∧ kv.1.length ≤ 50 ∧ (∀ z ∈ kv.1, Wt z) ∧ kv.2 ≤ (i : Int) * 2 ^ 110) ⟨s1, ⟨_, _, _, _, _, rfl⟩, [], upd_same, List.nodup_nil, Nat.le_refl _, fun _ z => nomatch z⟩ (fun i σ G _ z => SqL.of (z.1 _ _ hca)) ?_ ?_⟩
    · rintro i x σ G hx ⟨sg, ⟨v1, v2, v3, v4, v5, rfl⟩, W, hW, hnd, hWl, hWk⟩
      rw [List.getElem?_map] at hx
      obtain ⟨c, hci, rfl⟩ := Option.map_eq_some_iff.mp hx
      have icl : i < cs.length := (List.getElem?_eq_some_iff.mp hci).1
      refine ⟨_, rfl, _, rfl, _, _, rfl, rfl, c, m + 3, rfl, by omega, by omega, fun p ns H1 t1 hp hl _ hn => ?_⟩
      have a0 : atI (ns.map V.int) 0 = some (V.int (ns.getD 0 0)) := at_ints (k := 0) (by omega)
      have a1 : atI (ns.map V.int) 1 = some (V.int (ns.getD 1 0)) := at_ints (k := 1) (by omega)
      have a2 : atI (ns.map V.int) 2 = some (V.int (ns.getD 2 0)) := at_ints (k := 2) (by omega)
      refine ⟨_, rfl, _, _, _, _, rfl, rfl, SqL.of hp, a0, _, rfl, _, _, rfl, rfl, _, _, rfl, rfl, (by show (0 : Int) < m + 1; omega), ?_⟩
      refine ⟨_, rfl, _, rfl, _, rfl, _, _, rfl, rfl, _, rfl, _, _, rfl, SqL.of hp, fun q hq => ?_⟩
      obtain ⟨ms, em, lm⟩ := cut_ints ns (some 3) (some (3 + ns.getD 0 0 % (m + 1)))
      rw [em]
      have t2 := same_upd (o := HO.lst (ms.map V.int)) hq
      refine ⟨q, rfl, ⟨_, SqL.of upd_same⟩, fun D hD => ?_⟩
      have t3 := same_upd (o := HO.lst []) hD
      refine comp_by (ms.map V.int).length (fun i σ' H' => (∃ v, σ' = [v, some (.ref wa)]) ∧ Same (upd H1 q (.lst (ms.map V.int))) H' ∧ ∃ ys : List Str, H' D = some (.lst (ys.map V.str)) ∧ ys.length = i ∧ ∀ y ∈ ys, Wt y) ⟨⟨_, rfl⟩, t3, [], upd_same, rfl, fun _ z => nomatch z⟩ (fun i σ' H' hi p => ?_) (fun σ' H' p => ⟨?_, ?_⟩) (fun i σ' H' hi p x H2 y => ?_)
      · obtain ⟨_, sm, _⟩ := p
        exact ⟨_, (ms.map V.int)[i], SqL.of (sm _ _ upd_same), List.getElem?_eq_getElem hi⟩
      · obtain ⟨_, sm, _⟩ := p
        exact ⟨_, SqL.of (sm _ _ upd_same), Nat.le_refl _⟩
      · obtain ⟨_, sm, ys, e, yl, hy⟩ := p
        rw [List.length_map] at yl
        have hp' := sm _ _ (t2 _ _ hp)
        refine ⟨_, ys, rfl, .inl (SqL.of e), fun l hl' => ?_⟩
        have u1 := same_upd (o := HO.lst ((Tim.srt strLt ys).map V.str)) hl'
        refine ⟨_, _, rfl, .inl ⟨SqL.of upd_same, fun t ht => ?_⟩⟩
        have u2 := same_upd (o := HO.tup ((Tim.srt strLt ys).map V.str)) ht
        have uA := t1.trans (t2.trans (sm.trans (u1.trans u2)))
        have hp2 := u2 _ _ (u1 _ _ hp')
        have hd2 := uA _ _ hW
        have ht2 : upd (upd H' l (.lst ((Tim.srt strLt ys).map V.str))) t (.tup ((Tim.srt strLt ys).map V.str)) t = some (.tup (((Tim.srt strLt ys).map (Sum.inr : Str → Key)).map kV)) := by
          rw [upd_same, kV_strs]
        generalize upd (upd H' l (.lst ((Tim.srt strLt ys).map V.str))) t (.tup ((Tim.srt strLt ys).map V.str)) = H6 at *
        have slen : (Tim.srt strLt ys).length = ys.length := (Tim.srt_perm strLt _).length_eq
        have fin : ∀ n : Int, 1 ≤ n → n ≤ 2 ^ 110 → (Same H (upd H6 d (.dT (putK ((encI W).map fun kv => (kv.1.map Sum.inr, kv.2)) ((Tim.srt strLt ys).map Sum.inr) (V.int ((getA W (Tim.srt strLt ys)).getD 0 + n))))) ∧ ∃ W' : Tab, upd H6 d (.dT (putK ((encI W).map fun kv => (kv.1.map Sum.inr, kv.2)) ((Tim.srt strLt ys).map Sum.inr) (V.int ((getA W (Tim.srt strLt ys)).getD 0 + n)))) d = some (encD W') ∧ (W'.map (·.1)).Nodup ∧ W'.length ≤ i + 1 ∧ ∀ kv ∈ W', 1 ≤ kv.2 ∧ Asc kv.1 ∧ kv.1.length ≤ 50 ∧ (∀ z ∈ kv.1, Wt z) ∧ kv.2 ≤ ((i + 1 : Nat) : Int) * 2 ^ 110) := fun n hn1 hn2 => by
          have ei : ((i + 1 : Nat) : Int) * 2 ^ 110 = (i : Int) * 2 ^ 110 + 2 ^ 110 := by rw [Int.natCast_add, Int.add_mul]; rfl
          refine ⟨(sg.trans uA).set hd, addA W (Tim.srt strLt ys) n, by rw [upd_same, putK_enc]; rfl, nd_put hnd _ _, Nat.le_trans (len_put _ _ _) (Nat.succ_le_succ hWl), fun kv hkv => ?_⟩
          rcases mem_putA hkv with h | h
          · obtain ⟨b1, b2, b3, b4, b5⟩ := hWk kv h
            exact ⟨b1, b2, b3, b4, by rw [ei]; omega⟩
          · rw [h]
            have bb : 1 ≤ (getA W (Tim.srt strLt ys)).getD 0 + n ∧ (getA W (Tim.srt strLt ys)).getD 0 + n ≤ (i : Int) * 2 ^ 110 + 2 ^ 110 := by
              cases hg : getA W (Tim.srt strLt ys) with
              | none => show 1 ≤ 0 + n ∧ 0 + n ≤ _; omega
              | some v =>
                obtain ⟨b1, _, _, _, b5⟩ := hWk _ (get_mem hg)
                have b1' : 1 ≤ v := b1
                have b5' : v ≤ (i : Int) * 2 ^ 110 := b5
                show 1 ≤ v + n ∧ v + n ≤ _
                omega
            exact ⟨bb.1, Tim.srt_asc sto_str _, by rw [slen]; omega, fun z hz => hy z ((Tim.srt_perm strLt _).mem_iff.mp hz), by rw [ei]; exact bb.2⟩
        have hget : DGet H6 d (.ref t) ((getA W (Tim.srt strLt ys)).map V.int) := by
          rw [← valV_enc]
          exact DGet.t hd2 ht2
        have hlen : ((encI W).map fun kv => (kv.1.map (Sum.inr : Str → Key), kv.2)).length < sizeLine := by rw [List.length_map]; unfold encI; rw [List.length_map]; exact small1000 (by omega)
        refine ⟨_, rfl, _, _, _, _, rfl, rfl, SqL.of hp2, a1, _, _, rfl, rfl, (by show (0 : Int) < 3; decide), _, _, rfl, rfl, ?_⟩
        refine ⟨_, rfl, _, _, _, _, rfl, rfl, SqL.of hp2, a2, _, _, rfl, rfl, (by show (0 : Int) < 3; decide), rfl, _, rfl, ite2 (fun h1 => ?_) (fun h1 => ?_)⟩
        · refine ⟨_, rfl, _, _, rfl, rfl, ⟨by decide, by decide, by decide⟩, _, _, rfl, rfl, (by show (0 : Int) < 10 ^ 30; decide), _, _, rfl, rfl, ?_⟩
          refine ⟨_, rfl, _, rfl, .inr ⟨_, .inl hd2⟩, _, rfl, _, hget, _, rfl, (getA W (Tim.srt strLt ys)).getD 0, _, opt_int _, rfl, ?_⟩
          refine ⟨_, rfl, _, rfl, d, _, rfl, DPut.t hd2 ht2 hlen, ?_⟩
          have hc0 := Int.emod_nonneg c (show (10 ^ 30 : Int) ≠ 0 by decide)
          have hc1 := Int.emod_lt_of_pos c (show (0 : Int) < 10 ^ 30 by decide)
          have h3 : (10 ^ 30 : Int) < 2 ^ 110 := by decide
          obtain ⟨f1, f2⟩ := fin (1 + c % 10 ^ 30) (by omega) (by omega)
          exact ⟨f1, ⟨_, _, _, _, _, rfl⟩, f2⟩
        · refine ⟨_, rfl, _, rfl, .inr ⟨_, .inl hd2⟩, _, rfl, _, hget, _, rfl, (getA W (Tim.srt strLt ys)).getD 0, _, opt_int _, rfl, ?_⟩
          refine ⟨_, rfl, _, rfl, d, _, rfl, DPut.t hd2 ht2 hlen, ?_⟩
          obtain ⟨f1, f2⟩ := fin (1 + ns.getD 1 0 % 3) (by omega) (by omega)
          exact ⟨f1, ⟨_, _, _, _, _, rfl⟩, f2⟩
      · obtain ⟨⟨v, rfl⟩, sm, ys, e, yl, hy⟩ := p
        obtain ⟨rfl, hx⟩ := y
        have hx' := hx _ (SqL.of (sm _ _ upd_same))
        rw [List.getElem?_map] at hx'
        obtain ⟨n, hni, rfl⟩ := Option.map_eq_some_iff.mp hx'
        have hw' := sm _ _ (t2 _ _ (t1 _ _ (sg _ _ hwa)))
        have wp : (0 : Int) < ((ws.map V.str).length : Int) := by rw [List.length_map]; omega
        have hr0 := Int.emod_nonneg n (show ((ws.map V.str).length : Int) ≠ 0 by omega)
        have hr1 := Int.emod_lt_of_pos n wp
        obtain ⟨v2, hv2, hm2⟩ := atI_in (xs := ws.map V.str) (i := n % ((ws.map V.str).length : Int)) hr0 hr1
        obtain ⟨z, hz, rfl⟩ := List.mem_map.mp hm2
        refine ⟨_, rfl, _, rfl, _, rfl, _, _, rfl, .inl ⟨_, SqL.of hw', rfl⟩, _, _, rfl, rfl, wp, _, _, _, _, rfl, rfl, SqL.of hw', hv2, ?_⟩
        have il : i < ms.length := (List.getElem?_eq_some_iff.mp hni).1
        refine ⟨_, e, by rw [List.length_map, yl]; exact small1000 (by omega), ⟨_, rfl⟩, sm.set hD, ys ++ [z], by rw [upd_same, List.map_append]; rfl, by rw [List.length_append, yl]; rfl, fun y hy' => ?_⟩
        rcases List.mem_append.mp hy' with h | h
        · exact hy y h
        · rw [List.mem_singleton.mp h]
          exact hwz z hz
    · rintro σ G ⟨sg, ⟨v1, v2, v3, v4, v5, rfl⟩, W, hW, hnd, hWl, hWk⟩
      rw [List.length_map] at hWl
      refine ⟨_, rfl, d, encI W, rfl, hW, fun l zs hl hz => ?_⟩
      have ek : (encI W).map (·.1) = W.map (·.1) := by unfold encI; rw [List.map_map]; rfl
      rw [ek] at hz
      have u1 := same_upd (o := HO.lst zs) hl
      refine ⟨l, rfl, ⟨_, SqL.of upd_same⟩, fun D2 hD2 => ?_⟩
      have hpl : zs.length = (Tim.srt prodLt (W.map (·.1))).length := Paired.length hz
      have hD2G : G D2 = none := u1.free hD2
      have hSlen : (Tim.srt prodLt (W.map (·.1))).length = W.length := by
        rw [(Tim.srt_perm prodLt _).length_eq, List.length_map]
      have hSmem : ∀ p ∈ Tim.srt prodLt (W.map (·.1)), p ∈ W.map (·.1) := fun p hp => (Tim.srt_perm prodLt _).mem_iff.mp hp
      have hSr : (Tim.srt prodLt (W.map (·.1))).Pairwise fun a b => prodLt a b = true := pw_strict sto_prod (Tim.srt_asc sto_prod _) ((Tim.srt_perm prodLt _).nodup_iff.mpr hnd)
      generalize Tim.srt prodLt (W.map (·.1)) = S at *
      refine comp_by zs.length (fun i σ' H' => (∃ v, σ' = [v, some (.ref d)]) ∧ Same (upd G l (.lst zs)) H' ∧ ∃ ys, H' D2 = some (.lst ys) ∧ (∀ H2, KeepT H' H2 → Paired (PlAt H2) ys ((S.take i).map fun k => (k, (getA W k).getD 0))) ∧ ys.length = i) ⟨⟨_, rfl⟩, same_upd hD2, [], upd_same, fun _ _ => .nil, rfl⟩ (fun i σ' H' hi p => ?_) (fun σ' H' p => ⟨?_, ?_⟩) (fun i σ' H' hi p x H2 y => ?_)
      · obtain ⟨_, sm, _⟩ := p
        exact ⟨_, zs[i], SqL.of (sm _ _ upd_same), List.getElem?_eq_getElem hi⟩
      · obtain ⟨_, sm, _⟩ := p
        exact ⟨_, SqL.of (sm _ _ upd_same), Nat.le_refl _⟩
      · obtain ⟨_, sm, ys, e, hys, yl⟩ := p
        rw [hpl, List.take_length] at hys
        refine k D2 ys _ H' (sg.trans (u1.trans sm)) (sg.free hD2G) e hys (by rw [List.length_map]; omega) ⟨?_, fun kv hkv => ?_⟩
        · unfold Rise
          rw [List.map_map]
          exact (List.map_id S).symm ▸ hSr
        · obtain ⟨pr, hpr, rfl⟩ := List.mem_map.mp hkv
          obtain ⟨n, hn, hmem⟩ := told_all hnd (hSmem pr hpr)
          obtain ⟨b1, b2, b3, b4, b5⟩ := hWk _ hmem
          rw [hn]
          refine ⟨b1, b2, b3, b4, ?_⟩
          rw [List.length_map] at b5
          have b5' : n ≤ (cs.length : Int) * 2 ^ 110 := b5
          have h90 : (cs.length : Int) * 2 ^ 110 ≤ 90 * 2 ^ 110 := Int.mul_le_mul_of_nonneg_right (by omega) (by decide)
          have h91 : (90 * 2 ^ 110 : Int) < 2 ^ 200 := by decide
          show n < 2 ^ 200
          omega
      · obtain ⟨⟨v, rfl⟩, sm, ys, e2, hqs, yl⟩ := p
        obtain ⟨rfl, hx⟩ := y
        have hx' := hx _ (SqL.of (sm _ _ upd_same))
        obtain ⟨pr, hpr, b, rfl, hb⟩ := paired_get hz hx'
        obtain ⟨n, hn, hmem⟩ := told_all hnd (hSmem pr (List.mem_of_getElem? hpr))
        have hb2 := sm _ _ (u1 _ _ hb)
        have hget : DGet H2 d (.ref b) (some (.int n)) := by
          have e1 : (some (V.int n)) = valV ((encI W).map fun kv => (kv.1.map (Sum.inr : Str → Key), kv.2)) (pr.map Sum.inr) := by rw [valV_enc, hn]; rfl
          rw [e1]
          exact DGet.t (sm _ _ (u1 _ _ hW)) (by rw [kV_strs]; exact hb2)
        refine ⟨_, rfl, _, rfl, _, rfl, d, _, rfl, hget, by show 2 ≤ sizeLine; decide, fun q hq => ?_⟩
        have u3 := same_upd (o := HO.tup [.ref b, .int n]) hq
        have hqD : q ≠ D2 := fun z => by
          rw [z, e2] at hq
          cases hq
        have hbD : b ≠ D2 := fun z => by
          rw [z, hD2G] at hb
          cases hb
        refine ⟨_, u3 _ _ e2, by rw [yl]; exact small1000 (by omega), ⟨_, rfl⟩, (sm.trans u3).set hD2, ys ++ [.ref q], upd_same, fun H5 h5 => ?_, by rw [List.length_append, yl]; rfl⟩
        rw [List.take_succ, hpr, List.map_append]
        refine paired_snoc (hqs H5 (((Same.keepT u3).upd (u3 _ _ e2)).trans h5)) ⟨q, b, rfl, h5 q _ ?_, h5 b _ (by rw [upd_ne hbD]; exact u3 _ _ hb2)⟩
        rw [upd_ne hqD, upd_same]
        show some (HO.tup [V.ref b, V.int n]) = some (HO.tup [V.ref b, V.int ((getA W pr).getD 0)])
        rw [hn]
        rfl
end
end Wy
namespace Wy
open PySem L2
theorem txtB_le {fs z : Str} (h : txtB fs z = true) : 1 ≤ z.length ∧ z.length ≤ 12 := by
  unfold txtB at h
  simp at h
  omega
theorem wt_len {z : Str} (h : Wt z) : z.length ≤ 12 := (txtB_le h.2).2
theorem wt_ok {z : Str} (h : Wt z) : PyData.strOk z = true := h.1.ok
def KvOk (kv : List Str × Int) : Prop := 1 ≤ kv.2 ∧ Asc kv.1 ∧ kv.1.length ≤ 50 ∧ (∀ z ∈ kv.1, Wt z) ∧ kv.2 < 2 ^ 200
theorem depth_whys (W : Tab) : PyData.depthAll (whyD W) ≤ 2 := by
  induction W with
  | nil => exact Nat.zero_le _
  | cons p W ih =>
    refine Nat.max_le.mpr ⟨?_, ih⟩
    show max (PyData.depth (.tuple (p.1.map .str))) (max 0 0) + 1 ≤ 2
    rw [depth_prod]
    decide
theorem depth_W (W : Tab) : (PyData.list (whyD W)).depth ≤ 60 := Nat.le_trans (Nat.succ_le_succ (depth_whys W)) (by decide)
theorem why_good {W : Tab} (hr : Rise W) (h : ∀ kv ∈ W, KvOk kv) : whyB (.list (whyD W)) = true := by
  have ep : (whyD W).map prodOf = W.map (·.1) := by
    unfold whyD
    rw [List.map_map]
    refine List.map_congr_left fun kv _ => ?_
    show (kv.1.map PyData.str).map strD = kv.1
    rw [List.map_map]
    exact (List.map_congr_left fun _ _ => rfl).trans (List.map_id _)
  show ((whyD W).all pairB && decide ((whyD W).map prodOf = uniqP ((whyD W).map prodOf))) = true
  rw [ep, Bool.and_eq_true]
  constructor
  · refine List.all_eq_true.mpr fun d hd => ?_
    obtain ⟨kv, hkv, rfl⟩ := List.mem_map.mp hd
    have ok := h kv hkv
    have es : (kv.1.map PyData.str).map strD = kv.1 := by
      rw [List.map_map]
      exact (List.map_congr_left fun _ _ => rfl).trans (List.map_id _)
    show (((kv.1.map PyData.str).all (txtD small) && decide ((kv.1.map PyData.str).map strD = Tim.srt strLt ((kv.1.map PyData.str).map strD))) && decide (1 ≤ kv.2)) = true
    rw [es, decide_eq_true ok.1, Bool.and_true, Bool.and_eq_true]
    refine ⟨List.all_eq_true.mpr fun e he => ?_, decide_eq_true ?_⟩
    · obtain ⟨z, hz, rfl⟩ := List.mem_map.mp he
      exact (ok.2.2.2.1 z hz).2
    · exact Tim.srt_eq sto_str (.refl _) ok.2.1
  · refine decide_eq_true ?_
    have nd : (W.map (·.1)).Nodup := hr.imp fun {a b} z e => by
      rw [e, sto_prod.irr] at z
      cases z
    have asc : (W.map (·.1)).Pairwise fun a b => prodLt b a = false := hr.imp fun {a b} z => by
      cases e : prodLt b a with
      | false => rfl
      | true =>
        have := sto_prod.tr a b a z e
        rw [sto_prod.irr] at this
        cases this
    rw [← srt_uniqP nd fun _ => Iff.rfl]
    exact Tim.srt_eq sto_prod (.refl _) asc
theorem why_ok {W : Tab} (h : ∀ kv ∈ W, KvOk kv) (hl : W.length ≤ 70) : okY (.list (whyD W)) := by
  refine ⟨by unfold whyD; rw [List.length_map]; exact hl, fun d hd => ?_⟩
  obtain ⟨kv, hkv, rfl⟩ := List.mem_map.mp hd
  have ok := h kv hkv
  refine ⟨by rw [List.length_map]; have := ok.2.2.1; omega, fun e he => ?_⟩
  obtain ⟨z, hz, rfl⟩ := List.mem_map.mp he
  have := wt_len (ok.2.2.2.1 z hz)
  show z.length ≤ 200
  omega
theorem pl_keepT {H H' : Hp} (k : KeepT H H') {xs : List V} {W : Tab} (h : Paired (PlAt H) xs W) : Paired (PlAt H') xs W := Paired.mapP h fun _ _ ⟨q, b, e, h1, h2⟩ => ⟨q, b, e, k _ _ h1, k _ _ h2⟩
structure WhV (H : Hp) (l : Addr) (xs : List V) (W : Tab) : Prop where
  lst : H l = some (.lst xs)
  pl : Paired (PlAt H) xs W
theorem WhV.keep {H H' : Hp} {l : Addr} {xs : List V} {W : Tab} (h : WhV H l xs W) (k : KeepT H H') (hl : H' l = H l) : WhV H' l xs W := ⟨hl.trans h.lst, pl_keepT k h.pl⟩
theorem WhV.same {H H' : Hp} {l : Addr} {xs : List V} {W : Tab} (h : WhV H l xs W) (s : Same H H') : WhV H' l xs W := ⟨s _ _ h.lst, pl_keepT (Same.keepT s) h.pl⟩
theorem WhV.dat {K : PySem.W.Frag} {H : Hp} {l : Addr} {xs : List V} {W : Tab} (h : WhV H l xs W) (ok : ∀ kv ∈ W, KvOk kv) : Dat K H (.list (whyD W)) (.ref l) := .lst (SqL.of h.lst) (pls_dats h.pl fun kv hkv z hz => wt_ok ((ok kv hkv).2.2.2.1 z hz))
theorem eq_of {K : PySem.W.Frag} {H : Hp} {d : PyData} {x : V} (h : Dat K H d x) : PyData.eqv d d = true := PySem.SeqAt.eqv_refl _ (Dat.lay _ _ h)
end Wy
namespace Wy
open PySem L2
theorem small_fur : ∀ c ∈ small.cps.toList, c ∈ fur.cps.toList := by decide +kernel
theorem txt_not {z : Str} {d : Nat} (h : d ∈ z.cps.toList) (hd : ¬ d ∈ fur.cps.toList) : txtB small z = false := by
  have : signsOk small z.cps.toList = false := by
    cases e : z.cps.toList with
    | nil => rfl
    | cons c r =>
      rw [e] at h
      show (decide _ && _) = false
      rcases List.mem_cons.mp h with rfl | h
      · rw [decide_eq_false fun q => hd (small_fur _ q), Bool.false_and]
      · have : (r.all fun d => decide (d ∈ fur.cps.toList)) = false := Bool.eq_false_iff.mpr fun q => hd (of_decide_eq_true (List.all_eq_true.mp q d h))
        rw [this, Bool.and_false]
  unfold txtB
  rw [this, Bool.and_false]
def NoW (y : Str) : Prop := txtB small y = false ∧ PyData.strOk y = true ∧ y.length ≤ 200
theorem now_after {z y : Str} {c : Nat} (hz : Wt z) (hc : c ∈ y.cps.toList) (hf : ¬ c ∈ fur.cps.toList) (hy : ∀ d ∈ y.cps.toList, d < 0x110000) (hl : y.length ≤ 5) : NoW (z ++ y) := by
  refine ⟨txt_not (d := c) (by rw [app_list]; exact List.mem_append_right _ hc) hf, strOk_of fun d hd => ?_, by rw [len_app]; have := wt_len hz; omega⟩
  rw [app_list] at hd
  exact (List.mem_append.mp hd).elim (fun h => fur_lt d (hz.1.2 d h)) (hy d)
theorem now_ahead {z y : Str} {c : Nat} (hz : Wt z) (hc : c ∈ y.cps.toList) (hf : ¬ c ∈ fur.cps.toList) (hy : ∀ d ∈ y.cps.toList, d < 0x110000) (hl : y.length ≤ 5) : NoW (y ++ z) := by
  refine ⟨txt_not (d := c) (by rw [app_list]; exact List.mem_append_left _ hc) hf, strOk_of fun d hd => ?_, by rw [len_app]; have := wt_len hz; omega⟩
  rw [app_list] at hd
  exact (List.mem_append.mp hd).elim (hy d) (fun h => fur_lt d (hz.1.2 d h))
theorem now_const {y : Str} (h : (txtB small y == false && PyData.strOk y && decide (y.length ≤ 200)) = true) : NoW y := by
  simp at h
  exact ⟨h.1.1, h.1.2, h.2⟩
section
variable {P : Program} {w : World} {K : PySem.W.Frag} {mg : Str → Option Value} {base : Heap}
def sp_now (K : PySem.W.Frag) : Sp := fun vs H Q _ => ∃ (c : Int) (z : Str), vs = [.int c, .str z] ∧ Wt z ∧ ∀ y d H', Same H H' → Dat K H' d y → txtD small d = false → shD d → d.depth ≤ 1 → Q y H'
theorem ok__law_no_word (T : Txt K mg) : Def P w K mg base 1 "_law_no_word" ["_law_cell", "_law_word_here"] (sp_now K) := by
  refine T.t__law_no_word.ok sc__law_no_word (fun vs H Q E h => ?_) fun f cdv A outer s H vs Q E hr h => ?_
  · obtain ⟨c, z, rfl, _⟩ := h
    rfl
  · obtain ⟨c, z, rfl, hz, k⟩ := h
    refine ⟨_, (pss_3
      (ps_set (i := 2) sc__law_no_word.nd rfl (Or.inl rfl) (pe_lst (pa_9 pe_str pe_str pe_str pe_str pe_str pe_str (pe_op op_add_str (pv 1) pe_str) (pe_op op_add_str (pv 1) pe_str) (pe_op op_add_str pe_str (pv 1)))))
      (ps_set (i := 2) sc__law_no_word.nd rfl (Or.inl rfl) (pe_op op_cat (pv 2) (pe_lst (pa_5 pe_int pe_non pe_bl (pe_tup (pa_1 pe_str)) (pe_lst (pa_1 pe_str))))))
      (ps_ret (pe_ix (ix_listK K) (pv 2) (pe_op op_mod (pv 0) pe_int) (fun _ _ => rfl)))), ?_⟩
    have hl := wt_len hz
    have fits : ∀ n : Nat, n ≤ 1000 → n ≤ sizeLine := fun n h => Nat.le_trans h (by decide)
    refine ⟨_, rfl, _, _, rfl, rfl, fits _ (by show z.length + 1 ≤ 1000; omega), _, rfl, _, _, rfl, rfl, fits _ (by show z.length + 1 ≤ 1000; omega), _, rfl, _, _, rfl, rfl, fits _ (by show 1 + z.length ≤ 1000; omega), fits _ (by show 9 ≤ 1000; decide), fun p1 h1 => ?_⟩
    obtain ⟨ys, ey, hy, ly⟩ : ∃ ys : List V, [V.str "", V.str "A", V.str "Ab1", V.str "1a", V.str "a b", V.str "abcdefghijklm", V.str (z ++ "_"), V.str (z ++ "A"), V.str (" " ++ z)] = ys ∧ (∀ v ∈ ys, ∃ y, v = V.str y ∧ NoW y) ∧ ys.length = 9 := by
      refine ⟨_, rfl, fun v hv => ?_, rfl⟩
      simp only [List.mem_cons, List.not_mem_nil, or_false] at hv
      rcases hv with rfl | rfl | rfl | rfl | rfl | rfl | rfl | rfl | rfl
      · exact ⟨_, rfl, now_const (by decide +kernel)⟩
      · exact ⟨_, rfl, now_const (by decide +kernel)⟩
      · exact ⟨_, rfl, now_const (by decide +kernel)⟩
      · exact ⟨_, rfl, now_const (by decide +kernel)⟩
      · exact ⟨_, rfl, now_const (by decide +kernel)⟩
      · exact ⟨_, rfl, now_const (by decide +kernel)⟩
      · exact ⟨_, rfl, now_after (c := 95) hz (by decide +kernel) (by decide +kernel) (by decide +kernel) (by decide +kernel)⟩
      · exact ⟨_, rfl, now_after (c := 65) hz (by decide +kernel) (by decide +kernel) (by decide +kernel) (by decide +kernel)⟩
      · exact ⟨_, rfl, now_ahead (c := 32) hz (by decide +kernel) (by decide +kernel) (by decide +kernel) (by decide +kernel)⟩
    rw [ey]
    have s1 := same_upd (o := HO.lst ys) h1
    refine ⟨_, rfl, fits _ (by decide), fun p2 h2 => ⟨fits _ (by decide), fun p3 h3 => ⟨fits _ (by show 5 ≤ 1000; decide), fun p4 h4 => ?_⟩⟩⟩
    have s2 := same_upd (o := HO.tup [V.str "a"]) h2
    have s3 := same_upd (o := HO.lst [V.str "a"]) h3
    have s4 := same_upd (o := HO.lst [V.int 7, V.non, V.bl true, V.ref p2, V.ref p3]) h4
    refine ⟨_, _, _, _, rfl, rfl, (s2.trans (s3.trans s4)) _ _ upd_same, upd_same, fits _ (by rw [ly]; show 14 ≤ 1000; decide), fun p5 h5 => ?_⟩
    have s5 := same_upd (o := HO.lst (ys ++ [V.int 7, V.non, V.bl true, V.ref p2, V.ref p3])) h5
    obtain ⟨v, hat, hv⟩ := atI_in (xs := ys ++ [V.int 7, V.non, V.bl true, V.ref p2, V.ref p3]) (i := c % 14) (Int.emod_nonneg _ (by decide)) (by rw [List.length_append, ly]; exact Int.emod_lt_of_pos _ (by decide))
    refine ⟨_, rfl, _, rfl, _, _, rfl, rfl, (by show (0 : Int) < 14; decide), _, _, _, v, rfl, rfl, SqL.of upd_same, hat, ?_⟩
    have sA := s1.trans (s2.trans (s3.trans (s4.trans s5)))
    rcases List.mem_append.mp hv with hv | hv
    · obtain ⟨y, rfl, n1, n2, n3⟩ := hy v hv
      exact k _ (.str y) _ sA (.str y n2) n1 n3 (Nat.zero_le _)
    · simp only [List.mem_cons, List.not_mem_nil, or_false] at hv
      rcases hv with rfl | rfl | rfl | rfl | rfl
      · exact k _ _ _ sA (.int 7) rfl trivial (Nat.zero_le _)
      · exact k _ _ _ sA .non rfl trivial (Nat.zero_le _)
      · exact k _ _ _ sA (.bl true) rfl trivial (Nat.zero_le _)
      · exact k _ _ _ sA (.tup (SqT.of ((s3.trans (s4.trans s5)) _ _ upd_same)) (.cons (.str "a" (by decide +kernel)) .nil)) rfl trivial (by decide)
      · exact k _ _ _ sA (.lst (SqL.of ((s4.trans s5) _ _ upd_same)) (.cons (.str "a" (by decide +kernel)) .nil)) rfl trivial (by decide)
end
end Wy
namespace Wy
open PySem L2
def BadP (e : PyData) : Prop := pairB e = false ∧ ∀ kv, KvOk kv → PyData.eqv e (pairD kv) = false
theorem bad_list {ds : List PyData} {e : PyData} (he : e ∈ ds) (h : BadP e) : whyB (.list ds) = false ∧ ∀ W : Tab, (∀ kv ∈ W, KvOk kv) → PyData.eqvAll ds (whyD W) = false := by
  constructor
  · show (_ && _) = false
    have h1 : ds.all pairB = false := Bool.eq_false_iff.mpr fun z => by
      have h1 := h.1
      rw [List.all_eq_true.mp z e he] at h1
      cases h1
    rw [h1, Bool.false_and]
  · induction ds with
    | nil => cases he
    | cons d ds ih =>
      intro W hW
      cases W with
      | nil => rfl
      | cons kv W =>
        show (PyData.eqv d (pairD kv) && PyData.eqvAll ds (whyD W)) = false
        rcases List.mem_cons.mp he with rfl | he
        · rw [h.2 kv (hW kv (List.mem_cons_self ..)), Bool.false_and]
        · rw [ih he W fun k hk => hW k (List.mem_cons_of_mem _ hk), Bool.and_false]
theorem new_tup {K : PySem.W.Frag} {H : Hp} {a : Addr} {ds : List PyData} {xs : List V} (h : Dats K H ds xs) (n : H a = none) : Same H (upd H a (.tup xs)) ∧ Dat K (upd H a (.tup xs)) (.tuple ds) (.ref a) := ⟨same_upd n, .tup (SqT.of upd_same) (Dats.same (same_upd n) _ _ h)⟩
theorem new_lst {K : PySem.W.Frag} {H : Hp} {a : Addr} {ds : List PyData} {xs : List V} (h : Dats K H ds xs) (n : H a = none) : Same H (upd H a (.lst xs)) ∧ Dat K (upd H a (.lst xs)) (.list ds) (.ref a) := ⟨same_upd n, .lst (SqL.of upd_same) (Dats.same (same_upd n) _ _ h)⟩
end Wy
namespace Wy
open PySem L2
theorem eqv_int (a b : Int) : PyData.eqv (.int a) (.int b) = decide (a = b) := by
  show (a == b) = _
  by_cases h : a = b <;> simp [h]
theorem eqv_str_no {d : PyData} {z : Str} (h : txtD small d = false) (hz : txtB small z = true) : PyData.eqv d (.str z) = false := by
  cases d with
  | str y =>
    show (y == z) = false
    have ne : y ≠ z := fun e => by
      rw [← e, show txtB small y = false from h] at hz
      cases hz
    simpa using ne
  | _ => rfl
theorem eqv_mem_no {d : PyData} (h : txtD small d = false) : ∀ {es : List PyData}, d ∈ es → ∀ {p : List Str}, (∀ z ∈ p, txtB small z = true) → PyData.eqvAll es (p.map .str) = false
  | [], he, _, _ => nomatch he
  | _ :: _, _, [], _ => rfl
  | e :: es, he, z :: p, hp => by
    show (PyData.eqv e (.str z) && PyData.eqvAll es (p.map .str)) = false
    rcases List.mem_cons.mp he with rfl | he
    · rw [eqv_str_no h (hp z (List.mem_cons_self ..)), Bool.false_and]
    · rw [eqv_mem_no h he fun x hx => hp x (List.mem_cons_of_mem _ hx), Bool.and_false]
theorem badN (A : PyData) {m : Int} (h : m < 1) : BadP (.tuple [A, .int m]) := by
  constructor
  · show (prodB A && decide (1 ≤ m)) = false
    rw [decide_eq_false (by omega), Bool.and_false]
  · intro kv hk
    show (_ && (PyData.eqv (.int m) (.int kv.2) && true)) = false
    have h1 := hk.1
    rw [eqv_int, decide_eq_false (by omega), Bool.false_and, Bool.and_false]
theorem badA {A : PyData} (B : PyData) (h : prodB A = false) (h2 : ∀ kv, KvOk kv → PyData.eqv A (.tuple (kv.1.map .str)) = false) : BadP (.tuple [A, B]) := by
  constructor
  · show (prodB A && oneB B) = false
    rw [h, Bool.false_and]
  · intro kv hk
    show (PyData.eqv A (.tuple (kv.1.map .str)) && _) = false
    rw [h2 kv hk, Bool.false_and]
theorem bad3 (a b c : PyData) : BadP (.tuple [a, b, c]) := ⟨rfl, fun kv _ => by
  show (_ && (_ && false)) = false
  rw [Bool.and_false, Bool.and_false]⟩
theorem bad1 (a : PyData) : BadP (.tuple [a]) := ⟨rfl, fun kv _ => by
  show (_ && false) = false
  rw [Bool.and_false]⟩
theorem badR {p : List Str} (B : PyData) (h : Asc p) (hw : ∀ z ∈ p, Wt z) (hn : p.reverse ≠ p) : BadP (.tuple [.tuple (p.reverse.map .str), B]) := by
  have es : (p.reverse.map PyData.str).map strD = p.reverse := by
    rw [List.map_map]
    exact (List.map_congr_left fun _ _ => rfl).trans (List.map_id _)
  have so : Tim.srt strLt p.reverse = p := (Tim.srt_eq sto_str (List.reverse_perm p).symm h).symm
  refine badA B ?_ fun kv hk => ?_
  · show (_ && decide ((p.reverse.map PyData.str).map strD = Tim.srt strLt ((p.reverse.map PyData.str).map strD))) = false
    rw [es, so, decide_eq_false hn, Bool.and_false]
  · show PyData.eqvAll (p.reverse.map .str) (kv.1.map .str) = false
    rw [eqv_strsF, decide_eq_false fun e => hn ?_]
    have : Tim.srt strLt p.reverse = p.reverse := by
      rw [e]
      exact (Tim.srt_eq sto_str (.refl _) hk.2.1).symm
    rw [← this, so]
theorem badW {es : List PyData} {d : PyData} (B : PyData) (hd : d ∈ es) (h : txtD small d = false) : BadP (.tuple [.tuple es, B]) := by
  refine badA B ?_ fun kv hk => eqv_mem_no h hd fun z hz => (hk.2.2.2.1 z hz).2
  show (es.all (txtD small) && _) = false
  have h1 : es.all (txtD small) = false := Bool.eq_false_iff.mpr fun z => by
    rw [List.all_eq_true.mp z d hd] at h
    cases h
  rw [h1, Bool.false_and]
theorem cutV_take (xs : List V) (k : Nat) : cutV xs none (some (k : Int)) = xs.take k := by
  unfold cutV
  rw [HT.sIx_none, HT.sIx_nat, List.drop_zero, Nat.sub_zero]
  by_cases h : k ≤ xs.length
  · rw [Nat.min_eq_left h]
  · rw [Nat.min_eq_right (by omega), List.take_of_length_le (Nat.le_refl _), List.take_of_length_le (by omega)]
theorem cutV_drop (xs : List V) (k : Nat) : cutV xs (some (k : Int)) none = xs.drop k := by
  unfold cutV
  rw [HT.sIx_none, HT.sIx_nat]
  by_cases h : k ≤ xs.length
  · rw [Nat.min_eq_left h, List.take_of_length_le (by rw [List.length_drop]; omega)]
  · rw [Nat.min_eq_right (by omega), List.drop_of_length_le (Nat.le_refl _), List.drop_of_length_le (by omega), List.take_nil]
theorem dats_app {K : PySem.W.Frag} {H : Hp} : ∀ {ds es : List PyData} {xs ys : List V}, Dats K H ds xs → Dats K H es ys → Dats K H (ds ++ es) (xs ++ ys)
  | _, _, _, _, .nil, h => h
  | _, _, _, _, .cons a b, h => .cons a (dats_app b h)
theorem depth2 {A B : PyData} {n : Nat} (h1 : A.depth ≤ n) (h2 : B.depth ≤ n) : (PyData.tuple [A, B]).depth ≤ n + 1 := Nat.succ_le_succ (Nat.max_le.mpr ⟨h1, Nat.max_le.mpr ⟨h2, Nat.zero_le _⟩⟩)
theorem depth_app {n : Nat} : ∀ {ds es : List PyData}, PyData.depthAll ds ≤ n → PyData.depthAll es ≤ n → PyData.depthAll (ds ++ es) ≤ n
  | [], _, _, h => h
  | _ :: _, _, h1, h2 => Nat.max_le.mpr ⟨(Nat.max_le.mp h1).1, depth_app (Nat.max_le.mp h1).2 h2⟩
section
variable {P : Program} {w : World} {K : PySem.W.Frag} {mg : Str → Option Value} {base : Heap}
def SpP (way : Int) (kv : List Str × Int) (d : PyData) : Prop := (way ≠ 1 ∧ d = pairD kv) ∨ (way ≠ 1 ∧ BadP d) ∨ (way = 1 ∧ pairB d = false)
def sp_spo (K : PySem.W.Frag) : Sp := fun vs H Q _ => ∃ (q b : Addr) (kv : List Str × Int) (way c : Int) (z : Str), vs = [.ref q, .int way, .int c, .str z] ∧ H q = some (.tup [.ref b, .int kv.2]) ∧ H b = some (.tup (kv.1.map V.str)) ∧ KvOk kv ∧ Wt z ∧
  ∀ y d H', Same H H' → Dat K H' d y → SpP way kv d → okPr d → d.depth ≤ 3 → Q y H'
theorem ok__law_spoiled_pair (T : Txt K mg) : Def P w K mg base 2 "_law_spoiled_pair" ["_law_pair", "_law_way", "_law_cell", "_law_word_here"] (sp_spo K) := by
  refine T.t__law_spoiled_pair.ok sc__law_spoiled_pair (fun vs H Q E h => ?_) fun f cdv A outer s H vs Q E hr h => ?_
  · obtain ⟨q, b, kv, way, c, z, rfl, _⟩ := h
    rfl
  · obtain ⟨q, b, kv, way, c, z, rfl, hq, hb, ok, hz, k⟩ := h
    refine ⟨_, (pss_11
      (ps_asg (pv 0) (pg_tup rfl (pgs_cons (pg_name (i := 4) sc__law_spoiled_pair.nd rfl (Or.inl rfl)) (pgs_cons (pg_name (i := 5) sc__law_spoiled_pair.nd rfl (Or.inl rfl)) pgs_nil))))
      (ps_if (pt_cmpR op_eq (pv 1) pe_int (nomark _)) (pss_one (ps_ret (pe_tup (pa_2 (pv 4) pe_int)))) pss_nil)
      (ps_if (pt_cmpR op_eq (pv 1) pe_int (nomark _)) (pss_one (ps_ret (pe_tup (pa_2 (pv 4) pe_bl)))) pss_nil)
      (ps_if (pt_cmpR op_eq (pv 1) pe_int (nomark _)) (pss_one (ps_ret (pe_tup (pa_2 (pv 4) (pe_op op_sub pe_int (pv 5)))))) pss_nil)
      (ps_if (pt_cmpR op_eq (pv 1) pe_int (nomark _)) (pss_one (ps_ret (pe_lst (pa_2 (pv 4) (pv 5))))) pss_nil)
      (ps_if (pt_cmpR op_eq (pv 1) pe_int (nomark _)) (pss_one (ps_ret (pe_tup (pa_3 (pv 4) (pv 5) (pv 5))))) pss_nil)
      (ps_if (pt_cmpR op_eq (pv 1) pe_int (nomark _)) (pss_one (ps_ret (pe_tup (pa_1 (pv 4))))) pss_nil)
      (ps_if (pt_cmpR op_eq (pv 1) pe_int (nomark _)) (pss_one (ps_ret (pe_tup (pa_2 (pe_callTy (call_listK K) rfl T.b_list bt_list (pa_1 (pv 4))) (pv 5))))) pss_nil)
      (ps_if (pt_cmpR op_eq (pv 1) pe_int (nomark _)) (pss_one (ps_ret (pe_tup (pa_2 (pe_tupRev K rfl rfl T.b_tuple rfl T.b_reversed (pv 4)) (pv 5))))) pss_nil)
      (ps_set (i := 6) sc__law_spoiled_pair.nd rfl (Or.inl rfl) (pe_op op_mod (pv 2) (pe_op op_add (pe_callB (call_lenK K) rfl T.b_len bt_len (pa_1 (pv 4))) pe_int)))
      (ps_ret (pe_tup (pa_2 (pe_op (op_catA K) (pe_op (op_catA K) (pe_slice (sl_tupA K) (pv 4) po_none (po_some (pv 6))) (pe_tup (pa_1 (pe_def (ok__law_no_word T) hr rfl (pa_2 (pe_op op_fdiv (pv 2) pe_int) (pv 3)))))) (pe_slice (sl_tupA K) (pv 4) (po_some (pv 6)) po_none)) (pv 5))))), ?_⟩
    refine ⟨_, rfl, _, _, rfl, SqT.of hq, rfl, _, _, rfl, _, _, rfl, rfl, ?_⟩
    have z1 : 1 ≤ sizeLine := by decide
    have z2 : 2 ≤ sizeLine := by decide
    have z3 : 3 ≤ sizeLine := by decide
    obtain ⟨p, n⟩ := kv
    have hn1 : 1 ≤ n := ok.1
    have hpl : p.length ≤ 50 := ok.2.2.1
    have hso : ∀ x ∈ p, PyData.strOk x = true := fun x hx => wt_ok (ok.2.2.2.1 x hx)
    have hP : Dat K H (.tuple (p.map .str)) (.ref b) := dat_prod hb hso
    have dP : (PyData.tuple (p.map .str)).depth ≤ 2 := by rw [depth_prod]; decide
    have oP : okP (.tuple (p.map .str)) := ⟨by rw [List.length_map]; omega, fun e he => by
      obtain ⟨x, hx, rfl⟩ := List.mem_map.mp he
      have := wt_len (ok.2.2.2.1 x hx)
      show x.length ≤ 200
      omega⟩
    have ne : ∀ {a b : Int}, ¬ decide (V.int a = V.int b) = true → a ≠ b := fun h e => h (by rw [dI]; exact decide_eq_true e)
    have eq : ∀ {a b : Int}, decide (V.int a = V.int b) = true → a = b := fun h => of_decide_eq_true (by rw [dI] at h; exact h)
    refine ⟨_, rfl, rfl, _, rfl, ite2 (fun w0 => ?_) (fun w0 => ?_)⟩
    · have e0 := eq w0
      refine ⟨_, rfl, z2, fun l hl => ?_⟩
      obtain ⟨s1, d1⟩ := new_tup (K := K) (.cons hP (.cons (.int 0) .nil)) hl
      exact k _ _ _ s1 d1 (.inr (.inl ⟨by omega, badN _ (by decide)⟩)) oP (depth2 dP (Nat.zero_le _))
    refine ⟨_, rfl, rfl, _, rfl, ite2 (fun w1 => ?_) (fun w1 => ?_)⟩
    · refine ⟨_, rfl, z2, fun l hl => ?_⟩
      obtain ⟨s1, d1⟩ := new_tup (K := K) (.cons hP (.cons (.bl true) .nil)) hl
      exact k _ _ _ s1 d1 (.inr (.inr ⟨eq w1, Bool.and_false _⟩)) oP (depth2 dP (Nat.zero_le _))
    have n1 := ne w1
    refine ⟨_, rfl, rfl, _, rfl, ite2 (fun w2 => ?_) (fun w2 => ?_)⟩
    · refine ⟨_, rfl, _, rfl, _, _, rfl, rfl, z2, fun l hl => ?_⟩
      obtain ⟨s1, d1⟩ := new_tup (K := K) (.cons hP (.cons (.int (0 - n)) .nil)) hl
      exact k _ _ _ s1 d1 (.inr (.inl ⟨n1, badN _ (by omega)⟩)) oP (depth2 dP (Nat.zero_le _))
    refine ⟨_, rfl, rfl, _, rfl, ite2 (fun w3 => ?_) (fun w3 => ?_)⟩
    · refine ⟨_, rfl, _, rfl, z2, fun l hl => ?_⟩
      obtain ⟨s1, d1⟩ := new_lst (K := K) (.cons hP (.cons (.int n) .nil)) hl
      exact k _ _ _ s1 d1 (.inr (.inl ⟨n1, rfl, fun _ _ => rfl⟩)) trivial (depth2 (B := .int n) dP (Nat.zero_le _))
    refine ⟨_, rfl, rfl, _, rfl, ite2 (fun w4 => ?_) (fun w4 => ?_)⟩
    · refine ⟨_, rfl, _, rfl, _, rfl, z3, fun l hl => ?_⟩
      obtain ⟨s1, d1⟩ := new_tup (K := K) (.cons hP (.cons (.int n) (.cons (.int n) .nil))) hl
      exact k _ _ _ s1 d1 (.inr (.inl ⟨n1, bad3 _ _ _⟩)) trivial (Nat.succ_le_succ (Nat.max_le.mpr ⟨dP, Nat.zero_le _⟩))
    refine ⟨_, rfl, rfl, _, rfl, ite2 (fun w5 => ?_) (fun w5 => ?_)⟩
    · refine ⟨_, rfl, z1, fun l hl => ?_⟩
      obtain ⟨s1, d1⟩ := new_tup (K := K) (.cons hP .nil) hl
      exact k _ _ _ s1 d1 (.inr (.inl ⟨n1, bad1 _⟩)) trivial (Nat.succ_le_succ (Nat.max_le.mpr ⟨dP, Nat.zero_le _⟩))
    refine ⟨_, rfl, rfl, _, rfl, ite2 (fun w6 => ?_) (fun w6 => ?_)⟩
    · refine ⟨_, rfl, b, _, rfl, .inr (SqT.of hb), fun l hl => ⟨_, rfl, z2, fun l2 hl2 => ?_⟩⟩
      obtain ⟨s1, d1⟩ := new_lst (K := K) (dats_r hso) hl
      obtain ⟨s2, d2⟩ := new_tup (K := K) (.cons d1 (.cons (.int n) .nil)) hl2
      exact k _ _ _ (s1.trans s2) d2 (.inr (.inl ⟨n1, badA _ rfl fun _ _ => rfl⟩)) trivial (depth2 (A := .list _) dP (Nat.zero_le _))
    refine ⟨_, rfl, rfl, _, rfl, ite2 (fun w7 => ?_) (fun w7 => ?_)⟩
    · refine ⟨_, rfl, b, _, rfl, SqT.of hb, fun l hl => ⟨_, rfl, z2, fun l2 hl2 => ?_⟩⟩
      have er : (p.map V.str).reverse = p.reverse.map V.str := List.map_reverse.symm
      obtain ⟨s1, d1⟩ := new_tup (K := K) (ds := p.reverse.map .str) (xs := (p.map V.str).reverse) (by rw [er]; exact dats_r fun x hx => hso x (List.mem_reverse.mp hx)) hl
      obtain ⟨s2, d2⟩ := new_tup (K := K) (.cons d1 (.cons (.int n) .nil)) hl2
      refine k _ _ _ (s1.trans s2) d2 ?_ ?_ (depth2 (by rw [depth_prod]; decide) (Nat.zero_le _))
      · by_cases h : p.reverse = p
        · exact .inl ⟨n1, by rw [h]; rfl⟩
        · exact .inr (.inl ⟨n1, badR _ ok.2.1 ok.2.2.2.1 h⟩)
      · refine ⟨by rw [List.length_map, List.length_reverse]; omega, fun e he => ?_⟩
        obtain ⟨x, hx, rfl⟩ := List.mem_map.mp he
        have := wt_len (ok.2.2.2.1 x (List.mem_reverse.mp hx))
        show x.length ≤ 200
        omega
    refine ⟨_, rfl, _, rfl, _, _, rfl, .inr ⟨_, SqT.of hb, rfl⟩, _, _, rfl, rfl, _, _, rfl, rfl, (by show (0 : Int) < ((p.map V.str).length : Int) + 1; omega), ?_⟩
    obtain ⟨a, ea⟩ := Int.eq_ofNat_of_zero_le (show 0 ≤ c % (((p.map V.str).length : Int) + 1) from Int.emod_nonneg _ (by omega))
    refine ⟨_, rfl, _, rfl, _, rfl, _, _, rfl, SqT.of hb, fun l1 H1 s1 h1 => ?_⟩
    have h1' : SqT K H1 l1 ((p.take a).map V.str) := by
      rw [List.map_take, ← cutV_take, ← ea]
      exact h1
    refine ⟨_, rfl, _, _, rfl, rfl, ⟨by decide, by decide⟩, _, rfl, _, z, rfl, hz, fun y d H2 s2 hd nw sh dd => ⟨z1, fun l2 hl2 => ?_⟩⟩
    have s3 := same_upd (o := HO.tup [y]) hl2
    have fits : ∀ m : Nat, m ≤ 1000 → m ≤ sizeLine := fun m h => Nat.le_trans h (by decide)
    refine ⟨_, _, _, _, rfl, rfl, (s2.trans s3).seqT h1', SqT.of upd_same, fits _ (by rw [List.length_map, List.length_take, List.length_singleton]; omega), fun l3 H3 s4 h3 => ?_⟩
    have sB := s1.trans (s2.trans (s3.trans s4))
    refine ⟨_, rfl, _, rfl, _, rfl, _, _, rfl, SqT.of (sB _ _ hb), fun l4 H4 s5 h4 => ?_⟩
    have h4' : SqT K H4 l4 ((p.drop a).map V.str) := by
      rw [List.map_drop, ← cutV_drop, ← ea]
      exact h4
    refine ⟨_, _, _, _, rfl, rfl, s5.seqT h3, h4', fits _ (by rw [List.length_append, List.length_map, List.length_map, List.length_take, List.length_drop, List.length_singleton]; omega), fun l5 H5 s6 h5 => ⟨_, rfl, z2, fun l6 hl6 => ?_⟩⟩
    have dE : Dat K H5 (.tuple ((p.take a).map .str ++ [d] ++ (p.drop a).map .str)) (.ref l5) := .tup h5 (dats_app (dats_app (dats_r fun x hx => hso x (List.mem_of_mem_take hx)) (.cons (Dat.same (s3.trans (s4.trans (s5.trans s6))) _ _ hd) .nil)) (dats_r fun x hx => hso x (List.mem_of_mem_drop hx)))
    obtain ⟨s7, d7⟩ := new_tup (K := K) (.cons dE (.cons (.int n) .nil)) hl6
    refine k _ _ _ (sB.trans (s5.trans (s6.trans s7))) d7 (.inr (.inl ⟨n1, badW _ (List.mem_append_left _ (List.mem_append_right _ (List.mem_singleton.mpr rfl))) nw⟩)) ⟨?_, fun e he => ?_⟩ (depth2 (Nat.succ_le_succ (depth_app (depth_app ?_ ?_) ?_)) (Nat.zero_le _))
    · rw [List.length_append, List.length_append, List.length_map, List.length_map, List.length_take, List.length_drop, List.length_singleton]
      omega
    · have wd : ∀ x ∈ p, shD (.str x) := fun x hx => by
        have := wt_len (ok.2.2.2.1 x hx)
        show x.length ≤ 200
        omega
      rcases List.mem_append.mp he with he | he
      · rcases List.mem_append.mp he with he | he
        · obtain ⟨x, hx, rfl⟩ := List.mem_map.mp he
          exact wd x (List.mem_of_mem_take hx)
        · rw [List.mem_singleton.mp he]
          exact sh
      · obtain ⟨x, hx, rfl⟩ := List.mem_map.mp he
        exact wd x (List.mem_of_mem_drop hx)
    · rw [depth_r]
      exact Nat.zero_le _
    · exact Nat.max_le.mpr ⟨dd, Nat.zero_le _⟩
    · rw [depth_r]
      exact Nat.zero_le _
end
end Wy
namespace Wy
open PySem L2
section
variable {P : Program} {w : World} {K : PySem.W.Frag} {mg : Str → Option Value} {base : Heap}
def OthD (d : PyData) : Prop := (tyIs (tyD d) "list" = false ∧ ∀ ds, d ≠ .list ds) ∨ ∃ ds e, d = .list ds ∧ e ∈ ds ∧ BadP e
def sp_oth (K : PySem.W.Frag) : Sp := fun vs H Q _ => ∃ (c : Int), vs = [.int c] ∧ ∀ y d H', Same H H' → Dat K H' d y → OthD d → okY d → d.depth ≤ 5 → Q y H'
theorem ok__law_other_thing (T : Txt K mg) : Def P w K mg base 1 "_law_other_thing" ["_law_cell"] (sp_oth K) := by
  refine T.t__law_other_thing.ok sc__law_other_thing (fun vs H Q E h => ?_) fun f cdv A outer s H vs Q E hr h => ?_
  · obtain ⟨c, rfl, _⟩ := h
    rfl
  · obtain ⟨c, rfl, k⟩ := h
    refine ⟨_, (pss_3
      (ps_set (i := 1) sc__law_other_thing.nd rfl (Or.inl rfl) (pe_lst (pa_10 pe_non pe_bl (pe_op op_mod (pv 0) (pe_op op_pow pe_int pe_int)) pe_str pe_str (pe_tup pa_nil) (pe_lst (pa_1 pe_non)) (pe_lst (pa_1 (pe_tup pa_nil))) (pe_lst (pa_1 (pe_lst pa_nil))) (pe_lst (pa_1 (pe_tup (pa_1 (pe_tup pa_nil))))))))
      (ps_set (i := 1) sc__law_other_thing.nd rfl (Or.inl rfl) (pe_op op_cat (pv 1) (pe_lst (pa_3 (pe_lst (pa_1 (pe_tup (pa_2 pe_str pe_int)))) (pe_lst (pa_2 (pe_tup (pa_2 (pe_tup pa_nil) pe_int)) pe_int)) (pe_lst (pa_2 pe_int (pe_tup (pa_2 (pe_tup pa_nil) pe_int))))))))
      (ps_ret (pe_ix (ix_listK K) (pv 1) (pe_op op_mod (pv 0) pe_int) (fun _ _ => rfl)))), ?_⟩
    have z0 : 0 ≤ sizeLine := by decide
    have z1 : 1 ≤ sizeLine := by decide
    have z2 : 2 ≤ sizeLine := by decide
    have z3 : 3 ≤ sizeLine := by decide
    have z10 : 10 ≤ sizeLine := by decide
    have z13 : 13 ≤ sizeLine := by decide
    refine ⟨_, rfl, _, _, rfl, rfl, ⟨by decide, by decide, by decide⟩, _, _, rfl, rfl, (by show (0 : Int) < 10 ^ 60; decide), z0, fun a1 h1 => ?_⟩
    obtain ⟨s1, d1⟩ := new_tup (K := K) (ds := []) (xs := []) .nil h1
    generalize upd H a1 (.tup []) = G1 at *
    refine ⟨z1, fun a2 h2 => ?_⟩
    obtain ⟨s2, d2⟩ := new_lst (K := K) (ds := [.none]) (xs := [.non]) (.cons .non .nil) h2
    generalize upd G1 a2 (.lst [.non]) = G2 at *
    refine ⟨z0, fun a3 h3 => ?_⟩
    obtain ⟨s3, d3⟩ := new_tup (K := K) (ds := []) (xs := []) .nil h3
    generalize upd G2 a3 (.tup []) = G3 at *
    refine ⟨z1, fun a4 h4 => ?_⟩
    obtain ⟨s4, d4⟩ := new_lst (K := K) (.cons d3 .nil) h4
    generalize upd G3 a4 (.lst [.ref a3]) = G4 at *
    refine ⟨z0, fun a5 h5 => ?_⟩
    obtain ⟨s5, d5⟩ := new_lst (K := K) (ds := []) (xs := []) .nil h5
    generalize upd G4 a5 (.lst []) = G5 at *
    refine ⟨z1, fun a6 h6 => ?_⟩
    obtain ⟨s6, d6⟩ := new_lst (K := K) (.cons d5 .nil) h6
    generalize upd G5 a6 (.lst [.ref a5]) = G6 at *
    refine ⟨z0, fun a7 h7 => ?_⟩
    obtain ⟨s7, d7⟩ := new_tup (K := K) (ds := []) (xs := []) .nil h7
    generalize upd G6 a7 (.tup []) = G7 at *
    refine ⟨z1, fun a8 h8 => ?_⟩
    obtain ⟨s8, d8⟩ := new_tup (K := K) (.cons d7 .nil) h8
    generalize upd G7 a8 (.tup [.ref a7]) = G8 at *
    refine ⟨z1, fun a9 h9 => ?_⟩
    obtain ⟨s9, d9⟩ := new_lst (K := K) (.cons d8 .nil) h9
    generalize upd G8 a9 (.lst [.ref a8]) = G9 at *
    refine ⟨z10, fun b hb => ?_⟩
    have s10 := same_upd (o := HO.lst [V.non, V.bl true, V.int (c % 10 ^ Int.toNat 60), V.str "", V.str "a", V.ref a1, V.ref a2, V.ref a4, V.ref a6, V.ref a9]) hb
    have e10 := upd_same (H := G9) (a := b) (o := HO.lst [V.non, V.bl true, V.int (c % 10 ^ Int.toNat 60), V.str "", V.str "a", V.ref a1, V.ref a2, V.ref a4, V.ref a6, V.ref a9])
    generalize upd G9 b (HO.lst [V.non, V.bl true, V.int (c % 10 ^ Int.toNat 60), V.str "", V.str "a", V.ref a1, V.ref a2, V.ref a4, V.ref a6, V.ref a9]) = G10 at *
    refine ⟨_, rfl, z2, fun c1 g1 => ?_⟩
    obtain ⟨t1, f1⟩ := new_tup (K := K) (ds := [.str "a", .int 1]) (xs := [.str "a", .int 1]) (.cons (.str "a" (by decide +kernel)) (.cons (.int 1) .nil)) g1
    generalize upd G10 c1 (.tup [.str "a", .int 1]) = F1 at *
    refine ⟨z1, fun c2 g2 => ?_⟩
    obtain ⟨t2, f2⟩ := new_lst (K := K) (.cons f1 .nil) g2
    generalize upd F1 c2 (.lst [.ref c1]) = F2 at *
    refine ⟨z0, fun c3 g3 => ?_⟩
    obtain ⟨t3, f3⟩ := new_tup (K := K) (ds := []) (xs := []) .nil g3
    generalize upd F2 c3 (.tup []) = F3 at *
    refine ⟨z2, fun c4 g4 => ?_⟩
    obtain ⟨t4, f4⟩ := new_tup (K := K) (.cons f3 (.cons (.int 1) .nil)) g4
    generalize upd F3 c4 (.tup [.ref c3, .int 1]) = F4 at *
    refine ⟨z2, fun c5 g5 => ?_⟩
    obtain ⟨t5, f5⟩ := new_lst (K := K) (.cons f4 (.cons (.int 1) .nil)) g5
    generalize upd F4 c5 (.lst [.ref c4, .int 1]) = F5 at *
    refine ⟨z0, fun c6 g6 => ?_⟩
    obtain ⟨t6, f6⟩ := new_tup (K := K) (ds := []) (xs := []) .nil g6
    generalize upd F5 c6 (.tup []) = F6 at *
    refine ⟨z2, fun c7 g7 => ?_⟩
    obtain ⟨t7, f7⟩ := new_tup (K := K) (.cons f6 (.cons (.int 1) .nil)) g7
    generalize upd F6 c7 (.tup [.ref c6, .int 1]) = F7 at *
    refine ⟨z2, fun c8 g8 => ?_⟩
    obtain ⟨t8, f8⟩ := new_lst (K := K) (.cons (.int 1) (.cons f7 .nil)) g8
    generalize upd F7 c8 (.lst [.int 1, .ref c7]) = F8 at *
    refine ⟨z3, fun c9 g9 => ?_⟩
    have t9 := same_upd (o := HO.lst [V.ref c2, V.ref c5, V.ref c8]) g9
    have e9 := upd_same (H := F8) (a := c9) (o := HO.lst [V.ref c2, V.ref c5, V.ref c8])
    generalize upd F8 c9 (HO.lst [V.ref c2, V.ref c5, V.ref c8]) = F9 at *
    have u8 := t8.trans t9
    have u5 := t6.trans (t7.trans u8)
    have u2 := t3.trans (t4.trans (t5.trans u5))
    have u0 := t1.trans (t2.trans u2)
    refine ⟨_, _, _, _, rfl, rfl, u0 _ _ e10, e9, z13, fun r hr' => ?_⟩
    have sR := same_upd (o := HO.lst ([V.non, V.bl true, V.int (c % 10 ^ Int.toNat 60), V.str "", V.str "a", V.ref a1, V.ref a2, V.ref a4, V.ref a6, V.ref a9] ++ [V.ref c2, V.ref c5, V.ref c8])) hr'
    have eR := upd_same (H := F9) (a := r) (o := HO.lst ([V.non, V.bl true, V.int (c % 10 ^ Int.toNat 60), V.str "", V.str "a", V.ref a1, V.ref a2, V.ref a4, V.ref a6, V.ref a9] ++ [V.ref c2, V.ref c5, V.ref c8]))
    generalize upd F9 r (HO.lst ([V.non, V.bl true, V.int (c % 10 ^ Int.toNat 60), V.str "", V.str "a", V.ref a1, V.ref a2, V.ref a4, V.ref a6, V.ref a9] ++ [V.ref c2, V.ref c5, V.ref c8])) = R at *
    have v9 := s10.trans (u0.trans sR)
    have v6 := s7.trans (s8.trans (s9.trans v9))
    have v4 := s5.trans (s6.trans v6)
    have v2 := s3.trans (s4.trans v4)
    have v1 := s2.trans v2
    have sA := s1.trans v1
    obtain ⟨v, hat, hv⟩ := atI_in (xs := [V.non, V.bl true, V.int (c % 10 ^ Int.toNat 60), V.str "", V.str "a", V.ref a1, V.ref a2, V.ref a4, V.ref a6, V.ref a9] ++ [V.ref c2, V.ref c5, V.ref c8]) (i := c % 13) (Int.emod_nonneg _ (by decide)) (Int.emod_lt_of_pos _ (by show (0 : Int) < 13; decide))
    refine ⟨_, rfl, _, rfl, _, _, rfl, rfl, (by show (0 : Int) < 13; decide), _, _, _, v, rfl, rfl, SqL.of eR, hat, ?_⟩
    have no : ∀ d : PyData, tyIs (tyD d) "list" = false → (∀ ds, d ≠ .list ds) → OthD d := fun d a b => .inl ⟨a, b⟩
    simp only [List.cons_append, List.nil_append, List.mem_cons, List.not_mem_nil, or_false] at hv
    rcases hv with rfl | rfl | rfl | rfl | rfl | rfl | rfl | rfl | rfl | rfl | rfl | rfl | rfl
    · exact k _ _ _ sA .non (no _ rfl fun _ z => nomatch z) trivial (Nat.zero_le _)
    · exact k _ _ _ sA (.bl true) (no _ rfl fun _ z => nomatch z) trivial (Nat.zero_le _)
    · exact k _ _ _ sA (.int _) (no _ rfl fun _ z => nomatch z) trivial (Nat.zero_le _)
    · exact k _ _ _ sA (.str "" (by decide +kernel)) (no _ rfl fun _ z => nomatch z) trivial (Nat.zero_le _)
    · exact k _ _ _ sA (.str "a" (by decide +kernel)) (no _ rfl fun _ z => nomatch z) trivial (Nat.zero_le _)
    · exact k _ _ _ sA (Dat.same v1 _ _ d1) (no _ rfl fun _ z => nomatch z) trivial (by decide)
    · exact k _ _ _ sA (Dat.same v2 _ _ d2) (.inr ⟨_, .none, rfl, by simp, rfl, fun _ _ => rfl⟩) ⟨by decide, fun d hd => by rw [List.mem_singleton.mp hd]; trivial⟩ (by decide)
    · exact k _ _ _ sA (Dat.same v4 _ _ d4) (.inr ⟨_, .tuple [], rfl, by simp, rfl, fun _ _ => rfl⟩) ⟨by decide, fun d hd => by rw [List.mem_singleton.mp hd]; trivial⟩ (by decide)
    · exact k _ _ _ sA (Dat.same v6 _ _ d6) (.inr ⟨_, .list [], rfl, by simp, rfl, fun _ _ => rfl⟩) ⟨by decide, fun d hd => by rw [List.mem_singleton.mp hd]; trivial⟩ (by decide)
    · exact k _ _ _ sA (Dat.same v9 _ _ d9) (.inr ⟨_, .tuple [.tuple []], rfl, by simp, rfl, fun _ _ => Bool.and_false _⟩) ⟨by decide, fun d hd => by rw [List.mem_singleton.mp hd]; trivial⟩ (by decide)
    · exact k _ _ _ sA (Dat.same (u2.trans sR) _ _ f2) (.inr ⟨_, .tuple [.str "a", .int 1], rfl, by simp, rfl, fun _ _ => rfl⟩) ⟨by decide, fun d hd => by rw [List.mem_singleton.mp hd]; trivial⟩ (by decide)
    · refine k _ _ _ sA (Dat.same (u5.trans sR) _ _ f5) (.inr ⟨_, .int 1, rfl, by simp, rfl, fun _ _ => rfl⟩) ⟨by decide, fun d hd => ?_⟩ (by decide)
      simp only [List.mem_cons, List.not_mem_nil, or_false] at hd
      rcases hd with rfl | rfl
      · exact ⟨by decide, fun _ z => nomatch z⟩
      · trivial
    · refine k _ _ _ sA (Dat.same (t9.trans sR) _ _ f8) (.inr ⟨_, .int 1, rfl, by simp, rfl, fun _ _ => rfl⟩) ⟨by decide, fun d hd => ?_⟩ (by decide)
      simp only [List.mem_cons, List.not_mem_nil, or_false] at hd
      rcases hd with rfl | rfl
      · trivial
      · exact ⟨by decide, fun _ z => nomatch z⟩
end
end Wy
namespace Wy
open PySem L2
theorem dats_take {K : PySem.W.Frag} {H : Hp} : ∀ (n : Nat) {ds : List PyData} {xs : List V}, Dats K H ds xs → Dats K H (ds.take n) (xs.take n)
  | 0, _, _, _ => .nil
  | _ + 1, _, _, .nil => .nil
  | n + 1, _, _, .cons a r => .cons a (dats_take n r)
theorem dats_drop {K : PySem.W.Frag} {H : Hp} : ∀ (n : Nat) {ds : List PyData} {xs : List V}, Dats K H ds xs → Dats K H (ds.drop n) (xs.drop n)
  | 0, _, _, h => h
  | _ + 1, _, _, .nil => .nil
  | n + 1, _, _, .cons _ r => dats_drop n r
theorem dats_rev {K : PySem.W.Frag} {H : Hp} : ∀ {ds : List PyData} {xs : List V}, Dats K H ds xs → Dats K H ds.reverse xs.reverse
  | _, _, .nil => .nil
  | _, _, .cons a r => by
    rw [List.reverse_cons, List.reverse_cons]
    exact dats_app (dats_rev r) (.cons a .nil)
theorem cutV_mid (xs : List V) (a k : Nat) : cutV xs (some (a : Int)) (some ((a + k : Nat) : Int)) = (xs.drop a).take k := by
  unfold cutV
  rw [HT.sIx_nat, HT.sIx_nat]
  by_cases h : a ≤ xs.length
  · rw [Nat.min_eq_left h]
    by_cases h2 : a + k ≤ xs.length
    · rw [Nat.min_eq_left h2, Nat.add_sub_cancel_left]
    · rw [Nat.min_eq_right (by omega), List.take_of_length_le (by rw [List.length_drop]; omega), List.take_of_length_le (by rw [List.length_drop]; omega)]
  · have e1 : min a xs.length = xs.length := Nat.min_eq_right (by omega)
    have e2 : min (a + k) xs.length = xs.length := Nat.min_eq_right (by omega)
    have e3 : xs.drop a = [] := List.drop_of_length_le (by omega)
    rw [e1, e2, e3, List.drop_of_length_le (Nat.le_refl _), List.take_nil, List.take_nil]
theorem eqv_pair (a b : List Str × Int) : PyData.eqv (pairD a) (pairD b) = decide (a = b) := by
  show (PyData.eqvAll (a.1.map .str) (b.1.map .str) && (PyData.eqv (.int a.2) (.int b.2) && true)) = _
  rw [eqv_strsF, eqv_int, Bool.and_true]
  obtain ⟨p, m⟩ := a
  obtain ⟨q, n⟩ := b
  by_cases h1 : p = q <;> by_cases h2 : m = n <;> simp [h1, h2]
theorem eqv_why : ∀ V W : Tab, PyData.eqvAll (whyD V) (whyD W) = decide (V = W)
  | [], [] => rfl
  | [], _ :: _ => rfl
  | _ :: _, [] => rfl
  | a :: V, b :: W => by
    show (PyData.eqv (pairD a) (pairD b) && PyData.eqvAll (whyD V) (whyD W)) = _
    rw [eqv_pair, eqv_why V W]
    by_cases h1 : a = b <;> by_cases h2 : V = W <;> simp [h1, h2]
theorem rise_of {W : Tab} (h : whyB (.list (whyD W)) = true) : Rise W := by
  have ep : (whyD W).map prodOf = W.map (·.1) := by
    unfold whyD
    rw [List.map_map]
    refine List.map_congr_left fun kv _ => ?_
    show (kv.1.map PyData.str).map strD = kv.1
    rw [List.map_map]
    exact (List.map_congr_left fun _ _ => rfl).trans (List.map_id _)
  have h2 : ((whyD W).all pairB && decide ((whyD W).map prodOf = uniqP ((whyD W).map prodOf))) = true := h
  rw [ep, Bool.and_eq_true] at h2
  have h3 := of_decide_eq_true h2.2
  unfold Rise
  rw [h3]
  unfold uniqP
  exact pw_strict sto_prod (Tim.srt_asc sto_prod _) ((Tim.srt_perm prodLt _).nodup_iff.mpr (nodup_dupsP _ _ (Nat.le_refl _)))
theorem why_eq {V W : Tab} (hV : ∀ kv ∈ V, KvOk kv) (hr : Rise W) (h : V = W ∨ ¬ Rise V) : whyB (.list (whyD V)) = PyData.eqv (.list (whyD V)) (.list (whyD W)) := by
  show _ = PyData.eqvAll (whyD V) (whyD W)
  rw [eqv_why]
  rcases h with rfl | h
  · rw [decide_eq_true rfl, why_good hr hV]
  · rw [decide_eq_false (show ¬ V = W from fun e => h (by rw [e]; exact hr))]
    exact Bool.eq_false_iff.mpr fun z => h (rise_of z)
def Res (way : Int) (W : Tab) (d : PyData) : Prop := okY d ∧ d.depth ≤ 6 ∧ ((tyIs (tyD d) "list" = false ∧ ∀ ds, d ≠ .list ds) ∨ ∃ ds, d = .list ds ∧ ((way = 1 ∧ whyB d = false) ∨ (way ≠ 1 ∧ whyB d = PyData.eqv d (.list (whyD W)))))
theorem res_bad {way : Int} {W : Tab} {ds : List PyData} {e : PyData} (hW : ∀ kv ∈ W, KvOk kv) (he : e ∈ ds) (hb : BadP e) (ok : okY (.list ds)) (dp : (PyData.list ds).depth ≤ 6) : Res way W (.list ds) := by
  obtain ⟨b1, b2⟩ := bad_list he hb
  refine ⟨ok, dp, .inr ⟨ds, rfl, ?_⟩⟩
  by_cases h1 : way = 1
  · exact .inl ⟨h1, b1⟩
  · exact .inr ⟨h1, by rw [b1]; exact (b2 W hW).symm⟩
theorem res_tab {way : Int} {V W : Tab} (hw : way ≠ 1) (hV : ∀ kv ∈ V, KvOk kv) (vl : V.length ≤ 70) (hr : Rise W) (h : V = W ∨ ¬ Rise V) : Res way W (.list (whyD V)) :=
  ⟨why_ok hV vl, Nat.le_trans (Nat.succ_le_succ (depth_whys V)) (by decide), .inr ⟨_, rfl, .inr ⟨hw, why_eq hV hr h⟩⟩⟩
theorem twice_no {A r : Tab} {kv : List Str × Int} : ¬ Rise (A ++ [kv] ++ kv :: r) := fun h => by
  unfold Rise at h
  rw [List.map_append, List.pairwise_append] at h
  have := h.2.2 kv.1 (by rw [List.map_append]; exact List.mem_append_right _ (List.mem_singleton.mpr rfl)) kv.1 (List.mem_cons_self ..)
  rw [sto_prod.irr] at this
  cases this
theorem turned_no {A r : Tab} {a b : List Str × Int} (hr : Rise (A ++ a :: b :: r)) : ¬ Rise (A ++ [b, a] ++ r) := fun h => by
  have h1 : prodLt a.1 b.1 = true := by
    unfold Rise at hr
    rw [List.map_append, List.pairwise_append] at hr
    exact (List.pairwise_cons.mp hr.2.1).1 b.1 (List.mem_cons_self ..)
  have h2 : prodLt b.1 a.1 = true := by
    unfold Rise at h
    rw [List.append_assoc, List.map_append, List.pairwise_append] at h
    exact (List.pairwise_cons.mp h.2.1).1 a.1 (List.mem_cons_self ..)
  have := sto_prod.tr _ _ _ h1 h2
  rw [sto_prod.irr] at this
  cases this
end Wy
namespace Wy
open PySem L2
section
variable {P : Program} {w : World} {K : PySem.W.Frag} {mg : Str → Option Value} {base : Heap}
def sp_spl (K : PySem.W.Frag) : Sp := fun vs H Q _ => ∃ (y : Addr) (xs : List V) (W : Tab) (way c : Int) (z : Str), vs = [.ref y, .int way, .int c, .str z] ∧ WhV H y xs W ∧ W.length ≤ 64 ∧ Rise W ∧ (∀ kv ∈ W, KvOk kv) ∧ Wt z ∧
  ∀ v d H', Same H H' → Dat K H' d v → Res way W d → Q v H'
theorem ok__law_spoiled (T : Txt K mg) : Def P w K mg base 3 "_law_spoiled" ["_law_why_here", "_law_way", "_law_cell", "_law_word_here"] (sp_spl K) := by
  refine T.t__law_spoiled.ok sc__law_spoiled (fun vs H Q E h => ?_) fun f cdv A outer s H vs Q E hr h => ?_
  · obtain ⟨y, xs, W, way, c, z, rfl, _⟩ := h
    rfl
  · obtain ⟨y, xs, W, way, c, z, rfl, Y, wl, rise, ok, hz, k⟩ := h
    refine ⟨_, (pss_7
      (ps_if (pt_cmpR op_eq (pv 1) pe_int (nomark _)) (pss_one (ps_ret (pe_callTy (call_tupleK K) rfl T.b_tuple bt_tuple (pa_1 (pv 0))))) pss_nil)
      (ps_if (PW.pt (pw_or (pt_cmpR op_eq (pv 1) pe_int (nomark _)) (pw_or1 (pt_cmpR (op_eqD hr.units K) (pv 0) (pe_lst pa_nil) (nomark _))))) (pss_one (ps_ret (pe_def (ok__law_other_thing T) hr rfl (pa_1 (pv 2))))) pss_nil)
      (ps_set (i := 4) sc__law_spoiled.nd rfl (Or.inl rfl) (pe_op op_mod (pe_op op_fdiv (pv 2) pe_int) (pe_callB (call_lenK K) rfl T.b_len bt_len (pa_1 (pv 0)))))
      (ps_if (pt_cmpR op_eq (pv 1) pe_int (nomark _)) (pss_one (ps_ret (pe_op op_cat (pe_op op_cat (pe_slice (sl_listK K) (pv 0) po_none (po_some (pv 4))) (pe_slice (sl_listK K) (pv 0) (po_some (pv 4)) (po_some (pe_op op_add (pv 4) pe_int)))) (pe_slice (sl_listK K) (pv 0) (po_some (pv 4)) po_none)))) pss_nil)
      (ps_if (pt_cmpR op_eq (pv 1) pe_int (nomark _)) (pss_2
      (ps_set (i := 5) sc__law_spoiled.nd rfl (Or.inl rfl) (pe_listRev K rfl rfl T.b_list rfl T.b_reversed (pe_slice (sl_listK K) (pv 0) (po_some (pv 4)) (po_some (pe_op op_add (pv 4) pe_int)))))
      (ps_ret (pe_op op_cat (pe_op op_cat (pe_slice (sl_listK K) (pv 0) po_none (po_some (pv 4))) (pv 5)) (pe_slice (sl_listK K) (pv 0) (po_some (pe_op op_add (pv 4) pe_int)) po_none)))) pss_nil)
      (ps_set (i := 6) sc__law_spoiled.nd rfl (Or.inl rfl) (pe_def (ok__law_spoiled_pair T) hr rfl (pa_4 (pe_ix (ix_listK K) (pv 0) (pv 4) (fun _ _ => rfl)) (pv 1) (pe_op op_fdiv (pv 2) pe_int) (pv 3))))
      (ps_ret (pe_op op_cat (pe_op op_cat (pe_slice (sl_listK K) (pv 0) po_none (po_some (pv 4))) (pe_lst (pa_1 (pv 6)))) (pe_slice (sl_listK K) (pv 0) (po_some (pe_op op_add (pv 4) pe_int)) po_none)))), ?_⟩
    have z0 : 0 ≤ sizeLine := by decide
    have z1 : 1 ≤ sizeLine := by decide
    have fits : ∀ m : Nat, m ≤ 1000 → m ≤ sizeLine := fun m h => Nat.le_trans h (by decide)
    have hD : Dats K H (whyD W) xs := pls_dats Y.pl fun kv hkv x hx => wt_ok ((ok kv hkv).2.2.2.1 x hx)
    have lx : xs.length = W.length := Paired.length Y.pl
    have eq : ∀ {a b : Int}, decide (V.int a = V.int b) = true → a = b := fun h => of_decide_eq_true (by rw [dI] at h; exact h)
    have oth : ∀ d, OthD d → okY d → d.depth ≤ 5 → Res way W d := fun d ho oy dp => by
      rcases ho with h | ⟨ds, e, rfl, he, hb⟩
      · exact ⟨oy, by omega, .inl h⟩
      · exact res_bad ok he hb oy (by omega)
    refine ⟨_, rfl, rfl, _, rfl, ite2 (fun w9 => ?_) (fun w9 => ?_)⟩
    · refine ⟨_, rfl, y, xs, rfl, .inl ⟨SqL.of Y.lst, fun l hl => ?_⟩⟩
      obtain ⟨s1, d1⟩ := new_tup (K := K) hD hl
      exact k _ _ _ s1 d1 ⟨trivial, Nat.le_trans (Nat.succ_le_succ (depth_whys W)) (by decide), .inl ⟨rfl, fun _ z => nomatch z⟩⟩
    refine ⟨_, rfl, rfl, _, rfl, ite2 (fun w10 => iteT ?_) (fun w10 => ?_)⟩
    · exact ⟨_, rfl, c, rfl, fun v d H2 s2 hd ho oy dp => k _ _ _ s2 hd (oth d ho oy dp)⟩
    refine ⟨_, rfl, z0, fun l0 h0 => ?_⟩
    have s0 := same_upd (o := HO.lst []) h0
    refine ⟨.list (whyD W), .list [], .lst (SqL.of (s0 _ _ Y.lst)) (Dats.same s0 _ _ hD), .lst (SqL.of upd_same) .nil, depth_W _, _, rfl, ite2 (fun we => ?_) (fun we => ?_)⟩
    · exact ⟨_, rfl, c, rfl, fun v d H2 s2 hd ho oy dp => k _ _ _ (s0.trans s2) hd (oth d ho oy dp)⟩
    have wn : W ≠ [] := fun e => we (by rw [e]; rfl)
    have w1 : 1 ≤ W.length := List.length_pos_iff.mpr wn
    generalize upd H l0 (.lst []) = G at *
    have Yl := s0 _ _ Y.lst
    have hDG := Dats.same s0 _ _ hD
    refine ⟨_, rfl, _, _, rfl, rfl, ⟨by decide, by decide⟩, _, rfl, _, _, rfl, .inl ⟨_, SqL.of Yl, rfl⟩, _, _, rfl, rfl, (by show (0 : Int) < (xs.length : Int); omega), ?_⟩
    obtain ⟨a, ea⟩ := Int.eq_ofNat_of_zero_le (show 0 ≤ c / 16 % (xs.length : Int) from Int.emod_nonneg _ (by omega))
    have al : a < W.length := by
      have := Int.emod_lt_of_pos (c / 16) (show (0 : Int) < (xs.length : Int) by omega)
      omega
    obtain ⟨kv, r, ew⟩ : ∃ kv r, W.drop a = kv :: r := ⟨_, _, List.drop_eq_getElem_cons al⟩
    have eW : W = W.take a ++ kv :: r := by rw [← ew, List.take_append_drop]
    have tl : (W.take a).length = a := by rw [List.length_take]; omega
    have okT : ∀ x ∈ W.take a, KvOk x := fun x hx => ok x (List.mem_of_mem_take hx)
    have okD : ∀ x ∈ kv :: r, KvOk x := fun x hx => ok x (List.mem_of_mem_drop (i := a) (by rw [ew]; exact hx))
    have rl : a + (r.length + 1) = W.length := by
      have := congrArg List.length ew
      rw [List.length_drop, List.length_cons] at this
      omega
    have c1 : cutV xs none (some (c / 16 % (xs.length : Int))) = xs.take a := by rw [ea]; exact cutV_take xs a
    have c2 : ∀ m : Nat, cutV xs (some (c / 16 % (xs.length : Int))) (some (c / 16 % (xs.length : Int) + (m : Int))) = (xs.drop a).take m := fun m => by rw [ea, ← Int.natCast_add]; exact cutV_mid xs a m
    have c3 : cutV xs (some (c / 16 % (xs.length : Int))) none = xs.drop a := by rw [ea]; exact cutV_drop xs a
    have c4 : ∀ m : Nat, cutV xs (some (c / 16 % (xs.length : Int) + (m : Int))) none = xs.drop (a + m) := fun m => by rw [ea, ← Int.natCast_add]; exact cutV_drop xs (a + m)
    have c21 : cutV xs (some (c / 16 % (xs.length : Int))) (some (c / 16 % (xs.length : Int) + 1)) = (xs.drop a).take 1 := c2 1
    have c22 : cutV xs (some (c / 16 % (xs.length : Int))) (some (c / 16 % (xs.length : Int) + 2)) = (xs.drop a).take 2 := c2 2
    have c41 : cutV xs (some (c / 16 % (xs.length : Int) + 1)) none = xs.drop (a + 1) := c4 1
    have c42 : cutV xs (some (c / 16 % (xs.length : Int) + 2)) none = xs.drop (a + 2) := c4 2
    have lc : ∀ lo hi, (cutV xs lo hi).length ≤ 64 := fun lo hi => by have := cutV_length xs lo hi; omega
    refine ⟨_, rfl, rfl, _, rfl, ite2 (fun w11 => ?_) (fun w11 => ?_)⟩
    · have e11 := eq w11
      refine ⟨_, rfl, _, rfl, _, rfl, _, _, rfl, SqL.of Yl, fun l1 h1 => ?_⟩
      have s1 := same_upd (o := HO.lst (cutV xs none (some (c / 16 % (xs.length : Int))))) h1
      refine ⟨_, rfl, _, rfl, _, rfl, _, rfl, _, _, rfl, rfl, _, rfl, _, _, rfl, SqL.of (s1 _ _ Yl), fun l2 h2 => ?_⟩
      have s2 := same_upd (o := HO.lst (cutV xs (some (c / 16 % (xs.length : Int))) (some (c / 16 % (xs.length : Int) + 1)))) h2
      refine ⟨_, _, _, _, rfl, rfl, s2 _ _ upd_same, upd_same, fits _ (by have := lc none (some (c / 16 % (xs.length : Int))); have := lc (some (c / 16 % (xs.length : Int))) (some (c / 16 % (xs.length : Int) + 1)); omega), fun l3 h3 => ?_⟩
      have s3 := same_upd (o := HO.lst (cutV xs none (some (c / 16 % (xs.length : Int))) ++ cutV xs (some (c / 16 % (xs.length : Int))) (some (c / 16 % (xs.length : Int) + 1)))) h3
      refine ⟨_, rfl, _, rfl, _, rfl, _, _, rfl, SqL.of ((s1.trans (s2.trans s3)) _ _ Yl), fun l4 h4 => ?_⟩
      have s4 := same_upd (o := HO.lst (cutV xs (some (c / 16 % (xs.length : Int))) none)) h4
      refine ⟨_, _, _, _, rfl, rfl, s4 _ _ upd_same, upd_same, fits _ (by rw [List.length_append]; have := lc none (some (c / 16 % (xs.length : Int))); have := lc (some (c / 16 % (xs.length : Int))) (some (c / 16 % (xs.length : Int) + 1)); have := lc (some (c / 16 % (xs.length : Int))) none; omega), fun l5 h5 => ?_⟩
      have sB := s1.trans (s2.trans (s3.trans s4))
      have hB := Dats.same sB _ _ hDG
      have hX : ∀ {G' : Hp}, Dats K G' (whyD W) xs → Dats K G' (whyD (W.take a ++ [kv] ++ kv :: r)) (cutV xs none (some (c / 16 % (xs.length : Int))) ++ cutV xs (some (c / 16 % (xs.length : Int))) (some (c / 16 % (xs.length : Int) + 1)) ++ cutV xs (some (c / 16 % (xs.length : Int))) none) := fun {G'} hB => by
        have e : whyD (W.take a ++ [kv] ++ kv :: r) = (whyD W).take a ++ ((whyD W).drop a).take 1 ++ (whyD W).drop a := by
          unfold whyD
          rw [← List.map_drop, ew, ← List.map_take, ← List.map_take, List.map_append, List.map_append]
          rfl
        rw [c1, c21, c3, e]
        exact dats_app (dats_app (dats_take a hB) (dats_take 1 (dats_drop a hB))) (dats_drop a hB)
      obtain ⟨s5, d5⟩ := new_lst (K := K) (hX hB) h5
      refine k _ _ _ (s0.trans (sB.trans s5)) d5 (res_tab (by omega) (fun x hx => ?_) (by rw [List.length_append, List.length_append, tl, List.length_singleton, List.length_cons]; omega) rise (.inr twice_no))
      rcases List.mem_append.mp hx with hx | hx
      · rcases List.mem_append.mp hx with hx | hx
        · exact okT x hx
        · rw [List.mem_singleton.mp hx]
          exact okD kv (List.mem_cons_self ..)
      · exact okD x hx
    refine ⟨_, rfl, rfl, _, rfl, ite2 (fun w12 => ?_) (fun w12 => ?_)⟩
    · have e12 := eq w12
      refine ⟨_, rfl, _, rfl, _, rfl, _, rfl, _, _, rfl, rfl, _, rfl, _, _, rfl, SqL.of Yl, fun l1 h1 => ⟨_, _, rfl, SqL.of upd_same, fun l2 h2 => ?_⟩⟩
      have s1 := same_upd (o := HO.lst (cutV xs (some (c / 16 % (xs.length : Int))) (some (c / 16 % (xs.length : Int) + 2)))) h1
      have s2 := same_upd (o := HO.lst (cutV xs (some (c / 16 % (xs.length : Int))) (some (c / 16 % (xs.length : Int) + 2))).reverse) h2
      refine ⟨_, rfl, _, rfl, _, rfl, _, _, rfl, SqL.of ((s1.trans s2) _ _ Yl), fun l3 h3 => ?_⟩
      have s3 := same_upd (o := HO.lst (cutV xs none (some (c / 16 % (xs.length : Int))))) h3
      refine ⟨_, rfl, _, _, _, _, rfl, rfl, upd_same, s3 _ _ upd_same, fits _ (by rw [List.length_reverse]; have := lc none (some (c / 16 % (xs.length : Int))); have := lc (some (c / 16 % (xs.length : Int))) (some (c / 16 % (xs.length : Int) + 2)); omega), fun l4 h4 => ?_⟩
      have s4 := same_upd (o := HO.lst (cutV xs none (some (c / 16 % (xs.length : Int))) ++ (cutV xs (some (c / 16 % (xs.length : Int))) (some (c / 16 % (xs.length : Int) + 2))).reverse)) h4
      refine ⟨_, rfl, _, rfl, _, _, rfl, rfl, _, rfl, _, _, rfl, SqL.of ((s1.trans (s2.trans (s3.trans s4))) _ _ Yl), fun l5 h5 => ?_⟩
      have s5 := same_upd (o := HO.lst (cutV xs (some (c / 16 % (xs.length : Int) + 2)) none)) h5
      refine ⟨_, _, _, _, rfl, rfl, s5 _ _ upd_same, upd_same, fits _ (by rw [List.length_append, List.length_reverse]; have := lc none (some (c / 16 % (xs.length : Int))); have := lc (some (c / 16 % (xs.length : Int))) (some (c / 16 % (xs.length : Int) + 2)); have := lc (some (c / 16 % (xs.length : Int) + 2)) none; omega), fun l6 h6 => ?_⟩
      have sB := s1.trans (s2.trans (s3.trans (s4.trans s5)))
      have hB := Dats.same sB _ _ hDG
      have ed : W.drop (a + 2) = (kv :: r).drop 2 := by rw [← ew, List.drop_drop]
      have hX : ∀ {G' : Hp}, Dats K G' (whyD W) xs → Dats K G' (whyD (W.take a ++ ((kv :: r).take 2).reverse ++ (kv :: r).drop 2)) (cutV xs none (some (c / 16 % (xs.length : Int))) ++ (cutV xs (some (c / 16 % (xs.length : Int))) (some (c / 16 % (xs.length : Int) + 2))).reverse ++ cutV xs (some (c / 16 % (xs.length : Int) + 2)) none) := fun {G'} hB => by
        have e : whyD (W.take a ++ ((kv :: r).take 2).reverse ++ (kv :: r).drop 2) = (whyD W).take a ++ (((whyD W).drop a).take 2).reverse ++ (whyD W).drop (a + 2) := by
          rw [← ed, ← ew]
          unfold whyD
          rw [List.map_append, List.map_append, List.map_take, List.map_reverse, List.map_take, List.map_drop, List.map_drop]
        rw [c1, c22, c42, e]
        exact dats_app (dats_app (dats_take a hB) (dats_rev (dats_take 2 (dats_drop a hB)))) (dats_drop (a + 2) hB)
      obtain ⟨s6, d6⟩ := new_lst (K := K) (hX hB) h6
      refine k _ _ _ (s0.trans (sB.trans s6)) d6 (res_tab (by omega) (fun x hx => ?_) ?_ rise ?_)
      · rcases List.mem_append.mp hx with hx | hx
        · rcases List.mem_append.mp hx with hx | hx
          · exact okT x hx
          · exact okD x (List.mem_of_mem_take (List.mem_reverse.mp hx))
        · exact okD x (List.mem_of_mem_drop hx)
      · rw [List.length_append, List.length_append, tl, List.length_reverse, List.length_take, List.length_drop, List.length_cons]
        omega
      · cases r with
        | nil =>
          refine .inl ?_
          show W.take a ++ [kv] ++ [] = W
          rw [List.append_nil]
          exact eW.symm
        | cons b r =>
          refine .inr ?_
          show ¬ Rise (W.take a ++ [b, kv] ++ r)
          refine turned_no ?_
          rw [← eW]
          exact rise
    · have hx : xs[a]? = some (xs[a]'(by omega)) := List.getElem?_eq_getElem (by omega)
      have hk : W[a]? = some kv := by
        rw [← List.head?_drop, ew]
        rfl
      obtain ⟨kv', hk', q, b, ex, hq, hb⟩ := paired_get Y.pl hx
      rw [hk] at hk'
      cases hk'
      have hat : atI xs (c / 16 % (xs.length : Int)) = some (V.ref q) := by
        rw [atI_lt (Int.emod_nonneg _ (by omega)) (Int.emod_lt_of_pos _ (by omega)), ea, ← ex]
        exact hx
      refine ⟨_, rfl, _, rfl, _, _, _, _, rfl, rfl, SqL.of Yl, hat, _, rfl, _, rfl, _, _, rfl, rfl, ⟨by decide, by decide⟩, _, rfl, q, b, kv, way, _, z, rfl, s0 _ _ hq, s0 _ _ hb, okD kv (List.mem_cons_self ..), hz, fun v d H1 s1 hd sp op dp => ?_⟩
      refine ⟨_, rfl, _, rfl, _, rfl, _, _, rfl, SqL.of (s1 _ _ Yl), fun l2 h2 => ⟨_, rfl, z1, fun l3 h3 => ?_⟩⟩
      have s2 := same_upd (o := HO.lst (cutV xs none (some (c / 16 % (xs.length : Int))))) h2
      have s3 := same_upd (o := HO.lst [v]) h3
      refine ⟨_, _, _, _, rfl, rfl, s3 _ _ upd_same, upd_same, fits _ (by rw [List.length_singleton]; have := lc none (some (c / 16 % (xs.length : Int))); omega), fun l4 h4 => ?_⟩
      have s4 := same_upd (o := HO.lst (cutV xs none (some (c / 16 % (xs.length : Int))) ++ [v])) h4
      refine ⟨_, rfl, _, rfl, _, _, rfl, rfl, _, rfl, _, _, rfl, SqL.of ((s1.trans (s2.trans (s3.trans s4))) _ _ Yl), fun l5 h5 => ?_⟩
      have s5 := same_upd (o := HO.lst (cutV xs (some (c / 16 % (xs.length : Int) + 1)) none)) h5
      refine ⟨_, _, _, _, rfl, rfl, s5 _ _ upd_same, upd_same, fits _ (by rw [List.length_append, List.length_singleton]; have := lc none (some (c / 16 % (xs.length : Int))); have := lc (some (c / 16 % (xs.length : Int) + 1)) none; omega), fun l6 h6 => ?_⟩
      have sC := s2.trans (s3.trans (s4.trans s5))
      have sB := s1.trans sC
      have hB := Dats.same sB _ _ hDG
      have hd' := Dat.same sC _ _ hd
      have ed : W.drop (a + 1) = r := by rw [← List.drop_drop, ew]; rfl
      have hX : ∀ {G' : Hp}, Dats K G' (whyD W) xs → Dat K G' d v → Dats K G' (whyD (W.take a) ++ [d] ++ whyD r) (cutV xs none (some (c / 16 % (xs.length : Int))) ++ [v] ++ cutV xs (some (c / 16 % (xs.length : Int) + 1)) none) := fun {G'} hB hd => by
        have e1 : whyD (W.take a) = (whyD W).take a := by unfold whyD; rw [List.map_take]
        have e2 : whyD r = (whyD W).drop (a + 1) := by rw [← ed]; unfold whyD; rw [List.map_drop]
        rw [c1, c41, e1, e2]
        exact dats_app (dats_app (dats_take a hB) (.cons hd .nil)) (dats_drop (a + 1) hB)
      obtain ⟨s6, d6⟩ := new_lst (K := K) (hX hB hd') h6
      have mem : d ∈ whyD (W.take a) ++ [d] ++ whyD r := List.mem_append_left _ (List.mem_append_right _ (List.mem_singleton.mpr rfl))
      have okR : ∀ x ∈ r, KvOk x := fun x hx => okD x (List.mem_cons_of_mem _ hx)
      have oY : okY (.list (whyD (W.take a) ++ [d] ++ whyD r)) := by
        refine ⟨?_, fun e he => ?_⟩
        · unfold whyD
          rw [List.length_append, List.length_append, List.length_map, List.length_map, tl, List.length_singleton]
          omega
        · rcases List.mem_append.mp he with he | he
          · rcases List.mem_append.mp he with he | he
            · exact (why_ok okT (by omega)).2 e he
            · rw [List.mem_singleton.mp he]
              exact op
          · exact (why_ok okR (by omega)).2 e he
      have dY : (PyData.list (whyD (W.take a) ++ [d] ++ whyD r)).depth ≤ 6 := Nat.succ_le_succ (depth_app (depth_app (Nat.le_trans (depth_whys _) (by decide)) (Nat.max_le.mpr ⟨Nat.le_trans dp (by decide), Nat.zero_le _⟩)) (Nat.le_trans (depth_whys _) (by decide)))
      refine k _ _ _ (s0.trans (sB.trans s6)) d6 ?_
      rcases sp with ⟨n1, rfl⟩ | ⟨n1, hbad⟩ | ⟨n1, hp⟩
      · have e : whyD (W.take a) ++ [pairD kv] ++ whyD r = whyD W := by
          rw [congrArg whyD eW]
          unfold whyD
          rw [List.map_append, List.append_assoc]
          rfl
        rw [e]
        exact res_tab n1 ok (by omega) rise (.inl rfl)
      · exact res_bad ok mem hbad oY dY
      · refine ⟨oY, dY, .inr ⟨_, rfl, .inl ⟨n1, ?_⟩⟩⟩
        have h1 : (whyD (W.take a) ++ [d] ++ whyD r).all pairB = false := Bool.eq_false_iff.mpr fun z => by
          rw [List.all_eq_true.mp z d mem] at hp
          cases hp
        show (_ && _) = false
        rw [h1, Bool.false_and]
end
end Wy
namespace Wy
open PySem L2
def sp_law (K : PySem.W.Frag) : Sp := fun vs H Q _ => ∃ (a : Addr) (ns : List Int), vs = [.ref a] ∧ SqL K H a (ns.map V.int) ∧ ns.length ≤ 63 ∧ ∀ H', Q (.bl true) H'
theorem cut_ints2 (ns : List Int) (lo d : Nat) : ∃ ms : List Int, cutV (ns.map V.int) (some (lo : Int)) (some ((lo + d : Nat) : Int)) = ms.map V.int ∧ ms.length ≤ d := by
  refine ⟨(ns.drop (HT.sIx ns.length 0 (some (lo : Int)))).take (HT.sIx ns.length ns.length (some ((lo + d : Nat) : Int)) - HT.sIx ns.length 0 (some (lo : Int))), ?_, ?_⟩
  · unfold cutV
    rw [List.length_map, List.map_take, List.map_drop]
  · rw [List.length_take, List.length_drop, HT.sIx_nat, HT.sIx_nat]
    omega
theorem ok_law {l : PySem.W.OpenLaw} {w : World} {K : PySem.W.Frag} {mg : Str → Option Value} {fa : Addr} (T : Txt K mg) (hfa : mg "law" = some (.ref fa)) :
    ∃ fd : FuncData, (∀ (s : Shared) (v : Value), BindsTo s fd ⟨[v], []⟩ [("_law_script", v)]) ∧ ∀ base : Heap, K.In base → base.Ns mainGlobals mg → FnOk l.prog w K mg base CX0 6 fa fd ["_law_script"] (sp_law K) := by
  refine T.t_law.fin hfa sc_law (fun vs H Q E h => ?_) fun base f cdv A outer s H vs Q E hr h => ?_
  · obtain ⟨a, ns, rfl, _⟩ := h
    rfl
  · obtain ⟨a, ns, rfl, hS, hlen, k⟩ := h
    refine join_at 4 (fun σ H' => ∃ (p wp : Addr) (is : List Int) (W : List Str) (m : Int), σ = [some (.ref a), some (.ref p), some (.ref wp), some (.int m), none, none, none, none, none, none, none] ∧ Same H H' ∧ H' p = some (.lst (is.map V.int)) ∧ is.length = 7 ∧ H' wp = some (.lst (W.map V.str)) ∧ 1 ≤ W.length ∧ (∀ z ∈ W, Wt z) ∧ 0 ≤ m ∧ m ≤ 40) ?_ (fun u hu hC => ⟨_, (psr_4
      (ps_set (i := 1) sc_law.nd rfl (Or.inl rfl) (pe_def (ok__law_stream T) hr rfl (pa_2 (pe_def (ok__law_cell_at T) hr rfl (pa_2 (pv 0) pe_int)) pe_int)))
      (ps_set (i := 2) sc_law.nd rfl (Or.inl rfl) (pe_def (okF__law_words T) hr rfl (pa_2 (pe_ix (ix_listK K) (pv 1) pe_int (fun _ _ => rfl)) (pe_op op_add pe_int (pe_op op_mod (pe_ix (ix_listK K) (pv 1) pe_int (fun _ _ => rfl)) pe_int)))))
      (ps_set (i := 3) sc_law.nd rfl (Or.inl rfl) pe_int)
      (ps_if (pt_cmpR op_eq (pe_op op_mod (pe_ix (ix_listK K) (pv 1) pe_int (fun _ _ => rfl)) pe_int) pe_int (nomark _)) (pss_one (ps_set (i := 3) sc_law.nd rfl (Or.inl rfl) pe_int)) pss_nil)
      hu), ?_⟩)
    · refine join_more 4 (fun σ H' => ∃ (p wp y : Addr) (m : Int) (xs : List V) (Y : Tab) (vt : V) (d : PyData) (v7 : Option V), σ = [some (.ref a), some (.ref p), some (.ref wp), some (.int m), some (.ref y), some vt, some (.bl (whyB d)), v7, none, none, none] ∧ WhV H' y xs Y ∧ Y.length ≤ 64 ∧ Rise Y ∧ (∀ kv ∈ Y, KvOk kv) ∧ Dat K H' d vt ∧ okY d ∧ d.depth ≤ 6) ?_ (fun u hu hC => ⟨_, (psr_4
      (ps_set (i := 4) sc_law.nd rfl (Or.inl rfl) (pe_def (ok__law_why T) hr rfl (pa_3 (pe_op op_cat (pe_slice (sl_listK K) (pv 0) (po_some pe_int) (po_some pe_int)) (pe_def (ok__law_stream T) hr rfl (pa_2 (pe_ix (ix_listK K) (pv 1) pe_int (fun _ _ => rfl)) (pe_op op_mod (pe_ix (ix_listK K) (pv 1) pe_int (fun _ _ => rfl)) pe_int)))) (pv 2) (pv 3))))
      (ps_set (i := 5) sc_law.nd rfl (Or.inl rfl) (pe_callTy (call_listK K) rfl T.b_list bt_list (pa_1 (pv 4))))
      (ps_set (i := 6) sc_law.nd rfl (Or.inl rfl) pe_bl)
      (ps_if (pt_cmpR op_gt (pe_op op_mod (pe_ix (ix_listK K) (pv 1) pe_int (fun _ _ => rfl)) pe_int) pe_int (nomark _)) (pss_3
      (ps_set (i := 7) sc_law.nd rfl (Or.inl rfl) (pe_ix (ix_listK K) (pe_def (ok__law_stream T) hr rfl (pa_2 (pe_op op_add (pe_def (ok__law_cell_at T) hr rfl (pa_2 (pv 0) pe_int)) (pe_ix (ix_listK K) (pv 1) pe_int (fun _ _ => rfl))) pe_int)) pe_int (fun _ _ => rfl)))
      (ps_set (i := 5) sc_law.nd rfl (Or.inl rfl) (pe_def (ok__law_spoiled T) hr rfl (pa_4 (pv 4) (pe_op op_mod (pe_ix (ix_listK K) (pv 1) pe_int (fun _ _ => rfl)) pe_int) (pv 7) (pe_ix (ix_listK K) (pv 2) pe_int (fun _ _ => rfl)))))
      (ps_set (i := 6) sc_law.nd rfl (Or.inl rfl) (pe_and (pe_callB (call_isiD K) rfl T.b_isinstance bt_isinstance (pa_2 (pv 5) (pe_ty rfl T.b_list bt_list))) (pe_and (pe_cmpR (op_eqD hr.units K) (pv 5) (pv 4) (nomark _)) (pe_one (pe_cmpR op_ne (pe_op op_mod (pe_ix (ix_listK K) (pv 1) pe_int (fun _ _ => rfl)) pe_int) pe_int (nomark _))))))) pss_nil)
      hu), ?_⟩)
      · refine join_more 2 (fun σ H' => ∃ (p wp y : Addr) (m : Int) (xs : List V) (Y : Tab) (vt vh : V) (d : PyData) (v7 : Option V), σ = [some (.ref a), some (.ref p), some (.ref wp), some (.int m), some (.ref y), some vt, some (.bl (whyB d)), v7, some vh, none, none] ∧ WhV H' y xs Y ∧ Y.length ≤ 64 ∧ Rise Y ∧ (∀ kv ∈ Y, KvOk kv) ∧ Dat K H' d vt ∧ Dat K H' d vh ∧ okY d ∧ d.depth ≤ 6) ⟨_, (pss_4
      (ps_set (i := 9) sc_law.nd rfl (Or.inl rfl) (pe_def (ok_is_why T) hr rfl (pa_1 (pv 8))))
      (ps_if (PW.pt (pw_or (pt_not (pt_val (pe_callB (call_isi K) rfl T.b_isinstance bt_isinstance (pa_2 (pv 9) (pe_ty rfl T.b_bool bt_bool))))) (pw_or (pt_cmpR op_ne (pv 9) (pv 6) (nomark _)) (pw_or1 (pt_cmpR (op_neD hr.units K) (pv 8) (pv 5) (nomark _)))))) (pss_one (ps_ret pe_bl)) pss_nil)
      (ps_set (i := 10) sc_law.nd rfl (Or.inl rfl) (pe_def (ok_is_why T) hr rfl (pa_1 (pe_callTy (call_listK K) rfl T.b_list bt_list (pa_1 (pv 4))))))
      (ps_ret (pe_and (pe_callB (call_isi K) rfl T.b_isinstance bt_isinstance (pa_2 (pv 10) (pe_ty rfl T.b_bool bt_bool))) (pe_one (pv 10))))), ?_⟩ (fun u hu hC => ⟨_, (psr_2
      (ps_set (i := 8) sc_law.nd rfl (Or.inl rfl) (pv 5))
      (ps_if (pt_val (pe_callB (call_isiD K) rfl T.b_isinstance bt_isinstance (pa_2 (pv 5) (pe_ty rfl T.b_list bt_list)))) (pss_one (ps_set (i := 8) sc_law.nd rfl (Or.inl rfl) (pe_callTy (call_listK K) rfl T.b_list bt_list (pa_1 (pv 5))))) pss_nil)
      hu), ?_⟩)
        · rintro σ H1 ⟨p, wp, y, m, xs, Y, vt, vh, d, v7, rfl, V1, yl, rise, ok, ht, hh, oy, dp⟩
          refine ⟨_, rfl, vh, d, rfl, hh, oy, fun H2 s2 => ?_⟩
          refine ⟨_, rfl, _, _, "bool", rfl, TyOf.bl _, by decide, by decide, _, rfl, iteFb (show (!tyIs "bool" "bool") = false by decide) ?_⟩
          refine ⟨_, rfl, _, rfl, rfl, _, rfl, iteFb (by show (!decide (V.bl _ = V.bl _)) = false; rw [decide_eq_true rfl]; rfl) ?_⟩
          refine ⟨_, rfl, _, rfl, d, d, Dat.same s2 _ _ hh, Dat.same s2 _ _ ht, by omega, _, rfl, iteFb (by rw [eq_of (Dat.same s2 _ _ hh)]; rfl) ?_⟩
          have V2 := V1.same s2
          refine ⟨_, rfl, y, xs, rfl, .inl (SqL.of V2.lst), fun l hl => ?_⟩
          have s3 := same_upd (o := HO.lst xs) hl
          have W3 : WhV (upd H2 l (.lst xs)) l xs Y := ⟨upd_same, pl_keepT (Same.keepT s3) V2.pl⟩
          refine ⟨_, _, rfl, W3.dat ok, why_ok ok (by omega), fun H4 s4 => ?_⟩
          rw [why_good rise ok]
          refine ⟨_, rfl, _, _, "bool", rfl, TyOf.bl _, by decide, by decide, _, rfl, iteTb (show tyIs "bool" "bool" = true by decide) ⟨_, rfl, k _⟩⟩
        · rintro σ H1 ⟨p, wp, y, m, xs, Y, vt, d, v7, rfl, V1, yl, rise, ok, ht, oy, dp⟩
          refine ⟨_, rfl, _, rfl, vt, _, d, rfl, ht, by decide, _, rfl, ?_⟩
          rcases dat_lst ht with ⟨t, ts, ds, rfl, rfl, hl, hds⟩ | ⟨ty, hn⟩
          · refine iteTb (show tyIs "list" "list" = true by decide) ?_
            refine ⟨_, rfl, t, ts, rfl, .inl hl, fun h hh => ?_⟩
            obtain ⟨s2, d2⟩ := new_lst (K := K) hds hh
            exact hC _ _ ⟨p, wp, y, m, xs, Y, _, _, _, v7, rfl, V1.same s2, yl, rise, ok, Dat.same s2 _ _ ht, d2, oy, dp⟩
          · refine iteFb ty ?_
            exact hC _ _ ⟨p, wp, y, m, xs, Y, vt, vt, d, v7, rfl, V1, yl, rise, ok, ht, ht, oy, dp⟩
      · rintro σ H1 ⟨p, wp, is, W, m, rfl, s1, hp, l7, hw, wl, okW, m0, m40⟩
        have w3 : atI (is.map V.int) 3 = some (V.int (is.getD 3 0)) := at_ints (k := 3) (by omega)
        have w4 : atI (is.map V.int) 4 = some (V.int (is.getD 4 0)) := at_ints (k := 4) (by omega)
        have w5 : atI (is.map V.int) 5 = some (V.int (is.getD 5 0)) := at_ints (k := 5) (by omega)
        have w6 : atI (is.map V.int) 6 = some (V.int (is.getD 6 0)) := at_ints (k := 6) (by omega)
        refine ⟨_, rfl, _, rfl, _, rfl, _, _, rfl, s1.seq hS, fun p4 hp4 => ?_⟩
        obtain ⟨m4, e4, l4⟩ : ∃ m4 : List Int, cutV (ns.map V.int) (some 2) (some 62) = m4.map V.int ∧ m4.length ≤ 60 := cut_ints2 ns 2 60
        rw [e4]
        have s4 := same_upd (o := HO.lst (m4.map V.int)) hp4
        refine ⟨_, rfl, _, _, _, _, rfl, rfl, SqL.of (s4 _ _ hp), w3, _, rfl, _, _, _, _, rfl, rfl, SqL.of (s4 _ _ hp), w4, _, _, rfl, rfl, (by show (0 : Int) < 5; decide), _, is.getD 4 0 % 5, rfl, by omega, by omega, fun p3 m3 H3 s3 hp3 l3 _ hn3 => ?_⟩
        refine ⟨p4, p3, _, _, rfl, rfl, s3 _ _ upd_same, hp3, Nat.le_of_lt (small1000 (by rw [List.length_map, List.length_map]; omega)), fun p5 hp5 => ?_⟩
        rw [← List.map_append]
        have s5 := same_upd (o := HO.lst ((m4 ++ m3).map V.int)) hp5
        have l6 : (m4 ++ m3).length ≤ 64 := by rw [List.length_append]; omega
        have e5 := upd_same (H := H3) (a := p5) (o := HO.lst ((m4 ++ m3).map V.int))
        have sA := s4.trans (s3.trans s5)
        have hw5 := sA _ _ hw
        have hp6 := sA _ _ hp
        have hS6 := sA.seq (s1.seq hS)
        generalize upd H3 p5 (.lst ((m4 ++ m3).map V.int)) = G at *
        generalize m4 ++ m3 = m6 at *
        refine ⟨_, rfl, _, rfl, p5, wp, m6, W, m, rfl, e5, by omega, hw5, wl, okW, m0, by omega, fun y xs Y H7 s7 _ ey py ly wy => ?_⟩
        have V7 : WhV H7 y xs Y := ⟨ey, py _ fun _ _ z => z⟩
        refine ⟨_, rfl, y, xs, rfl, .inl (SqL.of V7.lst), fun t ht => ?_⟩
        have s8 := same_upd (o := HO.lst xs) ht
        have V8 := V7.same s8
        have T8 : WhV (upd H7 t (.lst xs)) t xs Y := ⟨upd_same, V8.pl⟩
        have hp8 := (s7.trans s8) _ _ hp6
        have hw8 := (s7.trans s8) _ _ hw5
        have hS8 := (s7.trans s8).seq hS6
        generalize upd H7 t (.lst xs) = G8 at *
        have dW : (PyData.list (whyD Y)).depth ≤ 6 := Nat.le_trans (Nat.succ_le_succ (depth_whys Y)) (by decide)
        refine ⟨_, rfl, _, _, _, _, rfl, rfl, SqL.of hp8, w5, _, _, rfl, rfl, (by show (0 : Int) < 3; decide), _, _, rfl, rfl, _, rfl, ite2 (fun _ => ?_) (fun _ => ?_)⟩
        · refine ⟨_, rfl, a, ns, 1, rfl, hS8, by decide, _, rfl, _, _, _, _, rfl, rfl, SqL.of hp8, w6, _, _, rfl, rfl, _, 1, rfl, by decide, by decide, fun p9 n9 H9 s9 hp9 l9 _ hn9 => ?_⟩
          have l9' : n9.length = 1 := l9
          have a0 : atI (n9.map V.int) 0 = some (V.int (n9.getD 0 0)) := at_ints (k := 0) (by omega)
          refine ⟨_, _, _, _, rfl, rfl, SqL.of hp9, a0, ?_⟩
          have V9 := V8.same s9
          have hp10 := s9 _ _ hp8
          have hw10 := s9 _ _ hw8
          obtain ⟨vz, hz0, hvz⟩ := atI_in (xs := W.map V.str) (i := 0) (by decide) (by rw [List.length_map]; omega)
          obtain ⟨z, hzW, rfl⟩ := List.mem_map.mp hvz
          refine ⟨_, rfl, _, rfl, _, _, _, _, rfl, rfl, SqL.of hp10, w6, _, _, rfl, rfl, (by show (0 : Int) < 13; decide), _, rfl, _, rfl, _, _, _, _, rfl, rfl, SqL.of hw10, hz0, y, xs, Y, is.getD 6 0 % 13, _, z, rfl, V9, by omega, wy.1, wy.2, okW z hzW, fun v d H11 s11 hd hres => ?_⟩
          have V11 := V9.same s11
          have hp11 := s11 _ _ hp10
          obtain ⟨oy, dp, h⟩ := hres
          refine ⟨_, rfl, v, _, d, rfl, hd, by decide, _, rfl, ?_⟩
          rcases h with ⟨ty, hn⟩ | ⟨ds, rfl, h⟩
          · refine iteFb ty ?_
            exact hC _ _ ⟨p, wp, y, m, xs, Y, v, d, some (V.int (n9.getD 0 0)), by rw [whyB_no hn]; rfl, V11, by omega, wy.1, wy.2, hd, oy, dp⟩
          · refine iteTb (show tyIs "list" "list" = true by decide) ?_
            refine ⟨_, rfl, _, rfl, _, _, hd, V11.dat wy.2, by omega, _, rfl, ite2 (fun he => ?_) (fun he => ?_)⟩
            · refine ⟨_, rfl, _, _, _, _, rfl, rfl, SqL.of hp11, w6, _, _, rfl, rfl, (by show (0 : Int) < 13; decide), rfl, ?_⟩
              refine hC _ _ ⟨p, wp, y, m, xs, Y, v, .list ds, some (V.int (n9.getD 0 0)), ?_, V11, by omega, wy.1, wy.2, hd, oy, dp⟩
              have ew : (!decide (V.int (is.getD 6 0 % 13) = V.int 1)) = whyB (.list ds) := by
                rw [dI]
                rcases h with ⟨h1, h2⟩ | ⟨h1, h2⟩
                · rw [h2, decide_eq_true h1]
                  rfl
                · rw [h2, he, decide_eq_false h1]
                  rfl
              rw [← ew]
              rfl
            · refine hC _ _ ⟨p, wp, y, m, xs, Y, v, .list ds, some (V.int (n9.getD 0 0)), ?_, V11, by omega, wy.1, wy.2, hd, oy, dp⟩
              have ew : whyB (.list ds) = false := by
                rcases h with ⟨h1, h2⟩ | ⟨h1, h2⟩
                · exact h2
                · exact h2.trans (Bool.eq_false_iff.mpr he)
              rw [ew]
              rfl
        · exact hC _ _ ⟨p, wp, y, m, xs, Y, .ref t, .list (whyD Y), none, by rw [why_good wy.1 wy.2]; rfl, V8, by omega, wy.1, wy.2, T8.dat wy.2, why_ok wy.2 (by omega), dW⟩
    · refine ⟨_, rfl, a, ns, _, rfl, hS, by decide, _, 7, rfl, by decide, by decide, fun p is H1 s1 hp hl _ hn => ?_⟩
      have l7 : is.length = 7 := hl
      have w0 : atI (is.map V.int) 0 = some (V.int (is.getD 0 0)) := at_ints (k := 0) (by omega)
      have w1 : atI (is.map V.int) 1 = some (V.int (is.getD 1 0)) := at_ints (k := 1) (by omega)
      have w2 : atI (is.map V.int) 2 = some (V.int (is.getD 2 0)) := at_ints (k := 2) (by omega)
      refine ⟨_, rfl, _, _, _, _, rfl, rfl, SqL.of hp, w0, _, rfl, _, _, _, _, rfl, rfl, SqL.of hp, w1, _, _, rfl, rfl, (by show (0 : Int) < 6; decide), _, _, rfl, rfl, _, 1 + is.getD 1 0 % 6, rfl, by omega, by omega, fun q W H2 s2 hw lw _ hW => ?_⟩
      have okW : ∀ z ∈ W, Wt z := fun z hz => by
        obtain ⟨z1, z2, z3⟩ := hW z hz
        exact ⟨z1.le (by decide), txt_of z1 z2 z3⟩
      have wl : 1 ≤ W.length := by omega
      have hp4 := s2 _ _ hp
      refine ⟨_, rfl, _, _, _, _, rfl, rfl, SqL.of hp4, w2, _, _, rfl, rfl, (by show (0 : Int) < 4; decide), rfl, _, rfl, ite2 (fun _ => ?_) (fun _ => ?_)⟩
      · exact hC _ _ ⟨p, q, is, _, 40, rfl, s1.trans s2, hp4, l7, hw, wl, okW, by decide, by decide⟩
      · exact hC _ _ ⟨p, q, is, _, 3, rfl, s1.trans s2, hp4, l7, hw, wl, okW, by decide, by decide⟩
theorem txt_mk {K : PySem.W.Frag} {h : Heap} {mg : Str → Option Value} (X : K.In h) (G : h.Ns mainGlobals mg) {y0 : Tok} {y1 : Tok} {y2 : Tok}
    (y3 : PySem.W.nsIn K mainGlobals "all" = some none)
    (y4 : PySem.W.nsIn K mainGlobals "bool" = some none)
    (y5 : PySem.W.nsIn K mainGlobals "int" = some none)
    (y6 : PySem.W.nsIn K mainGlobals "isinstance" = some none)
    (y7 : PySem.W.nsIn K mainGlobals "len" = some none)
    (y8 : PySem.W.nsIn K mainGlobals "list" = some none)
    (y9 : PySem.W.nsIn K mainGlobals "range" = some none)
    (y10 : PySem.W.nsIn K mainGlobals "reversed" = some none)
    (y11 : PySem.W.nsIn K mainGlobals "set" = some none)
    (y12 : PySem.W.nsIn K mainGlobals "sorted" = some none)
    (y13 : PySem.W.nsIn K mainGlobals "str" = some none)
    (y14 : PySem.W.nsIn K mainGlobals "tuple" = some none)
    (y15 : PySem.W.nsIn K mainGlobals "SMALL_LETTERS" = some (some (.str "abcdefghijklmnopqrstuvwxyz" y0)))
    (y16 : PySem.W.nsIn K mainGlobals "FURTHER_SIGNS" = some (some (.str "abcdefghijklmnopqrstuvwxyz0123456789" y1)))
    (y17 : PySem.W.nsIn K mainGlobals "MOST_SIGNS" = some (some (.int 12 y2)))
    (y18 : FiK K "is_whole" s_is_whole)
    (y19 : FiK K "is_text_begun_by" s_is_text_begun_by)
    (y20 : FiK K "is_word" s_is_word)
    (y21 : FiK K "is_product" s_is_product)
    (y22 : FiK K "is_product_with_ways" s_is_product_with_ways)
    (y23 : FiK K "is_why" s_is_why)
    (y24 : FiK K "_law_cell_at" s__law_cell_at)
    (y25 : FiK K "_law_stream" s__law_stream)
    (y26 : FiK K "_law_word" s__law_word)
    (y27 : FiK K "_law_words" s__law_words)
    (y28 : FiK K "_law_why" s__law_why)
    (y29 : FiK K "_law_no_word" s__law_no_word)
    (y30 : FiK K "_law_spoiled_pair" s__law_spoiled_pair)
    (y31 : FiK K "_law_other_thing" s__law_other_thing)
    (y32 : FiK K "_law_spoiled" s__law_spoiled)
    (y33 : FiK K "law" s_law) : Txt K mg :=
  ⟨PySem.W.mg_none_of X G y3,
    PySem.W.mg_none_of X G y4,
    PySem.W.mg_none_of X G y5,
    PySem.W.mg_none_of X G y6,
    PySem.W.mg_none_of X G y7,
    PySem.W.mg_none_of X G y8,
    PySem.W.mg_none_of X G y9,
    PySem.W.mg_none_of X G y10,
    PySem.W.mg_none_of X G y11,
    PySem.W.mg_none_of X G y12,
    PySem.W.mg_none_of X G y13,
    PySem.W.mg_none_of X G y14,
    ⟨_, PySem.W.mg_of X G y15⟩,
    ⟨_, PySem.W.mg_of X G y16⟩,
    ⟨_, PySem.W.mg_of X G y17⟩,
    y18.top X G (fun _ _ _ _ _ _ => us1 fun _ => rfl),
    y19.top X G (fun _ _ _ _ _ _ => us2 fun _ _ => rfl),
    y20.top X G (fun _ _ _ _ _ _ => us1 fun _ => rfl),
    y21.top X G (fun _ _ _ _ _ _ => us1 fun _ => rfl),
    y22.top X G (fun _ _ _ _ _ _ => us1 fun _ => rfl),
    y23.top X G (fun _ _ _ _ _ _ => us1 fun _ => rfl),
    y24.top X G (fun _ _ _ _ _ _ => us2 fun _ _ => rfl),
    y25.top X G (fun _ _ _ _ _ _ => us2 fun _ _ => rfl),
    y26.top X G (fun _ _ _ _ _ _ => us2 fun _ _ => rfl),
    y27.top X G (fun _ _ _ _ _ _ => us2 fun _ _ => rfl),
    y28.top X G (fun _ _ _ _ _ _ => us3 fun _ _ _ => rfl),
    y29.top X G (fun _ _ _ _ _ _ => us2 fun _ _ => rfl),
    y30.top X G (fun _ _ _ _ _ _ => us4 fun _ _ _ _ => rfl),
    y31.top X G (fun _ _ _ _ _ _ => us1 fun _ => rfl),
    y32.top X G (fun _ _ _ _ _ _ => us4 fun _ _ _ _ => rfl),
    y33.top X G (fun _ _ _ _ _ _ => us1 fun _ => rfl)⟩
end Wy
open PySem PySem.W PyProof.Rows
set_option maxRecDepth 100000 in
set_option maxHeartbeats 0 in
theorem PySem.Challenge.cw_whyrows_k15_what_is_a_why_holds : PySem.Challenge.rw_whyrows_k15_what_is_a_why.Holds := by
  w_on; o_law; k_head; (case hw => w_witness2)
  k_fill
  refine L2.walk_ofK (l := PySem.Challenge.rw_whyrows_k15_what_is_a_why) (n := 63) (k := 6) (x := "_law_script") (CX := L2.CX0) (sp := Wy.sp_law) rfl (by decide) rfl ⟨rfl, by decide, by decide⟩ (fun w h Y => PySem.W.kIn_of Y) ?F ?S ?C
  case F =>
    intro w mg fa h KX G hmg
    have T : Wy.Txt (L2.KOf KX) mg := by
      dsimp only [L2.KOf]
      refine' Wy.txt_mk KX G ?_ ?_ ?_ ?_ ?_ ?_ ?_ ?_ ?_ ?_ ?_ ?_ ?_ ?_ ?_ ?_ ?_ ?_ ?_ ?_ ?_ ?_ ?_ ?_ ?_ ?_ ?_ ?_ ?_ ?_ ?_
      all_goals first | (refine' L2.fiK ?_ ?_ ?_ ?_; all_goals first | k_is | skip) | (refine' L2.miK ?_ ?_ ?_ ?_ ?_ ?_; all_goals first | k_is | skip) | (refine' L2.ciK ?_ ?_ ?_ ?_ ?_ ?_ ?_; all_goals first | k_is | skip) | (refine' L2.aiK ?_ ?_; all_goals first | k_is | skip) | k_is | skip
    exact Wy.ok_law T hmg
  case S => exact fun K H a ns hl hO hS => ⟨a, ns, rfl, hS, hl, fun _ => rfl⟩
  case C => exact fun _ _ _ _ z => z
