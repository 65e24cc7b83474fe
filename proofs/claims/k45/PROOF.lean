import PyProof.Rows.All
import Wide.All
import OpenK.AllK
import PySem.Challenge.RW_whyrows_k45_no_instance_lacks
set_option Elab.async false
set_option linter.all false
set_option maxRecDepth 100000
set_option maxHeartbeats 4000000
namespace Tim
open PySem PyProof.Rows
def kx (rk : Keyed → Int) (xs : Array Keyed) (i : Nat) : Int := match xs[i]? with
  | some p => rk p
  | none => 0
def Up (rk : Keyed → Int) (xs : Array Keyed) (lo hi : Nat) : Prop := ∀ i j, lo ≤ i → i ≤ j → j < hi → kx rk xs i ≤ kx rk xs j
def Dn (rk : Keyed → Int) (xs : Array Keyed) (lo hi : Nat) : Prop := ∀ i j, lo ≤ i → i ≤ j → j < hi → kx rk xs j ≤ kx rk xs i
theorem kx_of {rk : Keyed → Int} {xs : Array Keyed} {i : Nat} {p : Keyed} (h : xs[i]? = some p) : kx rk xs i = rk p := by unfold kx; rw [h]
theorem kx_same {rk : Keyed → Int} {xs ys : Array Keyed} {i j : Nat} (h : xs[i]? = ys[j]?) : kx rk xs i = kx rk ys j := by unfold kx; rw [h]
def LtOk (M : Model) (A : Around) (E : Value → Shared → Prop) (s : Shared) (kd : SortKind) (S : Keyed → Prop) (rk : Keyed → Int) : Prop :=
  ∀ (x y : Keyed) (st : SortSt) (Q : Option Bool → SortSt → Prop), S x → S y → kindOf st = kd → Q (some (decide (rk x < rk y))) st → wpS M A E s (lt' x y) Q st
structure Mv (lo hi : Nat) (st st' : SortSt) : Prop where
  perm : (arrOf st').Perm (arrOf st)
  out : ∀ k, k < lo ∨ hi ≤ k → (arrOf st')[k]? = (arrOf st)[k]?
  kind : kindOf st' = kindOf st
  pend : pendingOf st' = pendingOf st
  failed : failedOf st' = failedOf st
theorem Mv.refl (lo hi : Nat) (st : SortSt) : Mv lo hi st st := ⟨Array.Perm.refl _, fun _ _ => rfl, rfl, rfl, rfl⟩
theorem Mv.trans {lo hi : Nat} {a b c : SortSt} (h : Mv lo hi a b) (k : Mv lo hi b c) : Mv lo hi a c :=
  ⟨k.perm.trans h.perm, fun i hi => (k.out i hi).trans (h.out i hi), k.kind.trans h.kind, k.pend.trans h.pend, k.failed.trans h.failed⟩
theorem Mv.wide {lo hi lo' hi' : Nat} {a b : SortSt} (h : Mv lo hi a b) (h1 : lo' ≤ lo) (h2 : hi ≤ hi') : Mv lo' hi' a b :=
  ⟨h.perm, fun k hk => h.out k (by omega), h.kind, h.pend, h.failed⟩
theorem Mv.size {lo hi : Nat} {a b : SortSt} (h : Mv lo hi a b) : (arrOf b).size = (arrOf a).size := h.perm.size_eq
structure Sane (kd : SortKind) (S : Keyed → Prop) (n : Nat) (st : SortSt) : Prop where
  size : (arrOf st).size = n
  all : ∀ p ∈ (arrOf st).toList, S p
  kind : kindOf st = kd
  failed : failedOf st = none
theorem Mv.sane {lo hi : Nat} {a b : SortSt} {kd : SortKind} {S : Keyed → Prop} {n : Nat} (h : Mv lo hi a b) (k : Sane kd S n a) : Sane kd S n b :=
  ⟨h.size.trans k.size, fun p hp => k.all p ((Array.perm_iff_toList_perm.mp h.perm).mem_iff.mp hp), h.kind.trans k.kind, h.failed.trans k.failed⟩
theorem Sane.at {kd : SortKind} {S : Keyed → Prop} {n : Nat} {st : SortSt} (rk : Keyed → Int) (k : Sane kd S n st) {i : Nat} (hi : i < n) : ∃ p, (arrOf st)[i]? = some p ∧ S p ∧ kx rk (arrOf st) i = rk p := by
  have hi' : i < (arrOf st).size := by rw [k.size]; exact hi
  have e : (arrOf st)[i]? = some (arrOf st)[i] := getElem?_pos _ i hi'
  exact ⟨_, e, k.all _ (by simp), kx_of e⟩
theorem Mv.mirrored {lo hi i j : Nat} {st : SortSt} (h1 : lo ≤ i) (h2 : j ≤ hi) (hj : j ≤ (arrOf st).size) : Mv lo hi st (setArr st (mirror (arrOf st) i j ((j - i) / 2))) :=
  ⟨mirror_perm _ _ _ _, fun k hk => (getElem?_mirror_all (i := i) hj k).trans (if_neg (by (clear hj; omega))), rfl, rfl, rfl⟩
theorem Mv.sunk {lo hi src d : Nat} {st : SortSt} (h1 : lo + d ≤ src) (h2 : src < hi) (hs : src < (arrOf st).size) : Mv lo hi st (setArr st (bubble (arrOf st) src d)) :=
  ⟨bubble_perm _ _ _, fun k hk => (getElem?_bubble hs d (by (clear hk hs h2; omega)) k).trans (by rw [if_neg (by (clear hs; omega)), if_neg (by (clear hs; omega))]), rfl, rfl, rfl⟩
theorem kx_mirror (rk : Keyed → Int) {xs : Array Keyed} {i j : Nat} (hj : j ≤ xs.size) (k : Nat) :
    kx rk (mirror xs i j ((j - i) / 2)) k = if i ≤ k ∧ k < j then kx rk xs (i + j - 1 - k) else kx rk xs k := by
  have e := getElem?_mirror_all (i := i) hj k
  by_cases c : i ≤ k ∧ k < j
  · rw [if_pos c] at e ⊢
    exact kx_same e
  · rw [if_neg c] at e ⊢
    exact kx_same e
theorem kx_mirror_level (rk : Keyed → Int) {xs : Array Keyed} {i j : Nat} (hj : j ≤ xs.size) (he : ∀ k, i ≤ k → k < j → kx rk xs k = kx rk xs (j - 1)) (k : Nat) :
    kx rk (mirror xs i j ((j - i) / 2)) k = kx rk xs k := by
  rw [kx_mirror rk hj]
  by_cases c : i ≤ k ∧ k < j
  · rw [if_pos c, he _ (by (clear hj; omega)) (by (clear hj; omega)), he k c.1 c.2]
  · rw [if_neg c]
theorem kx_bubble (rk : Keyed → Int) {xs : Array Keyed} {src d : Nat} (hs : src < xs.size) (hd : d ≤ src) (k : Nat) :
    kx rk (bubble xs src d) k = if k = src - d then kx rk xs src else if src - d < k ∧ k ≤ src then kx rk xs (k - 1) else kx rk xs k := by
  have e := getElem?_bubble hs d hd k
  by_cases c : k = src - d
  · rw [if_pos c] at e ⊢
    exact kx_same e
  · rw [if_neg c] at e ⊢
    by_cases c2 : src - d < k ∧ k ≤ src
    · rw [if_pos c2] at e ⊢
      exact kx_same e
    · rw [if_neg c2] at e ⊢
      exact kx_same e
section
variable {M : Model} {A : Around} {E : Value → Shared → Prop} {s : Shared} {kd : SortKind} {S : Keyed → Prop} {rk : Keyed → Int} {n : Nat}
theorem w_ltAt (L : LtOk M A E s kd S rk) {st : SortSt} (B : Sane kd S n st) {i j : Nat} (hi : i < n) (hj : j < n) {Q : Option Bool → SortSt → Prop}
    (h : Q (some (decide (kx rk (arrOf st) i < kx rk (arrOf st) j))) st) : wpS M A E s (ltAt' i j) Q st := by
  obtain ⟨p, e1, s1, k1⟩ := B.at rk hi
  obtain ⟨q, e2, s2, k2⟩ := B.at rk hj
  rw [k1, k2] at h
  rw [ltAt'_eq]
  refine wpS_bind (wpS_get ?_)
  show wpS M A E s (elem' (arrOf st) i >>= fun x => elem' (arrOf st) j >>= fun y => lt' x y) Q st
  rw [elem'_eq, elem'_eq, e1, e2]
  exact wpS_bind (wpS_pure (wpS_bind (wpS_pure (L p q st Q s1 s2 B.kind h))))
theorem w_reverse {st : SortSt} {i j : Nat} {Q : Unit → SortSt → Prop} (h : Q () (setArr st (mirror (arrOf st) i j ((j - i) / 2)))) : wpS M A E s (reverseSlice' i j) Q st := by
  rw [reverseSlice'_eq]
  exact wpS_modify h
def upLoop (lo a nrem : Nat) : StateT SortSt Sem AscSt :=
  forIn [a:nrem] ((none, a) : AscSt) fun _ c => do
    let x ← ltAt' (lo + c.snd) (lo + c.snd - 1)
    match x with
    | some b => if b = true then pure (ForInStep.done (none, c.snd)) else pure (ForInStep.yield (none, c.snd + 1))
    | _ => pure (ForInStep.done (some none, c.snd))
def upTail (lo m nrem : Nat) : StateT SortSt Sem (Option Nat) := do
  reverseSlice' lo (lo + m)
  let c ← upLoop lo m nrem
  match c.fst with
  | some r => pure r
  | none => pure (some c.snd)
def dnLoop (lo m nrem : Nat) : StateT SortSt Sem DescSt :=
  forIn [m:nrem] ((none, m, 0) : DescSt) fun _ c => do
    let x ← ltAt' (lo + c.snd.fst) (lo + c.snd.fst - 1)
    match x with
    | some b =>
      if b = true then
        if c.snd.snd > 0 then do
          reverseSlice' (lo + c.snd.fst - (c.snd.snd + 1)) (lo + c.snd.fst)
          pure (ForInStep.yield (none, c.snd.fst + 1, 0))
        else pure (ForInStep.yield (none, c.snd.fst + 1, 0))
      else do
        let y ← ltAt' (lo + c.snd.fst - 1) (lo + c.snd.fst)
        match y with
        | some g => if g = true then pure (ForInStep.done (none, c.snd.fst, c.snd.snd)) else pure (ForInStep.yield (none, c.snd.fst + 1, c.snd.snd + 1))
        | _ => pure (ForInStep.done (some none, c.snd.fst, c.snd.snd))
    | _ => pure (ForInStep.done (some none, c.snd.fst, c.snd.snd))
def dnPart (lo m nrem : Nat) : StateT SortSt Sem (Option Nat) := do
  liftM (rule "list.sort.descending-run")
  let c ← dnLoop lo (m + 1) nrem
  match c.fst with
  | some r => pure r
  | none =>
    if c.snd.snd > 0 then do
      reverseSlice' (lo + c.snd.fst - (c.snd.snd + 1)) (lo + c.snd.fst)
      upTail lo c.snd.fst nrem
    else upTail lo c.snd.fst nrem
theorem countRun_at (lo nrem : Nat) : countRun' lo nrem = (do
    let c ← upLoop lo 1 nrem
    match c.fst with
    | some r => pure r
    | none =>
      if (c.snd == nrem) = true then pure (some c.snd)
      else if c.snd > 1 then do
        let x ← ltAt' lo (lo + c.snd - 1)
        match x with
        | some rose => if rose = true then pure (some c.snd) else do
            reverseSlice' lo (lo + c.snd)
            dnPart lo c.snd nrem
        | _ => pure none
      else dnPart lo c.snd nrem) := by
  rw [countRun'_eq]
  dsimp only
  unfold dnPart upTail dnLoop upLoop
  congr 1
  funext c
  obtain ⟨r, m⟩ := c
  cases r with
  | some r => rfl
  | none =>
    dsimp only
    split
    · rfl
    · split
      · congr 1
        funext x
        cases x with
        | none => rfl
        | some rose =>
          dsimp only
          split
          · rfl
          · congr 1
            funext _u
            congr 1
            funext _v
            congr 1
            congr 1
            funext c2
            obtain ⟨r2, n2, q2⟩ := c2
            cases r2 with
            | some r2 => rfl
            | none =>
              dsimp only
              split
              · congr 1
                funext _w
                congr 1
                funext _z
                congr 1
                funext c3
                obtain ⟨r3, n3⟩ := c3
                cases r3 <;> rfl
              · congr 1
                funext _z
                congr 1
                funext c3
                obtain ⟨r3, n3⟩ := c3
                cases r3 <;> rfl
      · congr 1
        funext _v
        congr 1
        congr 1
        funext c2
        obtain ⟨r2, n2, q2⟩ := c2
        cases r2 with
        | some r2 => rfl
        | none =>
          dsimp only
          split
          · congr 1
            funext _w
            congr 1
            funext _z
            congr 1
            funext c3
            obtain ⟨r3, n3⟩ := c3
            cases r3 <;> rfl
          · congr 1
            funext _z
            congr 1
            funext c3
            obtain ⟨r3, n3⟩ := c3
            cases r3 <;> rfl
theorem w_upLoop (L : LtOk M A E s kd S rk) {st : SortSt} {lo a nrem : Nat} {Q : AscSt → SortSt → Prop} (B : Sane kd S n st) (hn : lo + nrem ≤ n) (ha : 1 ≤ a) (han : a ≤ nrem) (hs : Up rk (arrOf st) lo (lo + a))
    (h : ∀ m, a ≤ m → m ≤ nrem → Up rk (arrOf st) lo (lo + m) → (m = nrem ∨ kx rk (arrOf st) (lo + m) < kx rk (arrOf st) (lo + m - 1)) → Q (none, m) st) : wpS M A E s (upLoop lo a nrem) Q st := by
  unfold upLoop
  refine wpS_forRange (I := fun x c st' => st' = st ∧ c = (none, x) ∧ Up rk (arrOf st) lo (lo + x)) ?turn ?last ⟨rfl, rfl, hs⟩
  case last =>
    rintro c st' ⟨rfl, rfl, hs'⟩
    have e : max a nrem = nrem := by (clear ha hn; omega)
    rw [e] at hs' ⊢
    exact h nrem han (Nat.le_refl _) hs' (.inl rfl)
  case turn =>
    rintro x c st' hax hxn ⟨rfl, rfl, hs'⟩
    dsimp only
    refine wpS_bind (w_ltAt L B (by (clear hax han ha; omega)) (by (clear hax han ha; omega)) ?_)
    by_cases hless : kx rk (arrOf st') (lo + x) < kx rk (arrOf st') (lo + x - 1)
    · simp only [hless, decide_true, if_true]
      exact wpS_pure (h x hax (by (clear hless hax han ha hn; omega)) hs' (.inr hless))
    · simp only [hless, decide_false, Bool.false_eq_true, if_false]
      refine wpS_pure ⟨rfl, rfl, fun i j h1 h2 h3 => ?_⟩
      by_cases hj : j < lo + x
      · exact hs' i j h1 h2 hj
      · have hj' : j = lo + x := by (clear h2 h1 hless hxn hax han ha hn; omega)
        subst hj'
        by_cases hi : i = lo + x
        · subst hi
          (clear h2 h1 hj h3 hless hxn hax han ha hn; omega)
        · have := hs' i (lo + x - 1) h1 (by (clear hj h3 h1 hless hxn hax han ha hn; omega)) (by (clear hi hj h3 h2 h1 hless hxn han hn; omega))
          (clear hi hj h3 h2 h1 hxn hax han ha hn; omega)
theorem w_upTail (L : LtOk M A E s kd S rk) {st : SortSt} {lo m nrem : Nat} {Q : Option Nat → SortSt → Prop} (B : Sane kd S n st) (hn : lo + nrem ≤ n) (h1 : 1 ≤ m) (hm : m ≤ nrem) (hs : Dn rk (arrOf st) lo (lo + m))
    (h : ∀ k st', Mv lo (lo + nrem) st st' → 1 ≤ k → k ≤ nrem → Up rk (arrOf st') lo (lo + k) → Q (some k) st') : wpS M A E s (upTail lo m nrem) Q st := by
  unfold upTail
  have hz : lo + m ≤ (arrOf st).size := by rw [B.size]; (clear h1; omega)
  have v : Mv lo (lo + nrem) st (setArr st (mirror (arrOf st) lo (lo + m) ((lo + m - lo) / 2))) := Mv.mirrored (Nat.le_refl _) (by (clear hz h1 hn; omega)) hz
  refine wpS_bind (w_reverse (wpS_bind (w_upLoop L (v.sane B) hn h1 hm ?_ fun k k1 k2 k3 _ => wpS_pure (h k _ v (by (clear k2 hz hm hn; omega)) k2 k3))))
  intro i j a b c
  show kx rk (mirror (arrOf st) lo (lo + m) ((lo + m - lo) / 2)) i ≤ kx rk (mirror (arrOf st) lo (lo + m) ((lo + m - lo) / 2)) j
  rw [kx_mirror rk hz, kx_mirror rk hz, if_pos (by (clear hz hm h1 hn; omega)), if_pos (by (clear hz hm h1 hn; omega))]
  exact hs _ _ (by (clear b a hz hm h1 hn; omega)) (by (clear c a hz hm h1 hn; omega)) (by (clear c b hz hm hn; omega))
theorem w_dnLoop (L : LtOk M A E s kd S rk) {st : SortSt} {lo m nrem : Nat} {Q : DescSt → SortSt → Prop} (B : Sane kd S n st) (hn : lo + nrem ≤ n) (h1 : 1 ≤ m) (hm : m ≤ nrem) (hs : Dn rk (arrOf st) lo (lo + m))
    (h : ∀ k q st', Mv lo (lo + nrem) st st' → m ≤ k → k ≤ nrem → Dn rk (arrOf st') lo (lo + k) → q + 1 ≤ k → (∀ i, lo + k - (q + 1) ≤ i → i < lo + k → kx rk (arrOf st') i = kx rk (arrOf st') (lo + k - 1)) → Q (none, k, q) st') :
    wpS M A E s (dnLoop lo m nrem) Q st := by
  unfold dnLoop
  refine wpS_forRange (I := fun x c st' => ∃ q, c = (none, x, q) ∧ Mv lo (lo + nrem) st st' ∧ Dn rk (arrOf st') lo (lo + x) ∧ q + 1 ≤ x ∧
    (∀ i, lo + x - (q + 1) ≤ i → i < lo + x → kx rk (arrOf st') i = kx rk (arrOf st') (lo + x - 1))) ?turn ?last ⟨0, rfl, Mv.refl _ _ _, hs, by (clear hm hn; omega), fun i a b => by rw [show i = lo + m - 1 by (clear hm h1 hn; omega)]⟩
  case last =>
    rintro c st' ⟨q, rfl, v, hs', hq, he⟩
    have e : max m nrem = nrem := by (clear hq h1 hn; omega)
    rw [e] at hs' hq he ⊢
    exact h nrem q st' v hm (Nat.le_refl _) hs' hq he
  case turn =>
    rintro x c st' hax hxn ⟨q, rfl, v, hs', hq, he⟩
    dsimp only
    have B' := v.sane B
    have hz : lo + x ≤ (arrOf st').size := by rw [B'.size]; (clear hq hax hm h1; omega)
    refine wpS_bind (w_ltAt L B' (by (clear hz hq hax hm h1; omega)) (by (clear hz hq hax hm h1; omega)) ?_)
    by_cases hless : kx rk (arrOf st') (lo + x) < kx rk (arrOf st') (lo + x - 1)
    · simp only [hless, decide_true, if_true]
      have more : ∀ xs : Array Keyed, (∀ k, kx rk xs k = kx rk (arrOf st') k) → Dn rk xs lo (lo + (x + 1)) := by
        intro xs hk i j a b c
        rw [hk, hk]
        by_cases hj : j < lo + x
        · exact hs' i j a b hj
        · have hj' : j = lo + x := by (clear b a hless hz hq hxn hax hm h1 hn; omega)
          subst hj'
          by_cases hi : i = lo + x
          · subst hi
            (clear b a hj c hless hz hq hxn hax hm h1 hn; omega)
          · have := hs' i (lo + x - 1) a (by (clear hj c a hless hz hq hxn hax hm h1 hn; omega)) (by (clear hi hj c b a hless hz hq hxn hm hn; omega))
            (clear hi hj c b a hz hq hxn hax hm h1 hn; omega)
      by_cases hq0 : q > 0
      · rw [if_pos hq0]
        exact wpS_bind (w_reverse (wpS_pure ⟨0, rfl, v.trans (Mv.mirrored (by (clear hq0 hless hz hxn hax hm h1 hn; omega)) (by (clear hq0 hless hz hq hax hm h1 hn; omega)) hz), more _ (kx_mirror_level rk hz he), by (clear hq0 hless hz hq hxn hax hm h1 hn; omega), fun i a b => by rw [show i = lo + (x + 1) - 1 by (clear hq0 hless hz hq hxn hax hm h1 hn; omega)]⟩))
      · rw [if_neg hq0]
        exact wpS_pure ⟨0, rfl, v, more _ (fun _ => rfl), by (clear hq0 hless hz hq hxn hax hm h1 hn; omega), fun i a b => by rw [show i = lo + (x + 1) - 1 by (clear hq0 hless hz hq hxn hax hm h1 hn; omega)]⟩
    · simp only [hless, decide_false, Bool.false_eq_true, if_false]
      refine wpS_bind (w_ltAt L B' (by (clear hless hz hq hax hm h1; omega)) (by (clear hless hz hq hax hm h1; omega)) ?_)
      by_cases hbig : kx rk (arrOf st') (lo + x - 1) < kx rk (arrOf st') (lo + x)
      · simp only [hbig, decide_true, if_true]
        exact wpS_pure (h x q st' v hax (by (clear hbig hless hz hq hax hm h1 hn; omega)) hs' hq he)
      · simp only [hbig, decide_false, Bool.false_eq_true, if_false]
        have ex : kx rk (arrOf st') (lo + x) = kx rk (arrOf st') (lo + x - 1) := by (clear hz hq hxn hax hm h1 hn; omega)
        refine wpS_pure ⟨q + 1, rfl, v, fun i j a b c => ?_, by (clear ex hbig hless hz hxn hax hm h1 hn; omega), fun i a b => ?_⟩
        · by_cases hj : j < lo + x
          · exact hs' i j a b hj
          · have hj' : j = lo + x := by (clear b a ex hbig hless hz hq hxn hax hm h1 hn; omega)
            subst hj'
            by_cases hi : i = lo + x
            · subst hi
              (clear b a hj c ex hbig hless hz hq hxn hax hm h1 hn; omega)
            · have := hs' i (lo + x - 1) a (by (clear hj c a ex hbig hless hz hq hxn hax hm h1 hn; omega)) (by (clear hi hj c b a ex hbig hless hz hq hxn hm hn; omega))
              (clear hi hj c b a ex hless hz hq hxn hax hm h1 hn; omega)
        · rw [show lo + (x + 1) - 1 = lo + x by (clear b a ex hbig hless hz hq hxn hax hm h1 hn; omega)]
          by_cases hi : i = lo + x
          · rw [hi]
          · rw [ex]
            exact he i (by (clear hi b ex hbig hless hz hq hxn hax hm h1 hn; omega)) (by (clear a ex hbig hless hz hq hxn hax hm h1 hn; omega))
theorem w_dnPart (L : LtOk M A E s kd S rk) {st : SortSt} {lo m nrem : Nat} {Q : Option Nat → SortSt → Prop} (B : Sane kd S n st) (hn : lo + nrem ≤ n) (hm : m + 1 ≤ nrem) (hs : Dn rk (arrOf st) lo (lo + (m + 1)))
    (h : ∀ k st', Mv lo (lo + nrem) st st' → 1 ≤ k → k ≤ nrem → Up rk (arrOf st') lo (lo + k) → Q (some k) st') : wpS M A E s (dnPart lo m nrem) Q st := by
  unfold dnPart
  refine wpS_bind (wpS_lift (wpAny_rule ⟨rfl, ?_⟩))
  refine wpS_bind (w_dnLoop L B hn (by (clear hm hn; omega)) hm hs fun k q st' v k1 k2 hs' hq he => ?_)
  dsimp only
  have B' := v.sane B
  have hz : lo + k ≤ (arrOf st').size := by rw [B'.size]; (clear hq k1 hm; omega)
  by_cases hq0 : q > 0
  · rw [if_pos hq0]
    have v2 : Mv lo (lo + nrem) st' (setArr st' (mirror (arrOf st') (lo + k - (q + 1)) (lo + k) ((lo + k - (lo + k - (q + 1))) / 2))) := Mv.mirrored (by (clear hq0 hz k2 k1 hm hn; omega)) (by (clear hq0 hz hq k1 hm hn; omega)) hz
    refine wpS_bind (w_reverse (w_upTail L (v2.sane B') hn (by (clear hq0 hz hq k2 hm hn; omega)) k2 ?_ fun j st2 v3 => h j st2 ((v.trans v2).trans v3)))
    intro i j a b c
    show kx rk (mirror (arrOf st') (lo + k - (q + 1)) (lo + k) ((lo + k - (lo + k - (q + 1))) / 2)) j ≤ kx rk (mirror (arrOf st') (lo + k - (q + 1)) (lo + k) ((lo + k - (lo + k - (q + 1))) / 2)) i
    rw [kx_mirror_level rk hz he, kx_mirror_level rk hz he]
    exact hs' i j a b c
  · rw [if_neg hq0]
    exact w_upTail L B' hn (by (clear hq0 hz hq k2 hm hn; omega)) k2 hs' fun j st2 v3 => h j st2 (v.trans v3)
theorem w_countRun (L : LtOk M A E s kd S rk) {st : SortSt} {lo nrem : Nat} {Q : Option Nat → SortSt → Prop} (B : Sane kd S n st) (hn : lo + nrem ≤ n) (h1 : 1 ≤ nrem)
    (h : ∀ k st', Mv lo (lo + nrem) st st' → 1 ≤ k → k ≤ nrem → Up rk (arrOf st') lo (lo + k) → Q (some k) st') : wpS M A E s (countRun' lo nrem) Q st := by
  rw [countRun_at]
  refine wpS_bind (w_upLoop L B hn (Nat.le_refl 1) h1 (fun i j a b c => by rw [show i = j by (clear h1 hn; omega)]; exact Int.le_refl _) fun m m1 m2 hs hor => ?_)
  dsimp only
  by_cases hm : m = nrem
  · rw [if_pos (by simpa using hm)]
    exact wpS_pure (h m st (Mv.refl _ _ _) m1 m2 hs)
  · rw [if_neg (by simpa using hm)]
    have hlt := hor.resolve_left hm
    by_cases hg : m > 1
    · rw [if_pos hg]
      refine wpS_bind (w_ltAt L B (by (clear hg hlt hm hor m2 m1; omega)) (by (clear hg hlt hm hor m1; omega)) ?_)
      by_cases hrose : kx rk (arrOf st) lo < kx rk (arrOf st) (lo + m - 1)
      · simp only [hrose, decide_true, if_true]
        exact wpS_pure (h m st (Mv.refl _ _ _) m1 m2 hs)
      · simp only [hrose, decide_false, Bool.false_eq_true, if_false]
        have hz : lo + m ≤ (arrOf st).size := by rw [B.size]; (clear hrose hg hlt hm hor m1 h1; omega)
        have lev : ∀ k, lo ≤ k → k < lo + m → kx rk (arrOf st) k = kx rk (arrOf st) (lo + m - 1) := by
          intro k a b
          have a1 := hs lo k (Nat.le_refl _) a b
          have a2 := hs k (lo + m - 1) a (by (clear a1 a hz hrose hg hlt hm hor m2 m1 h1 hn; omega)) (by (clear a1 b a hz hrose hg hlt hm hor m2 h1 hn; omega))
          (clear b a hz hg hlt hm hor m2 m1 h1 hn; omega)
        have v : Mv lo (lo + nrem) st (setArr st (mirror (arrOf st) lo (lo + m) ((lo + m - lo) / 2))) := Mv.mirrored (Nat.le_refl _) (by (clear hz hrose hg hlt hm hor m1 h1 hn; omega)) hz
        refine wpS_bind (w_reverse (w_dnPart L (v.sane B) hn (by (clear hz hrose hg hlt hor m1 h1 hn; omega)) ?_ fun j st2 v3 => h j st2 (v.trans v3)))
        intro i j a b c
        show kx rk (mirror (arrOf st) lo (lo + m) ((lo + m - lo) / 2)) j ≤ kx rk (mirror (arrOf st) lo (lo + m) ((lo + m - lo) / 2)) i
        rw [kx_mirror_level rk hz lev, kx_mirror_level rk hz lev]
        by_cases hj : j < lo + m
        · rw [lev i a (by (clear c a hz hrose hg hlt hm hor m2 m1 h1 hn; omega)), lev j (by (clear hj c hz hrose hg hlt hm hor m2 m1 h1 hn; omega)) hj]
          exact Int.le_refl _
        · have hj' : j = lo + m := by (clear b a hz hrose hg hlt hm hor m2 m1 h1 hn; omega)
          subst hj'
          by_cases hi : i = lo + m
          · subst hi
            (clear b a hj c hz hrose hg hlt hm hor m2 m1 h1 hn; omega)
          · rw [lev i a (by (clear hj c a hz hrose hg hlt hm hor m2 m1 h1 hn; omega))]
            (clear hi hj c b a hz hrose hg hlt m2 m1 h1 hn; omega)
    · rw [if_neg hg]
      have hm1 : m = 1 := by (clear hlt hm hor m2 h1 hn; omega)
      subst hm1
      refine w_dnPart L B hn (by (clear hg hlt hor m2 m1 hn; omega)) ?_ h
      intro i j a b c
      by_cases hi : i = j
      · rw [hi]
        exact Int.le_refl _
      · have e1 : i = lo := by (clear hg hlt hm hor m2 m1 h1 hn; omega)
        have e2 : j = lo + 1 := by (clear e1 hg hlt hm hor m2 m1 h1 hn; omega)
        subst e1 e2
        have : i + 1 - 1 = i := by (clear c hi b a hlt hor hn hg hm m2 m1 h1; omega)
        rw [this] at hlt
        (clear this c hi b a hor hn hg hm m2 m1 h1; omega)
theorem w_binarySort (L : LtOk M A E s kd S rk) {st : SortSt} {lo m ok : Nat} {Q : Bool → SortSt → Prop} (B : Sane kd S n st) (hn : lo + m ≤ n) (hok : ok ≤ m) (hs : Up rk (arrOf st) lo (lo + ok))
    (h : ∀ st', Mv lo (lo + m) st st' → Up rk (arrOf st') lo (lo + m) → Q true st') : wpS M A E s (binarySort' lo m ok) Q st := by
  rw [binarySort'_eq]
  refine wpS_bind (wpS_mono (wpS_forRange (I := fun k c st' => c = (none, ()) ∧ Mv lo (lo + m) st st' ∧ Up rk (arrOf st') lo (lo + min k m))
    (Q := fun c st' => c = (none, ()) ∧ Mv lo (lo + m) st st' ∧ Up rk (arrOf st') lo (lo + m)) ?turn ?last ?first) ?after)
  case after =>
    rintro c st' ⟨rfl, v, hs'⟩
    exact wpS_pure (h st' v hs')
  case first =>
    refine ⟨rfl, Mv.refl _ _ _, fun i j a b c => ?_⟩
    by_cases h0 : ok = 0
    · rw [show i = j by (clear hok hn; omega)]
      exact Int.le_refl _
    · exact hs i j a b (by (clear b a hok hn; omega))
  case last =>
    rintro c st' ⟨hc, v, hs'⟩
    refine ⟨hc, v, ?_⟩
    rwa [show min (max (max ok 1) m) m = m by (clear hc hok hn; omega)] at hs'
  case turn =>
    rintro k c st' hak hkm ⟨rfl, v, hs'⟩
    have e0 : min k m = k := by (clear hak hok hn; omega)
    rw [e0] at hs'
    have B' := v.sane B
    refine wpS_bind (wpS_mono (wpS_forRange (I := fun x c st2 => st2 = st' ∧ ∃ l r, c = (none, l, r) ∧ l ≤ r ∧ r ≤ k ∧ r - l ≤ k - x ∧
        (∀ i, i < l → kx rk (arrOf st') (lo + i) ≤ kx rk (arrOf st') (lo + k)) ∧ (∀ i, r ≤ i → i < k → kx rk (arrOf st') (lo + k) < kx rk (arrOf st') (lo + i)))
      (Q := fun c st2 => st2 = st' ∧ ∃ l r, c = (none, l, r) ∧ l ≤ k ∧
        (∀ i, i < l → kx rk (arrOf st') (lo + i) ≤ kx rk (arrOf st') (lo + k)) ∧ (∀ i, l ≤ i → i < k → kx rk (arrOf st') (lo + k) < kx rk (arrOf st') (lo + i))) ?iturn ?ilast ?ifirst) ?iafter)
    case ifirst => exact ⟨rfl, 0, k, rfl, by (clear e0 hkm hak hok hn; omega), by (clear e0 hkm hak hok hn; omega), by (clear e0 hkm hak hok hn; omega), fun i hi => by (clear e0 hkm hak hok hn; omega), fun i a b => by (clear e0 hkm hak hok hn; omega)⟩
    case ilast =>
      rintro c st2 ⟨rfl, l, r, rfl, hlr, hrk, hd, hlo, hhi⟩
      have e : l = r := by (clear hrk e0 hkm hak hok hn; omega)
      subst e
      exact ⟨rfl, l, l, rfl, hrk, hlo, hhi⟩
    case iturn =>
      rintro x c st2 _ hxk ⟨rfl, l, r, rfl, hlr, hrk, hd, hlo, hhi⟩
      dsimp only
      by_cases hge : l ≥ r
      · rw [if_pos hge]
        have e : l = r := by (clear hd hrk hxk e0 hkm hak hok hn; omega)
        subst e
        exact wpS_pure ⟨rfl, l, l, rfl, hrk, hlo, hhi⟩
      · rw [if_neg hge]
        refine wpS_bind (w_ltAt L B' (by (clear hge hd hrk hlr hxk e0 hak hok; omega)) (by (clear hge hd hxk e0 hak hok; omega)) ?_)
        by_cases hless : kx rk (arrOf st2) (lo + k) < kx rk (arrOf st2) (lo + (l + r) / 2)
        · simp only [hless, decide_true, if_true]
          refine wpS_pure ⟨rfl, l, (l + r) / 2, rfl, by (clear hless hge hd hrk hxk e0 hkm hak hok hn; omega), by (clear hless hge hd hxk e0 hkm hak hok hn; omega), by (clear hless hge hrk hlr hxk e0 hkm hak hok hn; omega), hlo, fun i a b => ?_⟩
          have := hs' (lo + (l + r) / 2) (lo + i) (by (clear b a hless hge hd hrk hlr hxk e0 hkm hak hok hn; omega)) (by (clear b hless hge hd hrk hlr hxk e0 hkm hak hok hn; omega)) (by (clear a hless hge hd hrk hlr hxk e0 hkm hak hok hn; omega))
          (clear b a hge hd hrk hlr hxk e0 hkm hak hok hn; omega)
        · simp only [hless, decide_false, Bool.false_eq_true, if_false]
          refine wpS_pure ⟨rfl, (l + r) / 2 + 1, r, rfl, by (clear hless hd hrk hlr hxk e0 hkm hak hok hn; omega), by (clear hless hge hd hlr hxk e0 hkm hak hok hn; omega), by (clear hless hge hrk hlr hxk e0 hkm hak hok hn; omega), fun i a => ?_, hhi⟩
          have := hs' (lo + i) (lo + (l + r) / 2) (by (clear a hless hge hd hrk hlr hxk e0 hkm hak hok hn; omega)) (by (clear hless hge hd hrk hlr hxk e0 hkm hak hok hn; omega)) (by (clear a hless hd hlr hxk e0 hkm hak hok hn; omega))
          (clear a hge hd hrk hlr hxk e0 hkm hak hok hn; omega)
    case iafter =>
      rintro c st2 ⟨rfl, l, r, rfl, hlk, hlo, hhi⟩
      show wpS M A E s (moveDown' (lo + k) (lo + l) >>= fun _ => pure (ForInStep.yield (none, ()))) _ st2
      rw [moveDown'_eq]
      have hz : lo + k < (arrOf st2).size := by rw [B'.size]; (clear hlk e0 hak hok; omega)
      refine wpS_bind (wpS_modify (wpS_pure ⟨rfl, v.trans (Mv.sunk (by (clear hz hlk e0 hkm hak hok hn; omega)) (by (clear hz hlk e0 hak hok hn; omega)) hz), ?_⟩))
      rw [show min (k + 1) m = k + 1 by (clear hz hlk e0 hak hok hn; omega)]
      intro i j a b c
      show kx rk (bubble (arrOf st2) (lo + k) (lo + k - (lo + l))) i ≤ kx rk (bubble (arrOf st2) (lo + k) (lo + k - (lo + l))) j
      rw [kx_bubble rk hz (by (clear c b a hz hlk e0 hkm hak hok hn; omega)), kx_bubble rk hz (by (clear c b a hz hlk e0 hkm hak hok hn; omega)), show lo + k - (lo + k - (lo + l)) = lo + l by (clear c b a hz e0 hkm hak hok hn; omega)]
      have low : ∀ q, lo ≤ q → q < lo + l → kx rk (arrOf st2) q ≤ kx rk (arrOf st2) (lo + k) := fun q a b => by
        have := hlo (q - lo) (by (clear c hz hlk e0 hkm hak hok hn; omega))
        rwa [show lo + (q - lo) = q by (clear this b c hz hlk e0 hkm hak hok hn; omega)] at this
      have high : ∀ q, lo + l ≤ q → q < lo + k → kx rk (arrOf st2) (lo + k) < kx rk (arrOf st2) q := fun q a b => by
        have := hhi (q - lo) (by (clear b c hz hlk e0 hkm hak hok hn; omega)) (by (clear a c hz hlk e0 hkm hok hn; omega))
        rwa [show lo + (q - lo) = q by (clear this b c hz hlk e0 hkm hak hok hn; omega)] at this
      repeat' split
      all_goals first
        | (exfalso; omega)
        | exact Int.le_refl _
        | exact low _ (by (clear c b hz hlk e0 hkm hak hok hn; omega)) (by (clear c a hz hlk e0 hkm hak hok hn; omega))
        | exact Int.le_of_lt (high _ (by (clear c b a hz hlk e0 hkm hak hok hn; omega)) (by (clear c b a hz hlk e0 hkm hak hok hn; omega)))
        | exact hs' _ _ (by omega) (by omega) (by omega)
end
end Tim
namespace Tim
section
variable {α : Type} {rk : α → Int} {as bs out : List α} {ia ib : Nat}
end
end Tim
namespace Tim
open PySem PyProof.Rows
section
variable {M : Model} {A : Around} {E : Value → Shared → Prop} {s : Shared} {kd : SortKind} {S : Keyed → Prop} {rk : Keyed → Int}
end
end Tim
namespace Tim
open PySem PyProof.Rows
section
variable {rk : Keyed → Int} {a b o : Array Keyed} {x y : Nat}
theorem kx_list (xs : Array Keyed) (i : Nat) {p : Keyed} (h : xs.toList[i]? = some p) : kx rk xs i = rk p := kx_of (by rw [← h, Array.getElem?_toList])
end
section
variable {S : Keyed → Prop} {rk : Keyed → Int} {a b o : Array Keyed} {x y : Nat}
end
section
variable {M : Model} {A : Around} {E : Value → Shared → Prop} {s : Shared} {kd : SortKind} {S : Keyed → Prop} {rk : Keyed → Int} {a b : Array Keyed} {st : SortSt}
end
end Tim
namespace Tim
open PySem PyProof.Rows
section
variable {rk : Keyed → Int} {a b o : Array Keyed} {x y : Nat}
end
section
variable {S : Keyed → Prop} {rk : Keyed → Int} {a b o : Array Keyed} {x y : Nat}
end
section
variable {M : Model} {A : Around} {E : Value → Shared → Prop} {s : Shared} {kd : SortKind} {S : Keyed → Prop} {rk : Keyed → Int} {a b : Array Keyed} {st : SortSt}
end
end Tim
namespace Tim
open PySem PyProof.Rows
section
variable {rk : Keyed → Int} {xs ys : Array Keyed}
end
section
variable {M : Model} {A : Around} {E : Value → Shared → Prop} {s : Shared} {kd : SortKind} {S : Keyed → Prop} {rk : Keyed → Int} {n : Nat}
end
end Tim
namespace Tim
open PySem PyProof.Rows
section
variable {M : Model} {A : Around} {E : Value → Shared → Prop} {s : Shared} {kd : SortKind} {S : Keyed → Prop} {rk : Keyed → Int} {n : Nat}
end
end Tim
namespace Tim
open PySem PyProof.Rows
def KLt (prog : Program) (w : World) (A : Around) (s : Shared) (kd : SortKind) (x y : Value) (r : Bool) : Prop :=
  ∀ (E : Value → Shared → Prop) (Q : Bool → Shared → Prop), Q r s → wpAny (model prog w) A (keyLt' kd x y) Q E s
theorem ltOk_of {prog : Program} {w : World} {A : Around} {E : Value → Shared → Prop} {s : Shared} {kd : SortKind} {S : Keyed → Prop} {rk : Keyed → Int} (h : ∀ x y, S x → S y → KLt prog w A s kd x.1 y.1 (decide (rk x < rk y))) :
    LtOk (model prog w) A E s kd S rk := by
  intro x y st Q sx sy hk q
  rw [lt'_eq]
  refine wpS_bind (wpS_get ?_)
  rw [hk]
  refine wpS_bind (wpS_lift (wpAny_attempt (h x y sx sy _ _ ⟨rfl, ?_⟩)))
  exact wpS_pure q
section
variable {α : Type}
theorem count_le {p q : α → Bool} : ∀ (l : List α), (∀ z ∈ l, p z = true → q z = true) → (l.filter p).length ≤ (l.filter q).length
  | [], _ => Nat.le_refl _
  | z :: l, h => by
    have ih := count_le (p := p) (q := q) l fun y hy => h y (List.mem_cons_of_mem _ hy)
    rw [List.filter_cons, List.filter_cons]
    cases e : p z with
    | true =>
      rw [h z (List.mem_cons_self ..) e]
      simp only [if_true, List.length_cons]
      omega
    | false =>
      cases q z with
      | true => simp only [Bool.false_eq_true, if_false, if_true, List.length_cons]; omega
      | false => simpa using ih
theorem count_lt {p q : α → Bool} {y : α} : ∀ (l : List α), (∀ z ∈ l, p z = true → q z = true) → y ∈ l → p y = false → q y = true → (l.filter p).length < (l.filter q).length
  | [], _, hy, _, _ => nomatch hy
  | z :: l, h, hy, h1, h2 => by
    have hl : ∀ w ∈ l, p w = true → q w = true := fun w hw => h w (List.mem_cons_of_mem _ hw)
    rw [List.filter_cons, List.filter_cons]
    rcases List.mem_cons.mp hy with rfl | hy
    · rw [h1, h2]
      have := count_le l hl
      simp only [Bool.false_eq_true, if_false, if_true, List.length_cons]
      omega
    · have ih := count_lt l hl hy h1 h2
      cases e : p z with
      | true =>
        rw [h z (List.mem_cons_self ..) e]
        simp only [if_true, List.length_cons]
        omega
      | false =>
        cases q z with
        | true => simp only [Bool.false_eq_true, if_false, if_true, List.length_cons]; omega
        | false => simpa using ih
def rank (lt : α → α → Bool) (l : List α) (x : α) : Int := ((l.filter fun y => lt y x).length : Nat)
theorem rank_lt {lt : α → α → Bool} {l : List α} (irr : ∀ x ∈ l, lt x x = false) (tr : ∀ x ∈ l, ∀ y ∈ l, ∀ z ∈ l, lt x y = true → lt y z = true → lt x z = true)
    (nt : ∀ x ∈ l, ∀ y ∈ l, ∀ z ∈ l, lt x z = true → lt x y = true ∨ lt y z = true) {x y : α} (hx : x ∈ l) (hy : y ∈ l) : lt x y = decide (rank lt l x < rank lt l y) := by
  unfold rank
  cases e : lt x y with
  | true =>
    have := count_lt (p := fun z => lt z x) (q := fun z => lt z y) l (fun z hz h => tr z hz x hx y hy h e) hx (irr x hx) e
    exact (decide_eq_true (by omega)).symm
  | false =>
    have := count_le (p := fun z => lt z y) (q := fun z => lt z x) l (fun z hz h => (nt z hz x hx y hy h).resolve_right (by rw [e]; exact Bool.false_ne_true))
    exact (decide_eq_false (by omega)).symm
end
structure Sorted (rk : Value → Int) (vs out : List Value) : Prop where
  perm : out.Perm vs
  asc : out.Pairwise fun x y => rk x ≤ rk y
theorem sorted_pairs {rk : Value → Int} {vs : List Value} {xs : Array Keyed} (hp : xs.Perm (pairsOf vs)) (hu : Up (fun p => rk p.1) xs 0 vs.length) : Sorted rk vs (xs.map (·.2)).toList := by
  have hl : xs.toList.Perm (vs.zip vs) := by
    rw [← pairsOf_toList]
    exact Array.perm_iff_toList_perm.mp hp
  have hsz : xs.size = vs.length := by
    rw [hp.size_eq, pairsOf_size]
  have same : ∀ p, p ∈ xs.toList → p.1 = p.2 := fun p h => (mem_zip_self (hl.mem_iff.mp h)).1
  refine ⟨?_, ?_⟩
  · rw [Array.toList_map]
    have := hl.map Prod.snd
    rwa [List.map_snd_zip (Nat.le_refl _)] at this
  · rw [Array.toList_map, List.pairwise_iff_getElem]
    intro i j hi hj hij
    rw [List.getElem_map, List.getElem_map]
    have hi' : i < xs.toList.length := by simpa using hi
    have hj' : j < xs.toList.length := by simpa using hj
    have := hu i j (Nat.zero_le _) (Nat.le_of_lt hij) (by rw [Array.length_toList] at hj'; omega)
    rw [kx_list xs i (List.getElem?_eq_getElem hi'), kx_list xs j (List.getElem?_eq_getElem hj')] at this
    rw [← same _ (List.getElem_mem hi'), ← same _ (List.getElem_mem hj')]
    exact this
section
variable {prog : Program} {w : World} {A : Around} {E : Value → Shared → Prop} {s : Shared}
def Keys (prog : Program) (w : World) (A : Around) (s : Shared) (a : Addr) (vs : List Value) (rk : Value → Int) : Prop := 2 ≤ vs.length → ∀ s' : Shared, (∀ b o, b ≠ a → s.heap.get? b = some o → s'.heap.get? b = some o) →
  ∃ kd : SortKind, (∀ (E : Value → Shared → Prop) (Q : SortKind → Shared → Prop), Q kd s' → wpAny (model prog w) A (keyKind' vs.toArray) Q E s') ∧ ∀ x ∈ vs, ∀ y ∈ vs, KLt prog w A s' kd x y (decide (rk x < rk y))
end
end Tim
namespace Tim
structure STO {α : Type} (lt : α → α → Bool) : Prop where
  irr : ∀ a, lt a a = false
  tr : ∀ a b c, lt a b = true → lt b c = true → lt a c = true
  tri : ∀ a b, lt a b = false → lt b a = false → a = b
section
variable {α β : Type}
theorem STO.asym {lt : α → α → Bool} (h : STO lt) {a b : α} (x : lt a b = true) : lt b a = false := by
  cases e : lt b a with
  | false => rfl
  | true =>
    have := h.tr a b a x e
    rw [h.irr] at this
    cases this
theorem STO.nt {lt : α → α → Bool} (h : STO lt) {a c : α} (b : α) (x : lt a c = true) : lt a b = true ∨ lt b c = true := by
  cases e : lt a b with
  | true => exact .inl rfl
  | false =>
    cases f : lt b a with
    | true => exact .inr (h.tr b a c f x)
    | false =>
      have := h.tri a b e f
      subst this
      exact .inr x
theorem STO.map {lt : α → α → Bool} (h : STO lt) (f : β → α) (inj : ∀ a b, f a = f b → a = b) : STO fun a b => lt (f a) (f b) :=
  ⟨fun a => h.irr _, fun a b c => h.tr _ _ _, fun a b x y => inj a b (h.tri _ _ x y)⟩
def lexB [DecidableEq α] (lt : α → α → Bool) : List α → List α → Bool
  | [], [] => false
  | [], _ :: _ => true
  | _ :: _, [] => false
  | a :: as, b :: bs => if a = b then lexB lt as bs else lt a b
theorem STO.lex [DecidableEq α] {lt : α → α → Bool} (h : STO lt) : STO (lexB lt) := by
  refine ⟨fun a => ?_, fun a => ?_, fun a => ?_⟩
  · induction a with
    | nil => rfl
    | cons x a ih => rw [lexB, if_pos rfl]; exact ih
  · induction a with
    | nil =>
      intro b c h1 h2
      cases c with
      | nil => cases b with
        | nil => exact h1
        | cons y b => cases h2
      | cons z c => rfl
    | cons x a ih =>
      intro b c h1 h2
      cases b with
      | nil => cases h1
      | cons y b =>
        cases c with
        | nil => cases h2
        | cons z c =>
          rw [lexB] at h1 h2 ⊢
          by_cases xy : x = y
          · subst xy
            rw [if_pos rfl] at h1
            by_cases xz : x = z
            · subst xz
              rw [if_pos rfl] at h2 ⊢
              exact ih b c h1 h2
            · rw [if_neg xz] at h2 ⊢
              exact h2
          · rw [if_neg xy] at h1
            by_cases yz : y = z
            · subst yz
              rw [if_neg xy]
              exact h1
            · rw [if_neg yz] at h2
              have hxz := h.tr x y z h1 h2
              have : ¬ x = z := fun e => by
                subst e
                rw [h.irr] at hxz
                cases hxz
              rw [if_neg this]
              exact hxz
  · induction a with
    | nil =>
      intro b h1 h2
      cases b with
      | nil => rfl
      | cons y b => cases h1
    | cons x a ih =>
      intro b h1 h2
      cases b with
      | nil => cases h2
      | cons y b =>
        rw [lexB] at h1 h2
        by_cases xy : x = y
        · subst xy
          rw [if_pos rfl] at h1 h2
          rw [ih b h1 h2]
        · rw [if_neg xy] at h1
          rw [if_neg (Ne.symm xy)] at h2
          exact absurd (h.tri x y h1 h2) xy
theorem sto_nat : STO (fun a b : Nat => decide (a < b)) :=
  ⟨fun a => by simp, fun a b c h1 h2 => by simp at *; omega, fun a b h1 h2 => by simp at *; omega⟩
theorem sto_int : STO (fun a b : Int => decide (a < b)) :=
  ⟨fun a => by simp, fun a b c h1 h2 => by simp at *; omega, fun a b h1 h2 => by simp at *; omega⟩
theorem lex_nat : ∀ (a b : List Nat), decide (a < b) = lexB (fun x y : Nat => decide (x < y)) a b
  | [], [] => rfl
  | [], _ :: _ => by simp [lexB]
  | _ :: _, [] => by simp [lexB]
  | x :: a, y :: b => by
    rw [lexB, ← lex_nat a b]
    by_cases e : x = y
    · subst e
      rw [if_pos rfl]
      simp
    · rw [if_neg e]
      have : (x :: a < y :: b) ↔ x < y := by
        rw [List.cons_lt_cons_iff]
        constructor
        · rintro (h | h)
          · exact h
          · exact absurd h.1 e
        · exact .inl
      simp [this]
theorem STO.uniq {lt : α → α → Bool} (h : STO lt) : ∀ {a b : List α}, a.Perm b → a.Pairwise (fun x y => lt y x = false) → b.Pairwise (fun x y => lt y x = false) → a = b
  | [], b, p, _, _ => (List.nil_perm.mp p).symm ▸ rfl
  | x :: a, [], p, _, _ => by have := p.length_eq; simp at this
  | x :: a, y :: b, p, pa, pb => by
    obtain ⟨pa1, pa2⟩ := List.pairwise_cons.mp pa
    obtain ⟨pb1, pb2⟩ := List.pairwise_cons.mp pb
    have e : x = y := by
      have hx : x ∈ y :: b := p.mem_iff.mp (List.mem_cons_self ..)
      have hy : y ∈ x :: a := p.mem_iff.mpr (List.mem_cons_self ..)
      rcases List.mem_cons.mp hx with e | hx
      · exact e
      · rcases List.mem_cons.mp hy with e | hy
        · exact e.symm
        · exact h.tri x y (pb1 x hx) (pa1 y hy)
    subst e
    rw [h.uniq (List.Perm.cons_inv p) pa2 pb2]
end
end Tim
namespace L2
open PySem PySem.Spec PyProof.Rows
abbrev Key := Sum Int Str
def keyIs : Key → Value → Bool
  | .inl k, v => Value.isInt k v
  | .inr x, v => Value.isStrOf x v
def keyH (w : World) : Key → Int
  | .inl k => hashInt k
  | .inr x => hashStr w x
theorem keyIs_shape : ∀ {k : Key} {v : Value}, keyIs k v = true → (∃ i t, k = Sum.inl i ∧ v = Value.int i t) ∨ (∃ x t, k = Sum.inr x ∧ v = Value.str x t)
  | .inl i, v, h => by
    obtain ⟨t, e⟩ := Value.isInt_shape (k := i) (v := v) h
    exact .inl ⟨i, t, rfl, e⟩
  | .inr x, v, h => by
    obtain ⟨t, e⟩ := Value.isStrOf_shape (x := x) (v := v) h
    exact .inr ⟨x, t, rfl, e⟩
theorem keyIs_int (i : Int) (t : Tok) : keyIs (.inl i) (.int i t) = true := by simp [keyIs, Value.isInt]
theorem keyIs_str (x : Str) (t : Tok) : keyIs (.inr x) (.str x t) = true := by simp [keyIs, Value.isStrOf]
theorem key_ll (a b : Int) : decide ((Sum.inl a : Key) = Sum.inl b) = (a == b) := by
  by_cases e : a = b
  · subst e; simp
  · have h : ¬ (Sum.inl a : Key) = Sum.inl b := fun q => e (Sum.inl.inj q)
    rw [decide_eq_false h]
    exact (beq_eq_false_iff_ne.mpr e).symm
theorem key_rr (a b : Str) : decide ((Sum.inr a : Key) = Sum.inr b) = decide (a = b) := by
  by_cases e : a = b
  · subst e; simp
  · have h : ¬ (Sum.inr a : Key) = Sum.inr b := fun q => e (Sum.inr.inj q)
    rw [decide_eq_false h, decide_eq_false e]
theorem key_lr (a : Int) (b : Str) : decide ((Sum.inl a : Key) = Sum.inr b) = false := decide_eq_false (fun q => nomatch q)
theorem key_rl (a : Str) (b : Int) : decide ((Sum.inr a : Key) = Sum.inl b) = false := decide_eq_false (fun q => nomatch q)
def mixKind (prog : Program) (w : World) : PySem.KeyKind prog w Key where
  is := keyIs
  hash := keyH w
  inj := fun v a b ha hb => by
    rcases keyIs_shape ha with ⟨i, t, rfl, rfl⟩ | ⟨x, t, rfl, rfl⟩
    · rcases keyIs_shape hb with ⟨j, u, rfl, e⟩ | ⟨y, u, rfl, e⟩
      · injection e with e1 _; rw [e1]
      · exact nomatch e
    · rcases keyIs_shape hb with ⟨j, u, rfl, e⟩ | ⟨y, u, rfl, e⟩
      · exact nomatch e
      · injection e with e1 _; rw [e1]
  byValue := fun k v h => by
    rcases keyIs_shape h with ⟨i, t, rfl, rfl⟩ | ⟨x, t, rfl, rfl⟩ <;> rfl
  pyHash := fun hv h => by
    rcases keyIs_shape hv with ⟨i, t, rfl, rfl⟩ | ⟨x, t, rfl, rfl⟩
    · exact wpAny_pyHash_int h
    · exact wpAny_pyHash_str h
  eqBool := fun hu hv h => by
    rcases keyIs_shape hu with ⟨i, t, rfl, rfl⟩ | ⟨x, t, rfl, rfl⟩
    · rcases keyIs_shape hv with ⟨j, u, rfl, rfl⟩ | ⟨y, u, rfl, rfl⟩
      · rw [key_ll] at h; exact wpAny_eqBool_int h
      · rw [key_lr] at h; exact SeqAt.EqAt.int_str i t y u _ _ _ _ h
    · rcases keyIs_shape hv with ⟨j, u, rfl, rfl⟩ | ⟨y, u, rfl, rfl⟩
      · rw [key_rl] at h; exact SeqAt.EqAt.str_int x t j u _ _ _ _ h
      · rw [key_rr] at h; exact wpAny_eqBool_str h
  «strs» := fun k x t v h => by
    rcases keyIs_shape h with ⟨i, u, rfl, e⟩ | ⟨y, u, rfl, e⟩
    · exact nomatch e
    · injection e with e1 _
      subst e1
      cases v <;> rfl
theorem mixKind_int (prog : Program) (w : World) (i : Int) (t : Tok) : (mixKind prog w).is (.inl i) (.int i t) = true := keyIs_int i t
theorem mixKind_str (prog : Program) (w : World) (x : Str) (t : Tok) : (mixKind prog w).is (.inr x) (.str x t) = true := keyIs_str x t
end L2
namespace L2
open PySem PySem.Spec PyProof.Rows
inductive V where
  | non | bl (b : Bool) | int (i : Int) | str (x : Str) | byt (b : Array UInt8) | flt (b : UInt64) | ref (a : Addr) | ty (n : String)
  deriving DecidableEq
def RelV : V → Value → Prop
  | .non, u => u = Value.none
  | .bl b, u => u = Value.bool b
  | .int i, u => ∃ t, u = Value.int i t
  | .str x, u => ∃ t, u = Value.str x t
  | .byt b, u => ∃ t, u = Value.bytes b t
  | .flt b, u => ∃ t, u = Value.float b t
  | .ref a, u => u = Value.ref a
  | .ty n, u => u = Value.type n
abbrev Vals : List V → List Value → Prop := Paired RelV
theorem Vals.length {xs : List V} {us : List Value} (r : Vals xs us) : xs.length = us.length := Paired.length r
theorem Vals.get : ∀ {xs : List V} {us : List Value} {i : Nat} {x : V}, Vals xs us → xs[i]? = some x → ∃ u, us[i]? = some u ∧ RelV x u
  | _, _, _, _, .nil, e => by simp at e
  | _, _, 0, _, .cons r _, e => by simp at e; subst e; exact ⟨_, rfl, r⟩
  | _, _, i + 1, x, .cons _ t, e => by
    obtain ⟨u, h1, h2⟩ := Vals.get (i := i) (x := x) t (by simpa using e)
    exact ⟨u, by simpa using h1, h2⟩
theorem Vals.append : ∀ {xs ys : List V} {us ws : List Value}, Vals xs us → Vals ys ws → Vals (xs ++ ys) (us ++ ws)
  | _, _, _, _, .nil, s => s
  | _, _, _, _, .cons r t, s => .cons r (Vals.append t s)
theorem Vals.take : ∀ {xs : List V} {us : List Value} (n : Nat), Vals xs us → Vals (xs.take n) (us.take n)
  | _, _, 0, _ => .nil
  | _, _, _ + 1, .nil => .nil
  | _, _, n + 1, .cons r t => .cons r (Vals.take n t)
theorem Vals.drop : ∀ {xs : List V} {us : List Value} (n : Nat), Vals xs us → Vals (xs.drop n) (us.drop n)
  | _, _, 0, r => r
  | _, _, _ + 1, .nil => .nil
  | _, _, n + 1, .cons _ t => Vals.drop n t
def RelO : Option V → Option Value → Prop
  | some v, some u => RelV v u
  | none, none => True
  | _, _ => False
def KV {κ : Type} : List (κ × V) → List (κ × Value) → Prop := Paired fun (p : κ × V) (q : κ × Value) => p.1 = q.1 ∧ RelV p.2 q.2
def kV : Key → V
  | .inl i => .int i
  | .inr x => .str x
inductive HO where
  /-- a list -/
  | lst (xs : List V)
  /-- a tuple (never changes) -/
  | tup (xs : List V)
  /-- a dict whose keys are ints and texts; one whose keys are tuples of ints and texts (the empty one is both) -/
  | dK (kvs : List (Key × V)) | dT (kvs : List (List Key × V))
  /-- a set of ints: its members, its size -/
  | set (S : Int → Bool) (n : Nat)
  /-- an instance of the class at C, its dict at dx, its attributes -/
  | ins (C dx : Addr) (fs : List (Str × V))
  /-- the dict of the instance at x -/
  | own (x : Addr)
  /-- the dict of an exception -/
  | xd (fs : List (Str × V))
  /-- a bound method, f of x -/
  | met (f x : Addr)
  /-- a range object lo, lo + 1, .. below hi -/
  | rng (lo hi : Int)
  /-- a thing that is known to the object (the script; a dict while a loop walks it): read, never written while it is so -/
  | frz (o : Obj) (u : HO)
  /-- a code object's table -/
  | tbl (ps : Array Value)
  /-- any other thing, by what is true of its one object (a def of one's own: SetO a S n := HO.ext fun h => ..) -/
  | ext (φ : Heap → Prop)
abbrev Hp := Addr → Option HO
def upd (H : Hp) (a : Addr) (o : HO) : Hp := fun b => if b = a then some o else H b
theorem upd_same {H : Hp} {a : Addr} {o : HO} : upd H a o a = some o := by unfold upd; rw [if_pos rfl]
theorem upd_ne {H : Hp} {a b : Addr} {o : HO} (h : b ≠ a) : upd H a o b = H b := by unfold upd; rw [if_neg h]
theorem upd_upd {H : Hp} {a : Addr} {o u : HO} : upd (upd H a o) a u = upd H a u := by
  funext b; unfold upd; split <;> rfl
theorem ne_of {H : Hp} {a b : Addr} {o u : HO} (h : H a = some o) (h' : H b = some u) (d : o ≠ u) : a ≠ b := by
  intro e; subst e; rw [h] at h'; exact d (Option.some.inj h')
theorem ne_of_none {H : Hp} {a b : Addr} {o : HO} (h : H a = some o) (h' : H b = none) : a ≠ b := by
  intro e; subst e; rw [h] at h'; cases h'
section
variable (P : Program) (w : World)
def ObjOk (H : Hp) (h : Heap) (a : Addr) : HO → Prop
  | .lst xs => xs.length ≤ sizeLine ∧ ∃ (its : List Value) (n : Nat), Vals xs its ∧ h.get? a = some { cls := .type "list", data := .seq its.toArray n }
  | .tup xs => xs.length ≤ sizeLine ∧ ∃ its : List Value, Vals xs its ∧ IsTup h a its.toArray
  | .dK kvs => kvs.length ≤ sizeLine ∧ (a == sysModules) = false ∧ ∃ vs, KV kvs vs ∧ h.DictOf (mixKind P w) a vs
  | .dT kvs => kvs.length ≤ sizeLine ∧ (a == sysModules) = false ∧ ∃ xs : List (List Key × Addr × Value),
      Paired (fun (p : List Key × V) (q : List Key × Addr × Value) => p.1 = q.1 ∧ H q.2.1 = some (.tup (p.1.map kV)) ∧ RelV p.2 q.2.2) kvs xs ∧
      ∃ o es ep, h.get? a = some o ∧ o.ExactDict ∧ o.data = .dict es ep ∧ es.toList = xs.map (entryOfKey (tupleKind (mixKind P w))) ∧ (xs.map (·.1)).Nodup
  | .set S n => h.SetOf (intKind P w) a S n
  | .ins C dx fs => H dx = some (.own a) ∧ fs.length ≤ 1000 ∧ dx ≠ a ∧ h.get? a = some (PySem.W.instObj C dx) ∧
      ∃ mA, h.Ns1 dx mA ∧ (∀ f, RelO (fs.lookup f) (mA f)) ∧ PySem.Within mA (fs.map (·.1))
  | .own _ => ∃ o, h.get? a = some o
  | .xd fs => ∃ mA, h.Ns1 a mA ∧ ∀ f, RelO (fs.lookup f) (mA f)
  | .rng lo hi => ∃ t u v, h.get? a = some { cls := .type "range", data := .fields #[.int lo t, .int hi u, .int 1 v] }
  | .frz o u => h.get? a = some o ∧ ObjOk H h a u
  | .tbl ps => h.get? a = some { cls := .none, data := .fields ps }
  | .met f x => h.get? a = some (PySem.W.methodObj (.ref f) (.ref x))
  | .ext φ => φ h ∧ (∃ o, h.get? a = some o) ∧ ∀ h1 h2 : Heap, φ h1 → (∀ o, h1.get? a = some o → h2.get? a = some o) → φ h2
def HOk (H : Hp) (h : Heap) : Prop := ∀ a o, H a = some o → ObjOk P w H h a o
end
section
variable {P : Program} {w : World} {H H' : Hp} {h h' : Heap} {a : Addr} {o : HO}
theorem ObjOk.lt (x : ObjOk P w H h a o) : a < h.objs.size := by
  cases o with
  | lst xs => obtain ⟨_, _, _, _, e⟩ := x; exact Heap.lt_size e
  | tup xs => obtain ⟨_, _, _, p⟩ := x; exact p.lt
  | dK kvs => obtain ⟨_, _, _, _, o, _, _, e, _⟩ := x; exact Heap.lt_size e
  | dT kvs => obtain ⟨_, _, _, _, o, _, _, e, _⟩ := x; exact Heap.lt_size e
  | set S n => obtain ⟨o, _, _, _, e, _⟩ := x; exact Heap.lt_size e
  | ins C dx fs => obtain ⟨_, _, _, e, _⟩ := x; exact Heap.lt_size e
  | own y => obtain ⟨_, e⟩ := x; exact Heap.lt_size e
  | xd fs => obtain ⟨_, ⟨_, _, _, e, _⟩, _⟩ := x; exact Heap.lt_size e
  | rng lo hi => obtain ⟨_, _, _, e⟩ := x; exact Heap.lt_size e
  | frz ob u => obtain ⟨e, _⟩ := x; exact Heap.lt_size e
  | tbl ps => exact Heap.lt_size (show h.get? a = some _ from x)
  | met f y => exact Heap.lt_size (show h.get? a = some _ from x)
  | ext φ => obtain ⟨_, ⟨_, e⟩, _⟩ := x; exact Heap.lt_size e
theorem Paired.mapP {α β : Type} {F G : α → β → Prop} : ∀ {l₁ : List α} {l₂ : List β}, Paired F l₁ l₂ → (∀ a b, F a b → G a b) → Paired G l₁ l₂
  | _, _, .nil, _ => .nil
  | _, _, .cons r t, f => .cons (f _ _ r) (Paired.mapP t f)
theorem ObjOk.stay (x : ObjOk P w H h a o) (k : ∀ b u, (b = a ∨ H b = some (.own a)) → h.get? b = some u → h'.get? b = some u)
    (ho : ∀ b, H b = some (.own a) → H' b = some (.own a)) (ht : ∀ b xs, H b = some (.tup xs) → H' b = some (.tup xs)) : ObjOk P w H' h' a o := by
  induction o with
  | lst xs => obtain ⟨z, its, n, r, e⟩ := x; exact ⟨z, its, n, r, k _ _ (.inl rfl) e⟩
  | tup xs => obtain ⟨z, its, r, ob, e, c⟩ := x; exact ⟨z, its, r, ob, k _ _ (.inl rfl) e, c⟩
  | dK kvs => obtain ⟨z, y, vs, r, ob, es, ep, e, c⟩ := x; exact ⟨z, y, vs, r, ob, es, ep, k _ _ (.inl rfl) e, c⟩
  | dT kvs =>
    obtain ⟨z, y, xs, r, ob, es, ep, e, c⟩ := x
    exact ⟨z, y, xs, Paired.mapP r fun p q z => ⟨z.1, ht _ _ z.2.1, z.2.2⟩, ob, es, ep, k _ _ (.inl rfl) e, c⟩
  | set S n => obtain ⟨ob, es, ep, t, e, c⟩ := x; exact ⟨ob, es, ep, t, k _ _ (.inl rfl) e, c⟩
  | ins C dx fs =>
    obtain ⟨d, z, ne, e, mA, ⟨od, es, ep, e2, c⟩, r⟩ := x
    exact ⟨ho _ d, z, ne, k _ _ (.inl rfl) e, mA, ⟨od, es, ep, k _ _ (.inr d) e2, c⟩, r⟩
  | own y => obtain ⟨ob, e⟩ := x; exact ⟨ob, k _ _ (.inl rfl) e⟩
  | xd fs => obtain ⟨mA, ⟨od, es, ep, e, c⟩, r⟩ := x; exact ⟨mA, ⟨od, es, ep, k _ _ (.inl rfl) e, c⟩, r⟩
  | rng lo hi => obtain ⟨t, u, v, e⟩ := x; exact ⟨t, u, v, k _ _ (.inl rfl) e⟩
  | frz ob u ih => obtain ⟨e, q⟩ := x; exact ⟨k _ _ (.inl rfl) e, ih q⟩
  | tbl ps =>
    have e : h.get? a = some { cls := .none, data := .fields ps } := x
    show h'.get? a = some { cls := .none, data := .fields ps }
    exact k a _ (.inl rfl) e
  | met f y =>
    have e : h.get? a = some (PySem.W.methodObj (.ref f) (.ref y)) := x
    show h'.get? a = some (PySem.W.methodObj (.ref f) (.ref y))
    exact k a _ (.inl rfl) e
  | ext φ => obtain ⟨p, ⟨o, e⟩, st⟩ := x; exact ⟨st _ _ p fun o q => k _ _ (.inl rfl) q, ⟨o, k _ _ (.inl rfl) e⟩, st⟩
theorem HOk.lt (x : HOk P w H h) (e : H a = some o) : a < h.objs.size := (x a o e).lt
theorem HOk.fresh (x : HOk P w H h) (e : h.objs.size ≤ a) : H a = none := by
  cases q : H a with
  | none => rfl
  | some u => exact absurd (Nat.lt_of_lt_of_le (x.lt q) e) (Nat.lt_irrefl _)
theorem HOk.kept (x : HOk P w H h) (k : ∀ b u, h.get? b = some u → h'.get? b = some u) : HOk P w H h' := fun a o e =>
  (x a o e).stay (fun b u _ q => k b u q) (fun _ q => q) fun _ _ q => q
theorem HOk.laid (x : HOk P w H h) (k : ∀ b u, h.get? b = some u → h'.get? b = some u) (hp : h.objs.size ≤ a) (new : ObjOk P w (upd H a o) h' a o) : HOk P w (upd H a o) h' := fun b u e => by
  have hn := x.fresh hp
  by_cases hb : b = a
  · subst hb; rw [upd_same] at e; cases e; exact new
  · rw [upd_ne hb] at e
    exact (x b u e).stay (fun c v _ q => k c v q) (fun c q => by rw [upd_ne (ne_of_none q hn)]; exact q) fun c xs q => by rw [upd_ne (ne_of_none q hn)]; exact q
end
def Rd (H : Hp) (a : Addr) (u : HO) : Prop := H a = some u ∨ ∃ o, H a = some (.frz o u)
theorem Rd.ok {P : Program} {w : World} {H : Hp} {h : Heap} {a : Addr} {u : HO} (r : Rd H a u) (x : HOk P w H h) : ObjOk P w H h a u := by
  rcases r with r | ⟨o, r⟩
  · exact x a u r
  · obtain ⟨_, q⟩ := x a _ r
    exact q
def Mut : Option HO → Prop
  | some (.lst _) => True
  | some (.dK _) => True
  | some (.dT _) => True
  | some (.set _ _) => True
  | some (.ins _ _ _) => True
  | some (.ext _) => True
  | _ => False
section
variable {P : Program} {w : World} {H : Hp} {h h' : Heap} {x e : Addr} {o' : HO}
theorem HOk.write (ok : HOk P w H h) (mu : Mut (H x)) (he : e = x ∨ H e = some (.own x)) (k : ∀ b u, b ≠ e → h.get? b = some u → h'.get? b = some u) (heo : ∃ u, h'.get? e = some u)
    (new : ObjOk P w (upd H x o') h' x o') : HOk P w (upd H x o') h' := fun b u q => by
  have nown : ∀ c y, H c = some (.own y) → c ≠ x := fun c y r z => by subst z; rw [r] at mu; exact mu
  have ntup : ∀ c xs, H c = some (.tup xs) → c ≠ x := fun c xs r z => by subst z; rw [r] at mu; exact mu
  by_cases hb : b = x
  · subst hb; rw [upd_same] at q; cases q; exact new
  · rw [upd_ne hb] at q
    by_cases hbe : b = e
    · have q' : H b = some (.own x) := by
        rcases he with z | z
        · exact absurd (hbe.trans z) hb
        · rw [hbe]; exact z
      rw [q] at q'; cases q'
      obtain ⟨v, hv⟩ := heo
      exact ⟨v, by rw [hbe]; exact hv⟩
    · refine (ok b u q).stay (fun c v hc r => k c v ?_ r) (fun c r => by rw [upd_ne (nown c b r)]; exact r) fun c xs r => by rw [upd_ne (ntup c xs r)]; exact r
      rcases hc with rfl | hc
      · exact hbe
      · rintro rfl
        rcases he with z | z
        · exact nown c b hc z
        · rw [hc] at z; cases z; exact hb rfl
end
structure Un (fs ex : List Addr) (H H' : Hp) (h h' : Heap) : Prop where
  keep : ∀ b o, h.get? b = some o → H b = none → b ∉ fs → b ∉ ex → h'.get? b = some o
  slot : ∀ b o, h.get? b = some o → H b = none → b ∈ fs → b ∉ ex → ∃ sl, h'.get? b = some { o with slots := sl }
  free : ∀ b o, h.get? b = some o → H b = none → b ∉ ex → H' b = none
  there : ∀ b o, h.get? b = some o → b ∉ ex → ∃ o', h'.get? b = some o'
  tups : ∀ b xs, H b = some (.tup xs) → H' b = some (.tup xs)
  frzs : ∀ b o u, H b = some (.frz o u) → H' b = some (.frz o u)
  tbls : ∀ b ps, H b = some (.tbl ps) → ∃ more, H' b = some (.tbl (ps ++ more))
section
variable {fs fs' ex ex' : List Addr} {H H1 H2 : Hp} {h h1 h2 h' : Heap} {a x e : Addr} {o : HO}
theorem Un.any (u : Un fs ex H H1 h h1) {b : Addr} {ob : Obj} (q : h.get? b = some ob) (n : H b = none) (hx : b ∉ ex) : ∃ sl, h1.get? b = some { ob with slots := sl } := by
  by_cases hb : b ∈ fs
  · exact u.slot b ob q n hb hx
  · exact ⟨ob.slots, u.keep b ob q n hb hx⟩
theorem Un.kept (k : ∀ b u, h.get? b = some u → h'.get? b = some u) : Un fs ex H H h h' :=
  ⟨fun b ob q _ _ _ => k b ob q, fun b ob q _ _ _ => ⟨ob.slots, k b ob q⟩, fun _ _ _ n _ => n, fun b ob q _ => ⟨ob, k b ob q⟩, fun _ _ q => q, fun _ _ _ q => q, fun _ ps q => ⟨#[], by rw [q]; simp⟩⟩
theorem Un.refl : Un fs ex H H h h := Un.kept fun _ _ q => q
theorem Un.laid (k : ∀ b u, h.get? b = some u → h'.get? b = some u) (hp : h.objs.size ≤ a) (hn : H a = none) : Un fs ex H (upd H a o) h h' where
  keep := fun b u q _ _ _ => k b u q
  slot := fun b u q _ _ _ => ⟨u.slots, k b u q⟩
  free := fun b u q n _ => by rw [upd_ne (Nat.ne_of_lt (Nat.lt_of_lt_of_le (Heap.lt_size q) hp))]; exact n
  there := fun b u q _ => ⟨u, k b u q⟩
  tups := fun b xs q => by rw [upd_ne (ne_of_none q hn)]; exact q
  frzs := fun b u xs q => by rw [upd_ne (ne_of_none q hn)]; exact q
  tbls := fun b ps q => ⟨#[], by rw [upd_ne (ne_of_none q hn), q]; simp⟩
theorem Un.write (mu : Mut (H x)) (he : e = x ∨ H e = some (.own x)) (k : ∀ b u, b ≠ e → h.get? b = some u → h'.get? b = some u) (heo : ∃ u, h'.get? e = some u) : Un fs ex H (upd H x o) h h' := by
  have hx : ∀ b, H b = none → b ≠ x := fun b n z => by subst z; rw [n] at mu; exact mu
  have hb : ∀ b, H b = none → b ≠ e := fun b n z => by
    subst z
    rcases he with r | r
    · exact hx b n r
    · rw [n] at r; cases r
  have hm : ∀ b u, H b = some u → ¬ Mut (some u) → b ≠ x := fun b u q nm z => by subst z; rw [q] at mu; exact nm mu
  refine ⟨fun b u q n _ _ => k b u (hb b n) q, fun b u q n _ _ => ⟨u.slots, k b u (hb b n) q⟩, fun b u q n _ => by rw [upd_ne (hx b n)]; exact n, fun b u q _ => ?_,
    fun b xs q => by rw [upd_ne (hm b _ q fun z => z)]; exact q, fun b u xs q => by rw [upd_ne (hm b _ q fun z => z)]; exact q, fun b ps q => ⟨#[], by rw [upd_ne (hm b _ q fun z => z), q]; simp⟩⟩
  by_cases hbe : b = e
  · subst hbe; exact heo
  · exact ⟨u, k b u hbe q⟩
end
def trk (h : Heap) (H : Hp) : List Addr := (List.range h.objs.size).filter fun a => (H a).isSome
def hidT (h : Heap) (H : Hp) : Heap := PySem.W.hideAll h (trk h H)
theorem hidT_size (h : Heap) (H : Hp) : (hidT h H).objs.size = h.objs.size := PySem.W.hideAll_size _ _
theorem hidT_get {h : Heap} {H : Hp} {b : Addr} {o : Obj} (e : h.get? b = some o) (n : H b = none) : (hidT h H).get? b = some o :=
  PySem.W.hideAll_get _ e fun hm => by
    have q : (H b).isSome = true := (List.mem_filter.mp hm).2
    rw [n] at q; simp at q
theorem of_hidT {h : Heap} {H : Hp} {b : Addr} {o : Obj} (e : (hidT h H).get? b = some o) : h.get? b = some o ∧ H b = none := by
  have e' : h.get? b = some o := PySem.W.of_hideAll (trk h H) e
  refine ⟨e', ?_⟩
  cases q : H b with
  | none => rfl
  | some x =>
    have hm : b ∈ trk h H := List.mem_filter.mpr ⟨List.mem_range.mpr (Heap.lt_size e'), by simp [q]⟩
    have z : (hidT h H).get? b = none := PySem.W.hideAll_none (trk h H) hm
    rw [z] at e; cases e
end L2
namespace L2
open PySem PySem.Spec PyProof.Rows
structure Mod (K : PySem.W.Frag) (mg : Str → Option Value) (base : Heap) : Prop where
  kin : K.In base
  glob : base.Ns mainGlobals mg
  blt : ∃ mb, base.Ns builtinsNs mb ∧ ∀ x : Str, x ≠ "__name__" → mb x = bootBuiltins x
  nolimit : base.NoLimit
structure Cx where
  prog : Program
  w : World
  K : PySem.W.Frag
  mg : Str → Option Value
  base : Heap
  A : Around
  N : List Str
  s₀ : Shared
  H₀ : Hp
  env : Env
  outer : List Env
  stack : List Env
  ex : List Addr
  fn : Str → Bool
  calm : Bool
  pn : List (Addr × Obj)
  xe : Value → Shared → Prop
def frs (l : List Env) : List Addr := l.filterMap (·.frame)
abbrev Cx.fs (X : Cx) : List Addr := frs X.outer
def Vis (sc : Scope) (x : Str) : Prop := sc.names.lookup x = some .local ∨ sc.names.lookup x = some .cell ∨ sc.names.lookup x = some .free
def Loc (sc : Scope) (x : Str) : Prop := sc.names.lookup x = some .local ∨ sc.names.lookup x = some .cell
def Look (env : Env) (h : Heap) (m : Str → Option Value) (x : Str) (u : Value) : Prop :=
  (env.kindOf x = some .local ∧ m x = some u) ∨ ((env.kindOf x = some .cell ∨ env.kindOf x = some .free) ∧ ∃ c, env.cells.lookup x = some c ∧ h.IsCell c (some u))
structure Cx.Ok (X : Cx) : Prop where
  mod : Mod X.K X.mg X.base
  kind : X.env.scope.kind = .function
  glob : X.env.globals = mainGlobals
  blt : X.env.builtins = builtinsNs
  above : X.s₀.heap.objs.size ≤ X.env.locals
  inj : ∀ x y c, X.env.cells.lookup x = some c → X.env.cells.lookup y = some c → x = y
  has : ∀ x, (X.env.kindOf x = some .cell ∨ X.env.kindOf x = some .free) → ∃ c, X.env.cells.lookup x = some c
  cab : ∀ x c, X.fn x = true → X.env.cells.lookup x = some c → X.s₀.heap.objs.size ≤ c
  hd : X.calm = true → X.A.handled = none
  frames : X.A.frames = some X.stack
  stk : X.stack = X.outer ∨ (X.stack = X.env :: X.outer ∧ X.env.frame = some X.env.locals)
  exf : ∀ b ∈ X.ex, b ≠ X.env.locals ∧ ∀ x c, X.env.cells.lookup x = some c → c ≠ b
  bs : ∀ b o, X.base.get? b = some o → X.s₀.heap.get? b = some o ∧ X.H₀ b = none
  bsz : X.base.objs.size ≤ X.s₀.heap.objs.size
  noex : ∀ b o, X.base.get? b = some o → b ∉ X.ex
  exfs : ∀ b ∈ X.ex, b ∉ X.fs
  funs : X.s₀.heap.FunFrames X.base X.outer
  frf : ∀ b ∈ X.fs, X.H₀ b = none
structure Inv (X : Cx) (pins : List (Addr × Obj)) (σ : List (Option V)) (H : Hp) (s : Shared) : Prop where
  ok : X.Ok
  os : s.os = X.s₀.os
  bare : AllBare s.gens
  base : Un X.fs X.ex X.H₀ H X.s₀.heap s.heap
  loc : ∃ m, s.heap.Ns X.env.locals m ∧ ∀ (i : Nat) (x : Str) (v : V), X.N[i]? = some x → σ[i]? = some (some v) → Vis X.env.scope x → ∃ u, RelV v u ∧ Look X.env s.heap m x u
  cell : ∀ x c, X.env.cells.lookup x = some c → ∃ v, s.heap.IsCell c v
  free : H X.env.locals = none
  freeC : ∀ x c, X.env.cells.lookup x = some c → H c = none
  pin : ∀ p ∈ X.pn ++ pins, s.heap.get? p.1 = some p.2 ∧ H p.1 = none ∧ p.1 ≠ X.env.locals ∧ p.1 ∉ X.fs ∧ ∀ v, p.2.data ≠ .cell v
  hok : HOk X.prog X.w H s.heap
  len : σ.length = X.N.length
section
variable {X : Cx} {pins : List (Addr × Obj)} {σ : List (Option V)} {H H' : Hp} {s : Shared} {h' : Heap}
theorem Cx.Ok.nofr (ok : X.Ok) {b : Addr} {o : Obj} (e : X.base.get? b = some o) : b ∉ X.fs := fun hb => by
  have := (ok.funs.mem hb).1
  rw [e] at this; cases this
theorem Inv.bs (I : Inv X pins σ H s) : ∀ b o, X.base.get? b = some o → s.heap.get? b = some o ∧ H b = none := fun b o e =>
  ⟨I.base.keep b o (I.ok.bs b o e).1 (I.ok.bs b o e).2 (I.ok.nofr e) (I.ok.noex b o e), I.base.free b o (I.ok.bs b o e).1 (I.ok.bs b o e).2 (I.ok.noex b o e)⟩
theorem Inv.bk (I : Inv X pins σ H s) : ∀ b o, X.base.get? b = some o → s.heap.get? b = some o := fun b o e => (I.bs b o e).1
theorem Inv.mod (I : Inv X pins σ H s) : Mod X.K X.mg X.base := I.ok.mod
theorem Inv.kIn (I : Inv X pins σ H s) : X.K.In s.heap := I.ok.mod.kin.keeps I.bk
theorem Inv.lt (I : Inv X pins σ H s) : X.env.locals < s.heap.objs.size := let ⟨_, hn, _⟩ := I.loc; hn.lt
theorem Inv.sz (I : Inv X pins σ H s) : X.s₀.heap.objs.size ≤ s.heap.objs.size := Nat.le_trans I.ok.above (Nat.le_of_lt I.lt)
theorem Inv.nofs (I : Inv X pins σ H s) {a : Addr} (h : s.heap.objs.size ≤ a) : a ∉ X.fs := fun hb => by
  obtain ⟨_, o, ho, _⟩ := I.ok.funs.mem hb
  exact absurd (Nat.lt_of_lt_of_le (Heap.lt_size ho) (Nat.le_trans I.sz h)) (Nat.lt_irrefl _)
theorem Inv.cne (I : Inv X pins σ H s) : ∀ x c, X.env.cells.lookup x = some c → c ≠ X.env.locals := fun x c e z => by
  obtain ⟨v, o, ho, hd⟩ := I.cell x c e
  obtain ⟨m, ⟨o', es, ep, ho', hd', _⟩, _⟩ := I.loc
  rw [z, ho'] at ho; cases ho; rw [hd'] at hd; cases hd
theorem Inv.funs (I : Inv X pins σ H s) : s.heap.FunFrames X.base X.outer := by
  have all : ∀ (l : List Env), (∀ b ∈ frs l, b ∈ X.fs) → X.s₀.heap.FunFrames X.base l → s.heap.FunFrames X.base l := by
    intro l
    induction l with
    | nil => intro _ _; trivial
    | cons env r ih =>
      intro hs hl
      obtain ⟨hk, ⟨L, o, hf, hn, ho, hd⟩, hr⟩ := hl
      have hL : L ∈ X.fs := hs L (by unfold frs; rw [List.filterMap_cons, hf]; exact List.mem_cons_self)
      obtain ⟨sl, e⟩ := I.base.slot L o ho (I.ok.frf L hL) hL fun z => I.ok.exfs L z hL
      exact ⟨hk, ⟨L, _, hf, hn, e, hd⟩, ih (fun b hb => hs b (by unfold frs; rw [List.filterMap_cons, hf]; exact List.mem_cons_of_mem _ hb)) hr⟩
  exact all X.outer (fun _ hb => hb) I.ok.funs
theorem Inv.stack (I : Inv X pins σ H s) : s.heap.FunFrames X.base X.stack := by
  rcases I.ok.stk with e | ⟨e, hf⟩
  · rw [e]; exact I.funs
  · rw [e]
    obtain ⟨m, hn, _⟩ := I.loc
    refine .cons (by rw [I.ok.kind]; decide) hf hn ?_ I.funs
    exact Heap.get?_none_of_le (Nat.le_trans I.ok.bsz I.ok.above)
theorem Inv.stkSub (I : Inv X pins σ H s) : ∀ b ∈ frs X.stack, b ∈ X.env.locals :: X.fs := fun b hb => by
  rcases I.ok.stk with e | ⟨e, hf⟩
  · rw [e] at hb; exact List.mem_cons_of_mem _ hb
  · rw [e] at hb
    unfold frs at hb
    rw [List.filterMap_cons, hf] at hb
    exact hb
theorem Inv.stkFree (I : Inv X pins σ H s) : ∀ b ∈ frs X.stack, H b = none := fun b hb => by
  rcases List.mem_cons.mp (I.stkSub b hb) with e | hb
  · rw [e]; exact I.free
  · obtain ⟨_, o, ho, _⟩ := I.ok.funs.mem hb
    exact I.base.free b o ho (I.ok.frf b hb) fun z => I.ok.exfs b z hb
theorem Inv.step {g' : Array GenState} {t' : Nat} {d' : Drawn} {ch : List Addr} (I : Inv X pins σ H s)
    (hch : ∀ b ∈ ch, (b ∈ X.ex ∨ X.s₀.heap.objs.size ≤ b) ∧ b ≠ X.env.locals ∧ (∀ x c, X.env.cells.lookup x = some c → c ≠ b) ∧ ∀ p ∈ X.pn ++ pins, p.1 ≠ b)
    (keep : ∀ b o, b ≠ X.env.locals → b ∉ X.fs → b ∉ ch → s.heap.get? b = some o → H b = none → h'.get? b = some o)
    (slot : ∀ b o, b ≠ X.env.locals → b ∈ X.fs → b ∉ ch → s.heap.get? b = some o → H b = none → ∃ sl, h'.get? b = some { o with slots := sl }) (free : ∀ b o, b ∉ ch → s.heap.get? b = some o → H b = none → H' b = none)
    (there : ∀ b o, b ∉ ch → s.heap.get? b = some o → ∃ o', h'.get? b = some o')
    (tups : ∀ b xs, H b = some (.tup xs) → H' b = some (.tup xs)) (frzs : ∀ b o u, H b = some (.frz o u) → H' b = some (.frz o u)) (tbls : ∀ b ps, H b = some (.tbl ps) → ∃ more, H' b = some (.tbl (ps ++ more)))
    (ns : ∀ m, s.heap.Ns X.env.locals m → h'.Ns X.env.locals m) (hok : HOk X.prog X.w H' h') (hg : AllBare g') :
    Inv X pins σ H' { s with heap := h', gens := g', drawn := d', toks := t' } := by
  have neL : ∀ b o, X.s₀.heap.get? b = some o → b ≠ X.env.locals := fun b o e => Nat.ne_of_lt (Nat.lt_of_lt_of_le (Heap.lt_size e) I.ok.above)
  have neC : ∀ b o, X.s₀.heap.get? b = some o → b ∉ X.ex → b ∉ ch := fun b o e hx hb => by
    rcases (hch b hb).1 with z | z
    · exact hx z
    · exact absurd (Nat.lt_of_lt_of_le (Heap.lt_size e) z) (Nat.lt_irrefl _)
  have cellK : ∀ x c, X.env.cells.lookup x = some c → ∀ v, s.heap.IsCell c v → h'.IsCell c v := fun x c e v ⟨o, ho, hd⟩ => by
    have nch : c ∉ ch := fun z => (hch c z).2.2.1 x c e rfl
    by_cases hc : c ∈ X.fs
    · obtain ⟨sl, q⟩ := slot c o (I.cne x c e) hc nch ho (I.freeC x c e)
      exact ⟨_, q, hd⟩
    · exact ⟨o, keep c o (I.cne x c e) hc nch ho (I.freeC x c e), hd⟩
  refine ⟨I.ok, I.os, hg, ⟨fun b o e n hb hx => ?_, fun b o e n hb hx => ?_, fun b o e n hx => ?_, fun b o e hx => ?_, fun b xs e => tups b xs (I.base.tups b xs e), fun b o xs e => frzs b o xs (I.base.frzs b o xs e), fun b ps e => ?_⟩, ?_, fun x c e => ?_, ?_, fun x c e => ?_, fun p hp => ?_, hok, I.len⟩
  · exact keep b o (neL b o e) hb (neC b o e hx) (I.base.keep b o e n hb hx) (I.base.free b o e n hx)
  · obtain ⟨sl, e1⟩ := I.base.slot b o e n hb hx
    obtain ⟨sl', e2⟩ := slot b _ (neL b o e) hb (neC b o e hx) e1 (I.base.free b o e n hx)
    exact ⟨sl', e2⟩
  · obtain ⟨o', e1⟩ := I.base.there b o e hx
    exact free b o' (neC b o e hx) e1 (I.base.free b o e n hx)
  · obtain ⟨o', e1⟩ := I.base.there b o e hx
    exact there b o' (neC b o e hx) e1
  · obtain ⟨m1, e1⟩ := I.base.tbls b ps e
    obtain ⟨m2, e2⟩ := tbls b _ e1
    exact ⟨m1 ++ m2, by rw [e2, Array.append_assoc]⟩
  · obtain ⟨m, hn, hl⟩ := I.loc
    refine ⟨m, ns m hn, fun i x v e1 e2 e3 => ?_⟩
    obtain ⟨u, r, l⟩ := hl i x v e1 e2 e3
    refine ⟨u, r, ?_⟩
    rcases l with l | ⟨k, c, e, z⟩
    · exact .inl l
    · exact .inr ⟨k, c, e, cellK x c e _ z⟩
  · obtain ⟨v, z⟩ := I.cell x c e
    exact ⟨v, cellK x c e v z⟩
  · obtain ⟨m, ⟨o, _, _, ho, _⟩, _⟩ := I.loc
    exact free _ o (fun z => (hch _ z).2.1 rfl) ho I.free
  · obtain ⟨v, o, ho, hd⟩ := I.cell x c e
    exact free c o (fun z => (hch c z).2.2.1 x c e rfl) ho (I.freeC x c e)
  · obtain ⟨e, n, ne, nf, d⟩ := I.pin p hp
    have nch : p.1 ∉ ch := fun z => (hch p.1 z).2.2.2 p hp rfl
    exact ⟨keep p.1 p.2 ne nf nch e n, free p.1 p.2 nch e n, ne, nf, d⟩
theorem Inv.un {t' : Nat} (I : Inv X pins σ H s) (u : Un X.fs [] H H' s.heap h') (hok : HOk X.prog X.w H' h') : Inv X pins σ H' { s with heap := h', toks := t' } := by
  obtain ⟨m, ⟨o, es, ep, ho, r⟩, _⟩ := id I.loc
  obtain ⟨sl, hL⟩ := u.any ho I.free (by simp)
  exact I.step (g' := s.gens) (d' := s.drawn) (ch := []) (fun _ z => nomatch z) (fun b o _ hb _ e n => u.keep b o e n hb (by simp)) (fun b o _ hb _ e n => u.slot b o e n hb (by simp)) (fun b o _ e n => u.free b o e n (by simp)) (fun b o _ e => u.there b o e (by simp)) u.tups u.frzs u.tbls (fun m' hm => by
    obtain ⟨o', es', ep', ho', r'⟩ := hm
    rw [ho] at ho'; cases ho'
    exact ⟨_, es', ep', hL, r'⟩) hok I.bare
theorem Inv.call {g' : Array GenState} {t' : Nat} {d' : Drawn} {ch : List Addr} (I : Inv X pins σ H s) (u : Un (frs X.stack) ch H H' s.heap h') (hok : HOk X.prog X.w H' h') (hg : AllBare g')
    (hch : ∀ b ∈ ch, (b ∈ X.ex ∨ X.s₀.heap.objs.size ≤ b) ∧ b ≠ X.env.locals ∧ (∀ x c, X.env.cells.lookup x = some c → c ≠ b) ∧ ∀ p ∈ X.pn ++ pins, p.1 ≠ b) :
    Inv X pins σ H' { s with heap := h', gens := g', drawn := d', toks := t' } := by
  obtain ⟨m, ⟨o, es, ep, ho, r⟩, _⟩ := id I.loc
  obtain ⟨sl, hL⟩ := u.any ho I.free fun z => (hch _ z).2.1 rfl
  exact I.step (ch := ch) hch (fun b o hL hb hc e n => u.keep b o e n (fun z => (List.mem_cons.mp (I.stkSub b z)).elim hL hb) hc) (fun b o _ _ hc e n => u.any e n hc) (fun b o hc e n => u.free b o e n hc) (fun b o hc e => u.there b o e hc) u.tups u.frzs u.tbls (fun m' hm => by
    obtain ⟨o', es', ep', ho', r'⟩ := hm
    rw [ho] at ho'; cases ho'
    exact ⟨_, es', ep', hL, r'⟩) hok hg
theorem Inv.turned {t' : Nat} {it : Addr} (I : Inv X pins σ H s) (k : ∀ b o, b ≠ it → s.heap.get? b = some o → h'.get? b = some o) (hn : H it = none) (hL : it ≠ X.env.locals)
    (h1 : it ∈ X.ex ∨ X.s₀.heap.objs.size ≤ it) (h2 : ∀ x c, X.env.cells.lookup x = some c → c ≠ it) (h3 : ∀ p ∈ X.pn ++ pins, p.1 ≠ it) : Inv X pins σ H { s with heap := h', toks := t' } := by
  have nit : ∀ b u, H b = some u → b ≠ it := fun b u e z => by rw [z, hn] at e; cases e
  refine I.step (g' := s.gens) (d' := s.drawn) (ch := [it]) (fun b hb => ?_) (fun b o _ _ hc e _ => k b o (fun z => hc (by simp [z])) e) (fun b o _ _ hc e _ => ⟨o.slots, k b o (fun z => hc (by simp [z])) e⟩) (fun _ _ _ _ n => n)
    (fun b o hc e => ⟨o, k b o (fun z => hc (by simp [z])) e⟩) (fun _ _ e => e) (fun _ _ _ e => e) (fun b ps e => ⟨#[], by rw [e]; simp⟩) (fun m hm => ?_) (fun b u e => ?_) I.bare
  · have e : b = it := by simpa using hb
    subst e
    exact ⟨h1, hL, h2, h3⟩
  · obtain ⟨o, es, ep, ho, r⟩ := hm
    exact ⟨o, es, ep, k _ o (Ne.symm hL) ho, r⟩
  · refine (I.hok b u e).stay (fun c v hc q => k c v ?_ q) (fun _ q => q) fun _ _ q => q
    rcases hc with z | z
    · rw [z]; exact nit b u e
    · exact nit c _ z
theorem Inv.tok (I : Inv X pins σ H s) (t : Nat) : Inv X pins σ H { s with toks := t } := I.un (h' := s.heap) (t' := t) Un.refl I.hok
theorem Inv.kept {t' : Nat} (I : Inv X pins σ H s) (k : ∀ b u, s.heap.get? b = some u → h'.get? b = some u) : Inv X pins σ H { s with heap := h', toks := t' } := I.un (Un.kept k) (I.hok.kept k)
theorem Inv.laid {a : Addr} {o : HO} {t' : Nat} (I : Inv X pins σ H s) (k : ∀ b u, s.heap.get? b = some u → h'.get? b = some u) (hp : s.heap.objs.size ≤ a) (new : ObjOk X.prog X.w (upd H a o) h' a o) :
    Inv X pins σ (upd H a o) { s with heap := h', toks := t' } := I.un (Un.laid k hp (I.hok.fresh hp)) (I.hok.laid k hp new)
theorem Inv.write {x e : Addr} {o : HO} {t' : Nat} (I : Inv X pins σ H s) (mu : Mut (H x)) (he : e = x ∨ H e = some (.own x)) (k : ∀ b u, b ≠ e → s.heap.get? b = some u → h'.get? b = some u) (heo : ∃ u, h'.get? e = some u)
    (new : ObjOk X.prog X.w (upd H x o) h' x o) : Inv X pins σ (upd H x o) { s with heap := h', toks := t' } := I.un (Un.write mu he k heo) (I.hok.write mu he k heo new)
theorem Inv.pins_of {pins' : List (Addr × Obj)} (I : Inv X pins σ H s) (h : ∀ p ∈ pins', s.heap.get? p.1 = some p.2 ∧ H p.1 = none ∧ p.1 ≠ X.env.locals ∧ p.1 ∉ X.fs ∧ ∀ v, p.2.data ≠ .cell v) : Inv X pins' σ H s :=
  ⟨I.ok, I.os, I.bare, I.base, I.loc, I.cell, I.free, I.freeC, fun p hp => (List.mem_append.mp hp).elim (fun z => I.pin p (List.mem_append_left _ z)) (h p), I.hok, I.len⟩
theorem nodup_ix {N : List Str} (hN : N.Nodup) {i j : Nat} {x : Str} (a : N[i]? = some x) (b : N[j]? = some x) : i = j := by
  obtain ⟨h1, e1⟩ := List.getElem?_eq_some_iff.mp a
  obtain ⟨h2, e2⟩ := List.getElem?_eq_some_iff.mp b
  exact (List.getElem_inj hN).mp (e1.trans e2.symm)
theorem store_ok2 {M : Model} {A : Around} {E : Value → Shared → Prop} {i : Nat} {x : Str} {v : V} {u : Value} {Q : Unit → Shared → Prop} (I : Inv X pins σ H s) (hN : X.N.Nodup) (hi : X.N[i]? = some x) (hx : Loc X.env.scope x) (r : RelV v u)
    (h : ∀ s', Inv X pins (σ.set i (some v)) H s' → (∃ a, Heap.SameBut a s.heap s'.heap ∧ (a = X.env.locals ∨ X.env.cells.lookup x = some a)) → Q () s') (hf : X.fn x = true ∨ X.env.scope.names.lookup x = some .local := by first | exact .inl rfl | exact .inr rfl | assumption) : wpAny M A (storeName X.env x u) Q E s := by
  obtain ⟨m, hn, hl⟩ := id I.loc
  have hcls : (X.env.scope.kind == .class || (X.env.scope.kind == .module && X.env.locals != X.env.globals)) = false := by rw [I.ok.kind]; rfl
  have hiσ : i < σ.length := by rw [I.len]; exact (List.getElem?_eq_some_iff.mp hi).1
  have cne := I.cne
  have tracked : ∀ {a : Addr} {h' : Heap}, (∃ o, s.heap.get? a = some o ∧ H a = none) → Heap.SameBut a s.heap h' → HOk X.prog X.w H h' := fun {a h'} ha hs b ob e => by
    obtain ⟨_, _, hfree⟩ := ha
    refine (I.hok b ob e).stay (fun c w' hc q => (hs.2 c ?_).trans q) (fun _ q => q) fun _ _ q => q
    rintro rfl
    rcases hc with rfl | hc
    · rw [hfree] at e; cases e
    · rw [hfree] at hc; cases hc
  rcases hx with hk | hk
  · refine wpAny_storeName_local hk hn (fun h' hn' hs => ?_) hcls
    obtain ⟨oL, _, _, hoL, _⟩ := id hn
    refine h _ ⟨I.ok, I.os, I.bare, ⟨fun b o e n hb hx => ?_, fun b o e n hb hx => ?_, I.base.free, fun b o e hx => ?_, I.base.tups, I.base.frzs, I.base.tbls⟩, ⟨_, hn', fun j y v' e1 e2 e3 => ?_⟩, fun y c e => ?_, I.free, I.freeC, fun p hp => ?_, tracked ⟨oL, hoL, I.free⟩ hs, by simpa using I.len⟩ ⟨_, hs, .inl rfl⟩
    · exact (hs.2 b (Nat.ne_of_lt (Nat.lt_of_lt_of_le (Heap.lt_size e) I.ok.above))).trans (I.base.keep b o e n hb hx)
    · obtain ⟨sl, e1⟩ := I.base.slot b o e n hb hx
      exact ⟨sl, (hs.2 b (Nat.ne_of_lt (Nat.lt_of_lt_of_le (Heap.lt_size e) I.ok.above))).trans e1⟩
    · obtain ⟨o', e1⟩ := I.base.there b o e hx
      exact ⟨o', (hs.2 b (Nat.ne_of_lt (Nat.lt_of_lt_of_le (Heap.lt_size e) I.ok.above))).trans e1⟩
    · by_cases hj : j = i
      · subst hj
        rw [hi] at e1; cases e1
        rw [List.getElem?_set_self hiσ] at e2
        cases e2
        exact ⟨u, r, .inl ⟨hk, by simp⟩⟩
      · rw [List.getElem?_set_ne (Ne.symm hj)] at e2
        obtain ⟨u', r', q⟩ := hl j y v' e1 e2 e3
        refine ⟨u', r', ?_⟩
        rcases q with ⟨k, e⟩ | ⟨k, c, e, z⟩
        · refine .inl ⟨k, ?_⟩
          have : y ≠ x := fun e => hj (nodup_ix hN e1 (e ▸ hi))
          simp [this, e]
        · exact .inr ⟨k, c, e, z.sameBut hs (cne y c e)⟩
    · obtain ⟨w', z⟩ := I.cell y c e
      exact ⟨w', z.sameBut hs (cne y c e)⟩
    · obtain ⟨e, n, ne, nf, d⟩ := I.pin p hp
      exact ⟨(hs.2 p.1 ne).trans e, n, ne, nf, d⟩
  · have hfn : X.fn x = true := by
      rcases hf with z | z
      · exact z
      · rw [z] at hk; cases hk
    obtain ⟨c, hc⟩ := I.ok.has x (.inl hk)
    obtain ⟨w', z⟩ := I.cell x c hc
    refine wpAny_storeName_cell I.ok.kind hk hc z (fun h' hc' hs => ?_)
    obtain ⟨oc, hoc, hocd⟩ := id z
    refine h { s with heap := h' } ⟨I.ok, I.os, I.bare, ⟨fun b o e n hb hx => ?_, fun b o e n hb hx => ?_, I.base.free, fun b o e hx => ?_, I.base.tups, I.base.frzs, I.base.tbls⟩, ⟨m, hn.sameBut hs (Ne.symm (cne x c hc)), fun j y v' e1 e2 e3 => ?_⟩, fun y c' e => ?_, I.free, I.freeC, fun p hp => ?_, tracked ⟨oc, hoc, I.freeC x c hc⟩ hs, by simpa using I.len⟩ ⟨c, hs, .inr hc⟩
    · exact (hs.2 b (Nat.ne_of_lt (Nat.lt_of_lt_of_le (Heap.lt_size e) (I.ok.cab x c hfn hc)))).trans (I.base.keep b o e n hb hx)
    · obtain ⟨sl, e1⟩ := I.base.slot b o e n hb hx
      exact ⟨sl, (hs.2 b (Nat.ne_of_lt (Nat.lt_of_lt_of_le (Heap.lt_size e) (I.ok.cab x c hfn hc)))).trans e1⟩
    · obtain ⟨o', e1⟩ := I.base.there b o e hx
      exact ⟨o', (hs.2 b (Nat.ne_of_lt (Nat.lt_of_lt_of_le (Heap.lt_size e) (I.ok.cab x c hfn hc)))).trans e1⟩
    · by_cases hj : j = i
      · subst hj
        rw [hi] at e1; cases e1
        rw [List.getElem?_set_self hiσ] at e2
        cases e2
        exact ⟨u, r, .inr ⟨.inl hk, c, hc, hc'⟩⟩
      · rw [List.getElem?_set_ne (Ne.symm hj)] at e2
        obtain ⟨u', r', q⟩ := hl j y v' e1 e2 e3
        refine ⟨u', r', ?_⟩
        rcases q with q | ⟨k, c', e, z'⟩
        · exact .inl q
        · refine .inr ⟨k, c', e, z'.sameBut hs ?_⟩
          rintro rfl
          exact hj (nodup_ix hN e1 (I.ok.inj _ _ _ e hc ▸ hi))
    · by_cases hcc : c' = c
      · subst hcc; exact ⟨_, hc'⟩
      · obtain ⟨w2, z2⟩ := I.cell y c' e
        exact ⟨w2, z2.sameBut hs hcc⟩
    · obtain ⟨e, n, ne, nf, d⟩ := I.pin p hp
      refine ⟨(hs.2 p.1 ?_).trans e, n, ne, nf, d⟩
      intro q
      rw [q, hoc] at e
      have q' : oc = p.2 := Option.some.inj e
      exact d w' (by rw [← q']; exact hocd)
theorem store_ok {M : Model} {A : Around} {E : Value → Shared → Prop} {i : Nat} {x : Str} {v : V} {u : Value} {Q : Unit → Shared → Prop} (I : Inv X pins σ H s) (hN : X.N.Nodup) (hi : X.N[i]? = some x) (hx : Loc X.env.scope x) (r : RelV v u)
    (h : ∀ s', Inv X pins (σ.set i (some v)) H s' → Q () s') (hf : X.fn x = true ∨ X.env.scope.names.lookup x = some .local := by first | exact .inl rfl | exact .inr rfl | assumption) : wpAny M A (storeName X.env x u) Q E s :=
  store_ok2 I hN hi hx r (fun s' I' _ => h s' I') hf
theorem Inv.call' {s' : Shared} {ch : List Addr} (I : Inv X pins σ H s) (ho : s'.os = s.os) (u : Un (frs X.stack) ch H H' s.heap s'.heap) (hok : HOk X.prog X.w H' s'.heap) (hg : AllBare s'.gens)
    (hch : ∀ b ∈ ch, (b ∈ X.ex ∨ X.s₀.heap.objs.size ≤ b) ∧ b ≠ X.env.locals ∧ (∀ x c, X.env.cells.lookup x = some c → c ≠ b) ∧ ∀ p ∈ X.pn ++ pins, p.1 ≠ b) : Inv X pins σ H' s' := by
  obtain ⟨h', g', d', t', o'⟩ := s'
  have e : o' = s.os := ho
  subst e
  exact I.call (g' := g') (t' := t') (d' := d') u hok hg hch
end
abbrev XK := Value → Option Addr → Hp → Prop
abbrev St := List (Option V)
abbrev VK := V → Hp → Prop
abbrev TE := St → Hp → VK → Prop
abbrev TT := St → Hp → (Bool → Hp → Prop) → Prop
abbrev TA := St → Hp → (List V → Hp → Prop) → Prop
structure Ends where
  nx : St → Hp → Prop
  rt : VK
  bk : St → Hp → Prop := fun _ _ => False
  ct : St → Hp → Prop := fun _ _ => False
abbrev TS := Ends → St → Hp → Prop
def EP (X : Cx) (pins : List (Addr × Obj)) (σ : St) (Q : VK) (u : Value) (s' : Shared) : Prop := ∃ v H', Inv X pins σ H' s' ∧ RelV v u ∧ Q v H'
def TP (X : Cx) (pins : List (Addr × Obj)) (σ : St) (Q : Bool → Hp → Prop) (b : Bool) (s' : Shared) : Prop := ∃ H', Inv X pins σ H' s' ∧ Q b H'
def AP (X : Cx) (pins : List (Addr × Obj)) (σ : St) (Q : List V → Hp → Prop) (us : List Value) (s' : Shared) : Prop := ∃ vs H', Inv X pins σ H' s' ∧ Vals vs us ∧ Q vs H'
def SP (X : Cx) (pins : List (Addr × Obj)) (D : Ends) (f : Flow) (s' : Shared) : Prop :=
  match f with
  | .next => ∃ σ' H', Inv X pins σ' H' s' ∧ D.nx σ' H'
  | .brk => ∃ σ' H', Inv X pins σ' H' s' ∧ D.bk σ' H'
  | .cont => ∃ σ' H', Inv X pins σ' H' s' ∧ D.ct σ' H'
  | .ret u => ∃ v σ' H', Inv X pins σ' H' s' ∧ RelV v u ∧ D.rt v H'
def PE (X : Cx) (e : Expr) (t : TE) : Prop :=
  ∀ (pins : List (Addr × Obj)) (s : Shared) (σ : St) (H : Hp) (Q : VK), Inv X pins σ H s → t σ H Q → wpAny (model X.prog X.w) X.A (eval e X.env) (EP X pins σ Q) X.xe s
def PT (X : Cx) (e : Expr) (t : TT) : Prop :=
  ∀ (pins : List (Addr × Obj)) (s : Shared) (σ : St) (H : Hp) (Q : Bool → Hp → Prop), Inv X pins σ H s → t σ H Q → wpAny (model X.prog X.w) X.A (isTrue e X.env (eval e X.env)) (TP X pins σ Q) X.xe s
def PW (X : Cx) (e : Expr) (t : TT) : Prop :=
  ∀ (whole : Sem Value) (pins : List (Addr × Obj)) (s : Shared) (σ : St) (H : Hp) (Q : Bool → Hp → Prop), Inv X pins σ H s → t σ H Q → wpAny (model X.prog X.w) X.A (isTrue e X.env whole) (TP X pins σ Q) X.xe s
theorem PW.pt {X : Cx} {e : Expr} {t : TT} (h : PW X e t) : PT X e t := h _
def PA (X : Cx) (es : List Expr) (t : TA) : Prop :=
  ∀ (pos : Pos) (pins : List (Addr × Obj)) (s : Shared) (σ : St) (H : Hp) (Q : List V → Hp → Prop), Inv X pins σ H s → t σ H Q → wpAny (model X.prog X.w) X.A (spliced (backTo pos (starEach es X.env))) (AP X pins σ Q) X.xe s
def PS (X : Cx) (st : Stmt) (t : TS) : Prop :=
  ∀ (pins : List (Addr × Obj)) (s : Shared) (σ : St) (H : Hp) (D : Ends), Inv X pins σ H s → t D σ H → wpAny (model X.prog X.w) X.A (exec st X.env) (SP X pins D) X.xe s
def PSs (X : Cx) (st : List Stmt) (t : TS) : Prop :=
  ∀ (pins : List (Addr × Obj)) (s : Shared) (σ : St) (H : Hp) (D : Ends), Inv X pins σ H s → t D σ H → wpAny (model X.prog X.w) X.A (execs st X.env) (SP X pins D) X.xe s
theorem thn {α : Type} {t : Sem α} {Q Q' : α → Shared → Prop} {M : Model} {A : Around} {E : Value → Shared → Prop} {s : Shared} (h : wpAny M A t Q E s) (hQ : ∀ a s, Q a s → Q' a s) : wpAny M A t Q' E s := wpAny_mono h hQ fun _ _ x => x
end L2
namespace L2
open PySem PySem.Spec PyProof.Rows
section
variable {X : Cx}
def tVar (i : Nat) : TE := fun σ H Q => ∃ v, σ[i]? = some (some v) ∧ Q v H
def tC (v : V) : TE := fun _ H Q => Q v H
theorem pe_var {i : Nat} {x : Str} {pos : Pos} (hN : X.N[i]? = some x) (hv : Vis X.env.scope x) (hd : (x == ("__debug__" : Str)) = false := by decide) (hcd : (x == ("__classdict__" : Str)) = false := by decide) : PE X (.Name x pos) (tVar i) := by
  intro pins s σ H Q I h
  obtain ⟨v, e, h⟩ := h
  obtain ⟨m, hn, hl⟩ := I.loc
  obtain ⟨u, r, l⟩ := hl i x v hN e hv
  have fin : EP X pins σ Q u s := ⟨v, H, I, r, h⟩
  rcases l with ⟨hk, hm⟩ | ⟨hk, c, hc, hcell⟩
  · exact wpAny_Name (wpAny_loadName_local I.ok.kind hk hn hm fin) hd
  · rcases hk with hk | hk
    · exact wpAny_Name (wpAny_loadName_cell I.ok.kind hk hc hcell fin) hd
    · exact wpAny_Name (wpAny_loadName_free I.ok.kind hk hc hcell fin hcd) hd
theorem pe_int {i j pos} : PE X (.Constant (.int i) j pos) (tC (.int i)) := fun _ _ _ H _ I h => wpAny_Constant_int ⟨.int i, H, I.tok _, ⟨_, rfl⟩, h⟩
theorem pe_bl {b j pos} : PE X (.Constant (.bool b) j pos) (tC (.bl b)) := fun _ _ _ H _ I h => Constant_bool ⟨.bl b, H, I, rfl, h⟩
theorem pe_non {j pos} : PE X (.Constant .none j pos) (tC .non) := fun _ _ _ H _ I h => Constant_none ⟨.non, H, I, rfl, h⟩
theorem pe_str {x j pos} : PE X (.Constant (.str x) j pos) (tC (.str x)) := fun _ _ _ H _ I h => Calls.Constant_str ⟨.str x, H, I.tok _, ⟨_, rfl⟩, h⟩
def Gl (X : Cx) (x : Str) : Prop := X.env.kindOf x = some .globalImplicit
theorem ld_glob {E : Value → Shared → Prop} {pins : List (Addr × Obj)} {s : Shared} {σ : St} {H : Hp} {x : Str} {u : Value} {pos : Pos} {Q : Value → Shared → Prop} (I : Inv X pins σ H s) (hg : Gl X x) (hm : X.mg x = some u) (h : Q u s)
    (hd : (x == ("__debug__" : Str)) = false := by decide) : wpAny (model X.prog X.w) X.A (eval (.Name x pos) X.env) Q E s :=
  Calls.Name_function_global I.ok.kind hg (Calls.loadGlobal_global (by rw [I.ok.glob]; exact I.mod.glob.keeps I.bk) hm h) hd
theorem ld_blt {E : Value → Shared → Prop} {pins : List (Addr × Obj)} {s : Shared} {σ : St} {H : Hp} {x : Str} {u : Value} {pos : Pos} {Q : Value → Shared → Prop} (I : Inv X pins σ H s) (hg : Gl X x) (hm : X.mg x = none) (hv : bootBuiltins x = some u) (h : Q u s)
    (hn : x ≠ "__name__" := by decide) (hd : (x == ("__debug__" : Str)) = false := by decide) : wpAny (model X.prog X.w) X.A (eval (.Name x pos) X.env) Q E s := by
  obtain ⟨mb, h1, h2⟩ := I.mod.blt
  exact Calls.Name_function_global I.ok.kind hg (Calls.loadGlobal_builtin (by rw [I.ok.glob]; exact I.mod.glob.keeps I.bk) hm (by rw [I.ok.blt]; exact h1.keeps I.bk) ((h2 x hn).trans hv) h) hd
theorem pe_glob {x : Str} {v : V} {u : Value} {pos : Pos} (hg : Gl X x) (hm : X.mg x = some u) (r : RelV v u) (hd : (x == ("__debug__" : Str)) = false := by decide) : PE X (.Name x pos) (tC v) :=
  fun _ _ _ H _ I h => ld_glob I hg hm ⟨v, H, I, r, h⟩ hd
theorem pe_bltn {x : Str} {v : V} {u : Value} {pos : Pos} (hg : Gl X x) (hm : X.mg x = none) (hv : bootBuiltins x = some u) (r : RelV v u) (hn : x ≠ "__name__" := by decide) (hd : (x == ("__debug__" : Str)) = false := by decide) : PE X (.Name x pos) (tC v) :=
  fun _ _ _ H _ I h => ld_blt I hg hm hv ⟨v, H, I, r, h⟩ hn hd
variable {a b : Expr} {ta tb : TE} {pos : Pos}
def tB (t : TE) : TT := fun σ H Q => t σ H fun x H1 => ∃ c, x = .bl c ∧ Q c H1
theorem pt_val {e : Expr} {t : TE} (h : PE X e t) (he : ∀ whole, isTrue e X.env whole = (do let v ← whole; standAt e.pos; holding [v] (truthy v)) := by intro _; rfl) : PT X e (tB t) := by
  intro pins s σ H Q I hw
  refine isTrue_plain (thn (h pins s σ H _ I hw) fun v s1 ⟨x, H1, I1, r1, q1⟩ => ?_) (he _)
  obtain ⟨d, rfl, q⟩ := q1
  cases r1
  exact wpAny_truthy_bool ⟨H1, I1, q⟩
variable {tA tB' : TT} {rest : List Expr}
def tAnd (t u : TT) : TT := fun σ H Q => t σ H fun c H1 => if c = true then u σ H1 Q else Q false H1
def tOr (t u : TT) : TT := fun σ H Q => t σ H fun c H1 => if c = true then Q true H1 else u σ H1 Q
def tNot (t : TT) : TT := fun σ H Q => t σ H fun c H1 => Q (!c) H1
theorem pw_and1 (ha : PT X a tA) : PW X (.BoolOp .And [a] pos) tA := by
  intro wh pins s σ H Q I h
  refine isTrue_and (thn (ha pins s σ H Q I h) fun c s1 e => ?_)
  cases c with
  | true => exact isTrue_and_nil e
  | false => exact e
theorem pw_or1 (ha : PT X a tA) : PW X (.BoolOp .Or [a] pos) tA := by
  intro wh pins s σ H Q I h
  refine isTrue_or (thn (ha pins s σ H Q I h) fun c s1 e => ?_)
  cases c with
  | false => exact isTrue_or_nil e
  | true => exact e
theorem pw_and (ha : PT X a tA) (hb : PW X (.BoolOp .And (b :: rest) pos) tB') : PW X (.BoolOp .And (a :: b :: rest) pos) (tAnd tA tB') := by
  intro wh pins s σ H Q I h
  refine isTrue_and (thn (ha pins s σ H _ I h) fun c s1 ⟨H1, I1, q1⟩ => ?_)
  cases c with
  | true => exact hb wh pins s1 σ H1 Q I1 q1
  | false => exact ⟨H1, I1, q1⟩
theorem pw_or (ha : PT X a tA) (hb : PW X (.BoolOp .Or (b :: rest) pos) tB') : PW X (.BoolOp .Or (a :: b :: rest) pos) (tOr tA tB') := by
  intro wh pins s σ H Q I h
  refine isTrue_or (thn (ha pins s σ H _ I h) fun c s1 ⟨H1, I1, q1⟩ => ?_)
  cases c with
  | true => exact ⟨H1, I1, q1⟩
  | false => exact hb wh pins s1 σ H1 Q I1 q1
theorem pt_not (ha : PT X a tA) : PT X (.UnaryOp .Not a pos) (tNot tA) := by
  intro pins s σ H Q I h
  exact isTrue_not (ha pins s σ H (fun c H1 => Q (!c) H1) I h)
def tAndV (ta tb : TE) : TE := fun σ H Q => ta σ H fun x H1 => ∃ c, x = .bl c ∧ if c = true then tb σ H1 Q else Q (.bl false) H1
def tNotV (ta : TE) : TE := fun σ H Q => ta σ H fun x H1 => ∃ c, x = .bl c ∧ Q (.bl (!c)) H1
theorem pe_one {op} {t : TE} (h : PE X a t) : PE X (.BoolOp op [a] pos) t := fun pins s σ H Q I hw => BoolOp_one (h pins s σ H Q I hw)
theorem pe_and (ha : PE X a ta) (hb : PE X (.BoolOp .And (b :: rest) pos) tb) : PE X (.BoolOp .And (a :: b :: rest) pos) (tAndV ta tb) := by
  intro pins s σ H Q I h
  refine BoolOp_and (thn (ha pins s σ H _ I h) fun v s1 ⟨x, H1, I1, r1, q1⟩ => ?_)
  obtain ⟨c, rfl, q1⟩ := q1
  cases r1
  refine wpAny_truthy_bool ?_
  cases c with
  | true => exact hb pins s1 σ H1 Q I1 q1
  | false => exact ⟨.bl false, H1, I1, rfl, q1⟩
theorem pe_not (ha : PE X a ta) : PE X (.UnaryOp .Not a pos) (tNotV ta) := by
  intro pins s σ H Q I h
  refine UnaryOp_ (thn (ha pins s σ H _ I h) fun v s1 ⟨x, H1, I1, r1, q1⟩ => ?_)
  obtain ⟨c, rfl, q1⟩ := q1
  cases r1
  exact not_of (wpAny_truthy_bool ⟨.bl (!c), H1, I1, rfl, q1⟩)
def tIf (t : TT) (ta tb : TE) : TE := fun σ H Q => t σ H fun c H1 => if c = true then ta σ H1 Q else tb σ H1 Q
theorem pe_ifExp {c : Expr} (hc : PT X c tA) (ha : PE X a ta) (hb : PE X b tb) : PE X (.IfExp c a b pos) (tIf tA ta tb) := by
  intro pins s σ H Q I h
  refine wpAny_IfExp (thn (hc pins s σ H _ I h) fun d s1 ⟨H1, I1, q1⟩ => ?_)
  cases d with
  | true => exact ha pins s1 σ H1 Q I1 q1
  | false => exact hb pins s1 σ H1 Q I1 q1
end
end L2
namespace L2
open PySem PySem.Spec PyProof.Rows
def SqL (K : PySem.W.Frag) (H : Hp) (a : Addr) (xs : List V) : Prop :=
  Rd H a (.lst xs) ∨
    ∃ (o : Obj) (its : Array Value) (n : Nat), K.lookup a = some o ∧ o.cls = .type "list" ∧ o.dict = none ∧ o.data = .seq its n ∧ its.size ≤ sizeLine ∧ Vals xs its.toList
def SqT (K : PySem.W.Frag) (H : Hp) (a : Addr) (xs : List V) : Prop :=
  Rd H a (.tup xs) ∨
    ∃ (o : Obj) (its : Array Value) (n : Nat), K.lookup a = some o ∧ o.cls = .type "tuple" ∧ o.data = .seq its n ∧ its.size ≤ sizeLine ∧ Vals xs its.toList
def absV : Value → Option V
  | .none => some .non
  | .bool b => some (.bl b)
  | .int i _ => some (.int i)
  | .str x _ => some (.str x)
  | .bytes b _ => some (.byt b)
  | .float b _ => some (.flt b)
  | .ref a => some (.ref a)
  | .type n => some (.ty n)
  | _ => none
theorem RelV.abs {x : V} {u : Value} (r : RelV x u) : absV u = some x := by
  cases x with
  | non => cases r; rfl
  | bl _ => cases r; rfl
  | int _ => obtain ⟨t, rfl⟩ := r; rfl
  | str _ => obtain ⟨t, rfl⟩ := r; rfl
  | byt _ => obtain ⟨t, rfl⟩ := r; rfl
  | flt _ => obtain ⟨t, rfl⟩ := r; rfl
  | ref _ => cases r; rfl
  | ty _ => cases r; rfl
theorem RelV.inj {x y : V} {u : Value} (r : RelV x u) (q : RelV y u) : x = y := Option.some.inj (r.abs.symm.trans q.abs)
theorem Vals.inj : ∀ {xs ys : List V} {us : List Value}, Vals xs us → Vals ys us → xs = ys
  | _, _, _, .nil, .nil => rfl
  | _, _, _, .cons r t, .cons r' t' => by rw [r.inj r', Vals.inj t t']
section
variable {X : Cx} {pins : List (Addr × Obj)} {σ : St} {H : Hp} {s : Shared} {a : Addr} {xs ys : List V}
theorem SqL.of {K : PySem.W.Frag} (h : H a = some (.lst xs)) : SqL K H a xs := .inl (.inl h)
theorem SqT.of {K : PySem.W.Frag} (h : H a = some (.tup xs)) : SqT K H a xs := .inl (.inl h)
theorem Inv.list (I : Inv X pins σ H s) (h : SqL X.K H a xs) : ∃ its : List Value, Vals xs its ∧ PlainL s.heap a its.toArray ∧ xs.length ≤ sizeLine := by
  rcases h with h | ⟨o, its, n, hk, hc, hd, hs, hz, r⟩
  · obtain ⟨z, its, n, r, e⟩ := h.ok I.hok
    exact ⟨its, r, ⟨_, n, e, rfl, rfl, rfl⟩, z⟩
  · refine ⟨its.toList, r, ⟨o, n, I.kIn a o hk, hc, hd, by simpa using hs⟩, ?_⟩
    have e := r.length
    simp only [Array.length_toList] at e
    omega
theorem Inv.tuple (I : Inv X pins σ H s) (h : SqT X.K H a xs) : ∃ its : List Value, Vals xs its ∧ IsTup s.heap a its.toArray ∧ xs.length ≤ sizeLine := by
  rcases h with h | ⟨o, its, n, hk, hc, hs, hz, r⟩
  · obtain ⟨z, its, r, p⟩ := h.ok I.hok
    exact ⟨its, r, p, z⟩
  · refine ⟨its.toList, r, ⟨o, I.kIn a o hk, hc, n, by simpa using hs⟩, ?_⟩
    have e := r.length
    simp only [Array.length_toList] at e
    omega
theorem Inv.list_inj (I : Inv X pins σ H s) (h : SqL X.K H a xs) (h' : SqL X.K H a ys) : xs = ys := by
  obtain ⟨its, r, ⟨o, n, e, _, _, d⟩, _⟩ := I.list h
  obtain ⟨its', r', ⟨o', n', e', _, _, d'⟩, _⟩ := I.list h'
  rw [e] at e'; cases e'
  rw [d] at d'
  injection d' with d1 _
  have : its = its' := by simpa using congrArg Array.toList d1
  subst this
  exact r.inj r'
theorem Inv.tuple_inj (I : Inv X pins σ H s) (h : SqT X.K H a xs) (h' : SqT X.K H a ys) : xs = ys := by
  obtain ⟨its, r, ⟨o, e, _, n, d⟩, _⟩ := I.tuple h
  obtain ⟨its', r', ⟨o', e', _, n', d'⟩, _⟩ := I.tuple h'
  rw [e] at e'; cases e'
  rw [d] at d'
  injection d' with d1 _
  have : its = its' := by simpa using congrArg Array.toList d1
  subst this
  exact r.inj r'
end
abbrev Cx.wish (X : Cx) (E : Value → Shared → Prop) : Cx := { X with xe := E }
abbrev Cx.nox (X : Cx) : Cx := X.wish fun _ _ => False
theorem Cx.Ok.wish {X : Cx} (ok : X.Ok) (E : Value → Shared → Prop) : (X.wish E).Ok :=
  ⟨ok.mod, ok.kind, ok.glob, ok.blt, ok.above, ok.inj, ok.has, ok.cab, ok.hd, ok.frames, ok.stk, ok.exf, ok.bs, ok.bsz, ok.noex, ok.exfs, ok.funs, ok.frf⟩
theorem Cx.Ok.unwish {X : Cx} {E : Value → Shared → Prop} (ok : (X.wish E).Ok) : X.Ok :=
  ⟨ok.mod, ok.kind, ok.glob, ok.blt, ok.above, ok.inj, ok.has, ok.cab, ok.hd, ok.frames, ok.stk, ok.exf, ok.bs, ok.bsz, ok.noex, ok.exfs, ok.funs, ok.frf⟩
section
variable {X : Cx} {pins : List (Addr × Obj)} {σ : St} {H : Hp} {s : Shared} {E : Value → Shared → Prop}
theorem Inv.wish (I : Inv X pins σ H s) (E : Value → Shared → Prop) : Inv (X.wish E) pins σ H s := ⟨I.ok.wish E, I.os, I.bare, I.base, I.loc, I.cell, I.free, I.freeC, I.pin, I.hok, I.len⟩
theorem Inv.unwish (I : Inv (X.wish E) pins σ H s) : Inv X pins σ H s := ⟨I.ok.unwish, I.os, I.bare, I.base, I.loc, I.cell, I.free, I.freeC, I.pin, I.hok, I.len⟩
theorem SP.unwish {D : Ends} {f : Flow} {s' : Shared} (h : SP (X.wish E) pins D f s') : SP X pins D f s' := by
  cases f with
  | next => obtain ⟨σ', H', I, q⟩ := h; exact ⟨σ', H', I.unwish, q⟩
  | brk => obtain ⟨σ', H', I, q⟩ := h; exact ⟨σ', H', I.unwish, q⟩
  | cont => obtain ⟨σ', H', I, q⟩ := h; exact ⟨σ', H', I.unwish, q⟩
  | ret u => obtain ⟨v, σ', H', I, r, q⟩ := h; exact ⟨v, σ', H', I.unwish, r, q⟩
theorem PSs.nox {st : List Stmt} {t : TS} (h : PSs X.nox st t) : PSs X st t := fun pins s σ H D I hw =>
  wpAny_mono (h pins s σ H D (I.wish _) hw) (fun _ _ q => q.unwish) fun _ _ z => False.elim z
end
section
variable {X : Cx} {st : Stmt} {rest : List Stmt} {t u : TS} {e : Expr} {te : TE} {pos : Pos}
def tNext : TS := fun D σ H => D.nx σ H
def tSeq (t u : TS) : TS := fun D σ H => t { D with nx := u D } σ H
theorem pss_nil : PSs X [] tNext := fun _ _ σ H _ I h => wpAny_execs_nil ⟨σ, H, I, h⟩
theorem pss_cons (h1 : PS X st t) (h2 : PSs X rest u) : PSs X (st :: rest) (tSeq t u) := by
  intro pins s σ H D I h
  refine wpAny_execs_cons (thn (h1 pins s σ H { D with nx := u D } I h) fun f s1 q => ?_)
  cases f with
  | next =>
    obtain ⟨σ', H', I', q⟩ := q
    exact h2 pins s1 σ' H' D I' q
  | ret v => exact q
  | brk => exact q
  | cont => exact q
theorem pss_one (h1 : PS X st t) : PSs X [st] t := by
  intro pins s σ H D I h
  refine wpAny_execs_cons (thn (h1 pins s σ H D I h) fun f s1 q => ?_)
  cases f with
  | next => exact wpAny_execs_nil q
  | ret v => exact q
  | brk => exact q
  | cont => exact q
theorem Inv.quiet {pins : List (Addr × Obj)} {σ : St} {H : Hp} {s : Shared} (I : Inv X pins σ H s) : interactive X.env = false := by simp [interactive, I.ok.kind]
def tDrop (te : TE) : TS := fun D σ H => te σ H fun _ H1 => D.nx σ H1
theorem ps_expr (he : PE X e te) (hs : swapsWith e none pos.line X.env = pure false := by rfl) : PS X (.Expr e pos) (tDrop te) := by
  intro pins s σ H D I h
  exact wpAny_Expr_any (thn (he pins s σ H _ I h) fun v s1 ⟨x, H1, I1, r1, q1⟩ => ⟨σ, H1, I1, q1⟩) I.quiet hs
def tRet (te : TE) : TS := fun D σ H => te σ H D.rt
theorem ps_ret (he : PE X e te) : PS X (.Return (some e) pos) (tRet te) := by
  intro pins s σ H D I h
  exact wpAny_Return_some (thn (he pins s σ H _ I h) fun v s1 ⟨x, H1, I1, r1, q1⟩ => ⟨x, σ, H1, I1, r1, q1⟩)
def tIfS (c : TT) (t u : TS) : TS := fun D σ H => c σ H fun b H1 => if b = true then t D σ H1 else u D σ H1
theorem ps_if {c : Expr} {a b : List Stmt} {tc : TT} (hc : PT X c tc) (ha : PSs X a t) (hb : PSs X b u) : PS X (.If c a b pos) (tIfS tc t u) := by
  intro pins s σ H D I h
  refine wpAny_If (thn (hc pins s σ H _ I h) fun d s1 ⟨H1, I1, q1⟩ => ?_)
  cases d with
  | true => exact ha pins s1 σ H1 D I1 q1
  | false => exact hb pins s1 σ H1 D I1 q1
end
abbrev TG := V → St → Hp → (St → Hp → Prop) → Prop
abbrev TGs := List V → St → Hp → (St → Hp → Prop) → Prop
def PG (X : Cx) (target : Expr) (t : TG) : Prop :=
  ∀ (pins : List (Addr × Obj)) (s : Shared) (σ : St) (H : Hp) (v : V) (u : Value) (Q : St → Hp → Prop), Inv X pins σ H s → RelV v u → t v σ H Q →
    wpAny (model X.prog X.w) X.A (assign target X.env u) (fun _ s' => ∃ σ' H', Inv X pins σ' H' s' ∧ Q σ' H') X.xe s
def PGs (X : Cx) (ts : List Expr) (t : TGs) : Prop :=
  ∀ (pins : List (Addr × Obj)) (s : Shared) (σ : St) (H : Hp) (vs : List V) (us : List Value) (Q : St → Hp → Prop), Inv X pins σ H s → Vals vs us → t vs σ H Q →
    wpAny (model X.prog X.w) X.A (assignInOrder ((assignEach ts X.env).map (·.2)) us) (fun _ s' => ∃ σ' H', Inv X pins σ' H' s' ∧ Q σ' H') X.xe s
section
variable {X : Cx} {pos : Pos}
def gName (i : Nat) : TG := fun v σ H Q => Q (σ.set i (some v)) H
theorem pg_name {i : Nat} {x : Str} (hN : X.N.Nodup) (hi : X.N[i]? = some x) (hx : Loc X.env.scope x) (hf : X.fn x = true ∨ X.env.scope.names.lookup x = some .local := by first | exact .inl rfl | exact .inr rfl | assumption) : PG X (.Name x pos) (gName i) := by
  intro pins s σ H v u Q I r h
  exact wpAny_assign_Name (store_ok I hN hi hx r (fun s' I' => ⟨_, H, I', h⟩) hf)
def gNil : TGs := fun vs σ H Q => vs = [] ∧ Q σ H
def gCons (t : TG) (u : TGs) : TGs := fun vs σ H Q => ∃ v r, vs = v :: r ∧ t v σ H fun σ' H' => u r σ' H' Q
theorem pgs_nil : PGs X [] gNil := by
  intro pins s σ H vs us Q I r h
  obtain ⟨e, h⟩ := h
  subst e
  cases r
  exact assignInOrder_nil ⟨σ, H, I, h⟩
theorem pgs_cons {e : Expr} {es : List Expr} {t : TG} {u : TGs} (h1 : PG X e t) (h2 : PGs X es u)
    (hs : (assignEach (e :: es) X.env).map (·.2) = assign e X.env :: (assignEach es X.env).map (·.2) := by rfl) : PGs X (e :: es) (gCons t u) := by
  intro pins s σ H vs us Q I r h
  obtain ⟨v, vr, e1, h⟩ := h
  subst e1
  cases r with
  | cons r rr =>
    rw [hs]
    refine assignInOrder_cons (thn (h1 pins s σ H _ _ _ I r h) fun _ s1 ⟨σ1, H1, I1, q1⟩ => ?_)
    exact h2 pins s1 σ1 H1 _ _ Q I1 rr q1
def gTup (K : PySem.W.Frag) (n : Nat) (t : TGs) : TG := fun v σ H Q => ∃ a xs, v = .ref a ∧ SqT K H a xs ∧ xs.length = n ∧ t xs σ H Q
theorem pg_tup {es : List Expr} {k : Nat} {t : TGs} {n : Nat} (hc : X.calm = true) (h : PGs X es t)
    (hn : (assignEach es X.env).length = n := by rfl) (hst : (assignEach es X.env).findIdx? (·.1) = none := by rfl) : PG X (.Tuple es k pos) (gTup X.K n t) := by
  intro pins s σ H v u Q I r hw
  obtain ⟨a, xs, e1, hq, hl, hw⟩ := hw
  subst e1
  cases r
  obtain ⟨its, rv, ht, hz⟩ := I.tuple hq
  refine assign_Tuple_tuple (I.ok.hd hc) ht (by simp [hn, ← hl, rv.length]) hst fun h' hx => ?_
  have I1 : Inv X pins σ H { s with heap := h' } := I.kept (t' := s.toks) fun b o e => hx b o (Nat.ne_of_lt (Heap.lt_size e)) e
  exact h pins _ σ H xs _ Q I1 (by simpa using rv) hw
def tAsg (te : TE) (g : TG) : TS := fun D σ H => te σ H fun x H1 => g x σ H1 D.nx
theorem ps_asg {tg e : Expr} {te : TE} {g : TG} (he : PE X e te) (hg : PG X tg g) (hs : swapsWithSole [tg] e pos.line X.env = pure false := by rfl) (hw : swappedStores [tg] e X.env = pure none := by rfl)
    (h1 : (assignEach [tg] X.env).map (·.2) = [assign tg X.env] := by rfl) : PS X (.Assign [tg] e pos) (tAsg te g) := by
  intro pins s σ H D I h
  refine wpAny_Assign_stores (thn (he pins s σ H _ I h) fun v s1 ⟨x, H1, I1, r1, q1⟩ => ?_) hs hw
  rw [h1]
  exact thn (hg pins s1 σ H1 x v _ I1 r1 q1) fun _ s2 q => q
theorem ps_set {i : Nat} {x : Str} {e : Expr} {te : TE} {pos' : Pos} (hN : X.N.Nodup) (hi : X.N[i]? = some x) (hx : Loc X.env.scope x) (he : PE X e te) (hs : swapsWith e (some (.Name x pos')) pos.line X.env = pure false := by rfl) (hf : X.fn x = true ∨ X.env.scope.names.lookup x = some .local := by first | exact .inl rfl | exact .inr rfl | assumption) :
    PS X (.Assign [.Name x pos'] e pos) (tAsg te (gName i)) := by
  intro pins s σ H D I h
  refine wpAny_Assign_Name (thn (he pins s σ H _ I h) fun v s1 ⟨y, H1, I1, r1, q1⟩ => ?_) hs
  exact store_ok I1 hN hi hx r1 (fun s2 I2 => ⟨_, H1, I2, q1⟩) hf
end
section
variable {X : Cx} {pos : Pos}
end
structure It where
  go : Nat → Hp → Prop
  yld : Nat → Hp → V → Hp → Prop
  stop : Nat → Hp → Prop
def FpOk (X : Cx) (pins : List (Addr × Obj)) (H : Hp) (b : Addr) : Prop :=
  H b = none ∧ b ≠ X.env.locals ∧ b ∉ X.fs ∧ (b ∈ X.ex ∨ X.s₀.heap.objs.size ≤ b) ∧ (∀ x c, X.env.cells.lookup x = some c → c ≠ b) ∧ ∀ p ∈ X.pn ++ pins, p.1 ≠ b
theorem Inv.fpOk {X : Cx} {pins : List (Addr × Obj)} {σ : St} {H H' : Hp} {s : Shared} {b : Addr} (I : Inv X pins σ H s) (hb : s.heap.objs.size ≤ b) (hn : H' b = none) : FpOk X pins H' b := by
  refine ⟨hn, Nat.ne_of_gt (Nat.lt_of_lt_of_le I.lt hb), I.nofs hb, .inr (Nat.le_trans I.sz hb), fun x c e z => ?_, fun p hp z => ?_⟩
  · obtain ⟨v, q⟩ := I.cell x c e
    exact absurd (Nat.lt_of_lt_of_le q.lt (by rw [z]; exact hb)) (Nat.lt_irrefl _)
  · exact absurd (Nat.lt_of_lt_of_le (Heap.lt_size (I.pin p hp).1) (by rw [z]; exact hb)) (Nat.lt_irrefl _)
structure Turn (P : Program) (w : World) (K : PySem.W.Frag) (tg : Expr) (J : It) (fp : List Addr) (it : Addr) (tn : Nat → Heap → Prop) : Prop where
  mem : it ∈ fp
  obj : ∀ i h, tn i h → ∀ b ∈ fp, ∃ o, h.get? b = some o ∧ ∀ v, o.data ≠ .cell v
  keep : ∀ i h h', tn i h → (∀ b ∈ fp, ∀ o, h.get? b = some o → h'.get? b = some o) → tn i h'
  item : ∀ (X : Cx), X.prog = P → X.w = w → X.K = K → X.calm = true → ∀ (i : Nat) (pins : List (Addr × Obj)) (s : Shared) (σ : St) (H : Hp) (E : Value → Shared → Prop), Inv X pins σ H s → (∀ b ∈ fp, FpOk X pins H b) → tn i s.heap → J.go i H →
    wpAny (model P w) X.A (pyNext (.ref it)) (fun r s1 => ∃ u, r = some u ∧
      wpAny (model P w) X.A (letOwnedTupleGo tg (.ref it) u) (fun _ s2 => ∃ x H', Inv X pins σ H' s2 ∧ RelV x u ∧ J.yld i H x H' ∧ tn (i + 1) s2.heap ∧ ∀ b ∈ fp, H' b = none) E s1) E s
  done : ∀ (X : Cx), X.prog = P → X.w = w → X.K = K → X.calm = true → ∀ (i : Nat) (pins : List (Addr × Obj)) (s : Shared) (σ : St) (H : Hp) (E : Value → Shared → Prop), Inv X pins σ H s → (∀ b ∈ fp, FpOk X pins H b) → tn i s.heap → J.stop i H →
    wpAny (model P w) X.A (pyNext (.ref it)) (fun r s1 => r = none ∧ Inv X pins σ H s1) E s
  self : ∀ (A : Around) (i : Nat) (s : Shared) (Q : Value → Shared → Prop) (E : Value → Shared → Prop), tn i s.heap → Q (.ref it) s → wpAny (model P w) A (pyIter (.ref it)) Q E s
abbrev TI := St → Hp → (It → Hp → Prop) → Prop
def PIE (X : Cx) (pins : List (Addr × Obj)) (σ : St) (tg : Expr) (R : It → Hp → Prop) (itv : Value) (s2 : Shared) : Prop :=
  ∃ (it : Addr) (fp : List Addr) (tn : Nat → Heap → Prop) (J : It) (H' : Hp), itv = .ref it ∧ Inv X pins σ H' s2 ∧ Turn X.prog X.w X.K tg J fp it tn ∧ tn 0 s2.heap ∧ (∀ b ∈ fp, FpOk X pins H' b) ∧ R J H'
def PI (X : Cx) (tg iter : Expr) (wi : TI) : Prop :=
  ∀ (pins : List (Addr × Obj)) (s : Shared) (σ : St) (H : Hp) (R : It → Hp → Prop), Inv X pins σ H s → wi σ H R →
    wpAny (model X.prog X.w) X.A (eval iter X.env) (fun v s1 => wpAny (model X.prog X.w) X.A (pyIter v) (PIE X pins σ tg R) X.xe s1) X.xe s
theorem go_of {M : Model} {A : Around} {E : Value → Shared → Prop} {s : Shared} {tg : Expr} {it : Addr} {u : Value} {o : Obj} {n : String} {vs : Array Value} {Q : Unit → Shared → Prop} (ho : s.heap.get? it = some o) (hc : o.cls = .type n) (hd : o.data = .fields vs)
    (hn : ["enumerate", "zip", "dict_itemiterator", "dict_reverseitemiterator", "odict_iterator", "itertools.zip_longest", "itertools.pairwise"].contains n = false) (hQ : Q () s) : wpAny M A (letOwnedTupleGo tg (.ref it) u) Q E s := by
  unfold letOwnedTupleGo
  cases tg <;> first
    | exact wpAny_pure hQ
    | (cases u <;> first
        | exact wpAny_pure hQ
        | (refine wpAny_bind (wpAny_load ho ?_)
           rw [hc, hd]
           show wpAny M A (if (["enumerate", "zip", "dict_itemiterator", "dict_reverseitemiterator", "odict_iterator", "itertools.zip_longest", "itertools.pairwise"].contains n && vs[0]? == some (rawInt _)) = true then _ else _) Q E s
           rw [if_neg (by intro h; rw [hn, Bool.false_and] at h; cases h)]
           exact wpAny_pure hQ))
def Itl (K : PySem.W.Frag) (a : Addr) : It :=
  ⟨fun i H => ∃ xs x, SqL K H a xs ∧ xs[i]? = some x, fun i H x H' => H' = H ∧ ∀ xs, SqL K H a xs → xs[i]? = some x, fun i H => ∃ xs, SqL K H a xs ∧ xs.length ≤ i⟩
def Itt (K : PySem.W.Frag) (a : Addr) : It :=
  ⟨fun i H => ∃ xs x, SqT K H a xs ∧ xs[i]? = some x, fun i H x H' => H' = H ∧ ∀ xs, SqT K H a xs → xs[i]? = some x, fun i H => ∃ xs, SqT K H a xs ∧ xs.length ≤ i⟩
def Itr (lo : Int) (n : Nat) : It := ⟨fun i _ => i < n, fun i H x H' => H' = H ∧ x = .int (lo + i), fun i _ => n ≤ i⟩
theorem turn_list {P : Program} {w : World} {K : PySem.W.Frag} {tg : Expr} (a it : Addr) : Turn P w K tg (Itl K a) [it] it (fun i h => h.IsListIter it a i) where
  mem := by simp
  obj := fun i h st b hb => by
    have e : b = it := by simpa using hb
    subst e
    obtain ⟨o, e, c, d⟩ := st
    exact ⟨o, e, fun v z => by rw [d] at z; cases z⟩
  keep := fun i h h' st k => st.at fun o e => k it (by simp) o e
  item := by
    intro X hP hw hK hc i pins s σ H E I hf st hg
    subst hP hw hK
    obtain ⟨xs, x, hq, hx⟩ := hg
    obtain ⟨its, rv, p, hz⟩ := I.list hq
    obtain ⟨u, hu, ru⟩ := rv.get hx
    obtain ⟨f0, f1, f2, f3, f4, f5⟩ := hf it (by simp)
    refine wpAny_pyNext_list_item st p.isList (x := u) (by simpa using hu) fun h' st' sb => ?_
    have I1 : Inv X pins σ H { s with heap := h' } := I.turned (t' := s.toks) (fun b o hb e => (sb.2 b hb).trans e) f0 f1 f3 f4 f5
    obtain ⟨o, e, c, d⟩ := id st'
    exact ⟨u, rfl, go_of (s := { s with heap := h' }) e c d (by decide) ⟨x, H, I1, ru, ⟨rfl, fun ys hy => by rw [I.list_inj hy hq]; exact hx⟩, st', fun b hb => (hf b hb).1⟩⟩
  done := by
    intro X hP hw hK hc i pins s σ H E I hf st hg
    subst hP hw hK
    obtain ⟨xs, hq, hx⟩ := hg
    obtain ⟨its, rv, p, hz⟩ := I.list hq
    obtain ⟨f0, f1, f2, f3, f4, f5⟩ := hf it (by simp)
    have hl := rv.length
    exact wpAny_pyNext_list_end (I.ok.hd hc) st p.isList (by simp; omega) fun h' eb => ⟨rfl, I.turned (t' := s.toks) (fun b o hb e => eb b o hb e) f0 f1 f3 f4 f5⟩
  self := fun _ _ _ _ _ st h => wpAny_pyIter_listiter st h
theorem turn_tuple {P : Program} {w : World} {K : PySem.W.Frag} {tg : Expr} (a it : Addr) : Turn P w K tg (Itt K a) [it] it (fun i h => h.IsTupleIter it a i) where
  mem := by simp
  obj := fun i h st b hb => by
    have e : b = it := by simpa using hb
    subst e
    obtain ⟨o, e, c, d⟩ := st
    exact ⟨o, e, fun v z => by rw [d] at z; cases z⟩
  keep := fun i h h' st k => st.at fun o e => k it (by simp) o e
  item := by
    intro X hP hw hK hc i pins s σ H E I hf st hg
    subst hP hw hK
    obtain ⟨xs, x, hq, hx⟩ := hg
    obtain ⟨its, rv, p, hz⟩ := I.tuple hq
    obtain ⟨u, hu, ru⟩ := rv.get hx
    obtain ⟨f0, f1, f2, f3, f4, f5⟩ := hf it (by simp)
    refine wpAny_pyNext_tuple_item st (show s.heap.IsTuple a its.toArray from p) (x := u) (by simpa using hu) fun h' st' sb => ?_
    have I1 : Inv X pins σ H { s with heap := h' } := I.turned (t' := s.toks) (fun b o hb e => (sb.2 b hb).trans e) f0 f1 f3 f4 f5
    obtain ⟨o, e, c, d⟩ := id st'
    exact ⟨u, rfl, go_of (s := { s with heap := h' }) e c d (by decide) ⟨x, H, I1, ru, ⟨rfl, fun ys hy => by rw [I.tuple_inj hy hq]; exact hx⟩, st', fun b hb => (hf b hb).1⟩⟩
  done := by
    intro X hP hw hK hc i pins s σ H E I hf st hg
    subst hP hw hK
    obtain ⟨xs, hq, hx⟩ := hg
    obtain ⟨its, rv, p, hz⟩ := I.tuple hq
    obtain ⟨f0, f1, f2, f3, f4, f5⟩ := hf it (by simp)
    have hl := rv.length
    exact wpAny_pyNext_tuple_end (I.ok.hd hc) st (show s.heap.IsTuple a its.toArray from p) (by simp; omega) fun h' eb => ⟨rfl, I.turned (t' := s.toks) (fun b o hb e => eb b o hb e) f0 f1 f3 f4 f5⟩
  self := fun _ _ _ _ _ st h => wpAny_pyIter_tupleiter st h
theorem turn_range {P : Program} {w : World} {K : PySem.W.Frag} {tg : Expr} (it : Addr) (lo : Int) (n : Nat) : Turn P w K tg (Itr lo n) [it] it (fun i h => IsRangeIter h it (lo + (i : Nat) * 1) ((n : Int) - (i : Nat)) 1) where
  mem := by simp
  obj := fun i h st b hb => by
    have e : b = it := by simpa using hb
    subst e
    exact ⟨_, st, fun v z => by
      have z' : Data.fields _ = Data.cell v := z
      cases z'⟩
  keep := fun i h h' st k => k it (by simp) _ st
  item := by
    intro X hP hw hK hc i pins s σ H E I hf st hg
    subst hP hw hK
    obtain ⟨f0, f1, f2, f3, f4, f5⟩ := hf it (by simp)
    have W := Walks.range (prog := X.prog) (w := X.w) (I.ok.hd hc) it lo 1 n
    refine W.item i s _ _ hg st fun v h' tk hv st' kk => ?_
    obtain ⟨t, rfl⟩ := hv
    have I1 : Inv X pins σ H { s with heap := h', toks := tk } := I.turned (fun b o hb e => kk b o (by simpa using hb) e) f0 f1 f3 f4 f5
    refine ⟨_, rfl, go_of (s := { s with heap := h', toks := tk }) (n := "range_iterator") st' rfl rfl (by decide) ⟨.int (lo + i), H, I1, ⟨t, ?_⟩, ⟨rfl, rfl⟩, st', fun b hb => (hf b hb).1⟩⟩
    rw [Int.mul_one]
  done := by
    intro X hP hw hK hc i pins s σ H E I hf st hg
    subst hP hw hK
    obtain ⟨f0, f1, f2, f3, f4, f5⟩ := hf it (by simp)
    exact wpAny_pyNext_range_end (I.ok.hd hc) st (by have : n ≤ i := hg; omega) fun h' eb => ⟨rfl, I.turned (t' := s.toks) (fun b o hb e => eb b o hb e) f0 f1 f3 f4 f5⟩
  self := fun _ _ _ _ _ st h => wpAny_pyIter_rangeiter st h
end L2
namespace L2
open PySem PySem.Spec PyProof.Rows
section
variable {X : Cx} {tg : Expr}
def iList (K : PySem.W.Frag) (tl : TE) : TI := fun σ H R => tl σ H fun x H1 => ∃ a, x = .ref a ∧ (∃ xs, SqL K H1 a xs) ∧ R (Itl K a) H1
def iTup (K : PySem.W.Frag) (tl : TE) : TI := fun σ H R => tl σ H fun x H1 => ∃ a, x = .ref a ∧ (∃ xs, SqT K H1 a xs) ∧ R (Itt K a) H1
theorem pi_list {l : Expr} {tl : TE} (hl : PE X l tl) : PI X tg l (iList X.K tl) := by
  intro pins s σ H R I h
  refine thn (hl pins s σ H _ I h) fun v s1 ⟨x, H1, I1, r1, q1⟩ => ?_
  obtain ⟨a, e, ⟨xs, hq⟩, q⟩ := q1
  subst e
  cases r1
  obtain ⟨its, rv, p, hz⟩ := I1.list hq
  refine wpAny_pyIter_list p.isList ?_
  refine ⟨s1.heap.objs.size, [s1.heap.objs.size], _, _, H1, rfl, I1.kept (t' := s1.toks) fun b o e => Heap.get?_push_of_some _ e, turn_list a _, ⟨_, Heap.get?_push_size _ rfl, rfl, rfl⟩, fun b hb => ?_, q⟩
  have e : b = s1.heap.objs.size := by simpa using hb
  subst e
  exact I1.fpOk (Nat.le_refl _) (I1.hok.fresh (Nat.le_refl _))
theorem pi_tup {l : Expr} {tl : TE} (hl : PE X l tl) : PI X tg l (iTup X.K tl) := by
  intro pins s σ H R I h
  refine thn (hl pins s σ H _ I h) fun v s1 ⟨x, H1, I1, r1, q1⟩ => ?_
  obtain ⟨a, e, ⟨xs, hq⟩, q⟩ := q1
  subst e
  cases r1
  obtain ⟨its, rv, p, hz⟩ := I1.tuple hq
  refine wpAny_pyIter_tuple (show s1.heap.IsTuple a its.toArray from p) ?_
  refine ⟨s1.heap.objs.size, [s1.heap.objs.size], _, _, H1, rfl, I1.kept (t' := s1.toks) fun b o e => Heap.get?_push_of_some _ e, turn_tuple a _, ⟨_, Heap.get?_push_size _ rfl, rfl, rfl⟩, fun b hb => ?_, q⟩
  have e : b = s1.heap.objs.size := by simpa using hb
  subst e
  exact I1.fpOk (Nat.le_refl _) (I1.hok.fresh (Nat.le_refl _))
theorem range_it {pins : List (Addr × Obj)} {σ : St} {H : Hp} {s : Shared} {R : It → Hp → Prop} {E : Value → Shared → Prop} {lo hi : Int} {t u v : Tok} {tk : Nat} (I : Inv X pins σ H s) (h1 : -(2 ^ 62) ≤ lo) (h2 : lo < 2 ^ 62) (h3 : -(2 ^ 62) ≤ hi) (h4 : hi < 2 ^ 62)
    (q : R (Itr lo (hi - lo).toNat) H) : wpAny (model X.prog X.w) X.A (pyIter (.ref s.heap.objs.size)) (PIE X pins σ tg R) E { s with heap := s.heap.push { cls := .type "range", data := .fields #[.int lo t, .int hi u, .int 1 v] }, toks := tk } := by
  refine wpAny_pyIter_range (IsRange.new ..) (small_one h1 h2 h3 h4) ?_
  have I1 : Inv X pins σ H { s with heap := s.heap.push { cls := .type "range", data := .fields #[.int lo t, .int hi u, .int 1 v] }, toks := tk } := I.kept fun b o e => Heap.get?_push_of_some _ e
  refine ⟨(s.heap.push { cls := .type "range", data := .fields #[.int lo t, .int hi u, .int 1 v] }).objs.size, [(s.heap.push { cls := .type "range", data := .fields #[.int lo t, .int hi u, .int 1 v] }).objs.size], _, _, H, rfl,
    I1.kept (t' := tk) fun b o e => Heap.get?_push_of_some _ e, turn_range _ lo (hi - lo).toNat, ?_, fun b hb => ?_, q⟩
  · have e1 : lo + ((0 : Nat) : Int) * 1 = lo := by simp
    have e2 : (((hi - lo).toNat : Nat) : Int) - ((0 : Nat) : Int) = Builtin.Range.rangeSize lo hi 1 := by rw [rangeSize_one]; split <;> omega
    show IsRangeIter _ _ (lo + ((0 : Nat) : Int) * 1) ((((hi - lo).toNat : Nat) : Int) - ((0 : Nat) : Int)) 1
    rw [e1, e2]
    exact Heap.get?_push_size _ rfl
  · have e : b = (s.heap.push { cls := .type "range", data := .fields #[.int lo t, .int hi u, .int 1 v] }).objs.size := by simpa using hb
    subst e
    exact I1.fpOk (Nat.le_refl _) (I1.hok.fresh (Nat.le_refl _))
def iRng1 (ta : TA) : TI := fun σ H R => ta σ H fun vs H1 => ∃ j : Int, vs = [.int j] ∧ -(2 ^ 62) ≤ j ∧ j < 2 ^ 62 ∧ R (Itr 0 j.toNat) H1
theorem pi_range1 {a : Expr} {ta : TA} {p pos : Pos} (hg : Gl X "range") (hm : X.mg "range" = none) (ha : PA X [a] ta) (hs : starEach [a] X.env = [(false, eval a X.env)] := by rfl) : PI X tg (.Call (.Name "range" p) [a] [] pos) (iRng1 ta) := by
  intro pins s σ H R I h
  refine Call_ (ld_blt I hg hm boot_range (PyProof.Rows.callWith_type1 (thn (ha pos pins s σ H _ I h) fun us s1 ⟨vs, H1, I1, r1, q1⟩ => ?_) hs rfl))
  obtain ⟨j, e, q1, q2, q⟩ := q1
  subst e
  cases r1 with
  | cons r rr =>
    cases rr
    obtain ⟨t, rfl⟩ := r
    exact call_range_1 (range_it I1 (by omega) (by omega) q1 q2 (by simpa using q))
def tFor (wi : TI) (g : TG) (tb : TS) : TS := fun D σ H => wi σ H fun J H1 => ∃ W : Nat → Nat → St → Hp → Prop, (∃ m, W 0 m σ H1) ∧ ∀ i m σ H, W i m σ H →
  (J.stop i H ∧ D.nx σ H) ∨ (J.go i H ∧ ∃ N : St → Hp → Prop, (∀ σ' H', N σ' H' → ∃ m', m' < m ∧ W (i + 1) m' σ' H') ∧ ∀ x H', J.yld i H x H' → g x σ H' fun σ2 H2 => tb { D with nx := N, ct := N, bk := D.nx } σ2 H2)
def pinsAt (fp : List Addr) (h : Heap) : List (Addr × Obj) := fp.filterMap fun b => (h.get? b).map fun o => (b, o)
theorem mem_pinsAt {fp : List Addr} {h : Heap} {b : Addr} {o : Obj} (hb : b ∈ fp) (e : h.get? b = some o) : (b, o) ∈ pinsAt fp h := List.mem_filterMap.mpr ⟨b, hb, by rw [e]; rfl⟩
theorem of_pinsAt {fp : List Addr} {h : Heap} {p : Addr × Obj} (hp : p ∈ pinsAt fp h) : p.1 ∈ fp ∧ h.get? p.1 = some p.2 := by
  obtain ⟨b, hb, e⟩ := List.mem_filterMap.mp hp
  cases q : h.get? b with
  | none => rw [q] at e; cases e
  | some o =>
    rw [q] at e
    have e' : (b, o) = p := Option.some.inj e
    subst e'
    exact ⟨hb, q⟩
theorem Inv.pinned {pins : List (Addr × Obj)} {σ : St} {H : Hp} {s : Shared} {fp : List Addr} (I : Inv X pins σ H s) (hf : ∀ b ∈ fp, FpOk X pins H b) (ho : ∀ b ∈ fp, ∃ o, s.heap.get? b = some o ∧ ∀ v, o.data ≠ .cell v) : Inv X (pins ++ pinsAt fp s.heap) σ H s :=
  I.pins_of fun p hp => (List.mem_append.mp hp).elim (fun z => I.pin p (List.mem_append_right _ z)) fun z => by
    obtain ⟨hb, e⟩ := of_pinsAt z
    obtain ⟨f0, f1, f2, _⟩ := hf p.1 hb
    obtain ⟨o, e', d⟩ := ho p.1 hb
    rw [e] at e'; cases e'
    exact ⟨e, f0, f1, f2, d⟩
theorem Inv.unpinned {pins pl : List (Addr × Obj)} {σ : St} {H : Hp} {s : Shared} (I : Inv X (pins ++ pl) σ H s) : Inv X pins σ H s := I.pins_of fun p hp => I.pin p (List.mem_append_right _ (List.mem_append_left _ hp))
theorem ps_for {iter : Expr} {body : List Stmt} {wi : TI} {g : TG} {tb : TS} {pos : Pos} (hp : PassesOwn (model X.prog X.w) X.A X.env X.xe) (hc : X.calm = true) (hi : PI X tg iter wi) (hg : PG X tg g) (hb : PSs X body tb)
    (hs : ∀ x, foldedSetIterable iter X.env x = pure x := by intro _; rfl) : PS X (.For tg iter body [] pos) (tFor wi g tb) := by
  intro pins s σ H D I h
  refine wpAny_For (thn (hi pins s σ H _ I h) fun v s1 h1 => thn h1 fun itv s2 h2 => ?_) hs
  obtain ⟨it, fp, tn, J, H2, e, I2, T, st2, f2, W, ⟨m0, w0⟩, turn⟩ := h2
  subst e
  have stat : ∀ {H' : Hp}, (∀ b ∈ fp, H' b = none) → ∀ b ∈ fp, FpOk X pins H' b := fun hn b hb => ⟨hn b hb, (f2 b hb).2⟩
  refine codeAny_forLoop_any (fun n s' => ∃ i σ' H', Inv X pins σ' H' s' ∧ tn i s'.heap ∧ (∀ b ∈ fp, H' b = none) ∧ W i n σ' H') ?_ m0 ⟨0, σ, H2, I2, st2, fun b hb => (f2 b hb).1, w0⟩
  rintro n s3 ⟨i, σ3, H3, I3, st3, fr3, w3⟩
  rcases turn i n σ3 H3 w3 with ⟨stop, qn⟩ | ⟨go, N, hN, step⟩
  · refine wpAny_passesOwn hp (thn (T.done X rfl rfl rfl hc i pins s3 σ3 H3 X.xe I3 (stat fr3) st3 stop) fun r s4 ⟨hr, I4⟩ => ?_)
    subst hr
    exact wpAny_execs_nil ⟨σ3, H3, I4, qn⟩
  · refine wpAny_passesOwn hp (thn (T.item X rfl rfl rfl hc i pins s3 σ3 H3 X.xe I3 (stat fr3) st3 go) fun r s4 ⟨u, hr, h4⟩ => ?_)
    subst hr
    refine wpAny_passesOwn hp (thn h4 fun _ s5 ⟨x, H5, I5, r5, y5, st5, fr5⟩ => ?_)
    have I5' := I5.pinned (stat fr5) (T.obj _ _ st5)
    refine wpAny_passesOwn hp (thn (hg _ s5 σ3 H5 x u _ I5' r5 (step x H5 y5)) fun _ s6 ⟨σ6, H6, I6, q6⟩ => ?_)
    refine wpAny_passesOwn hp (thn (hb _ s6 σ6 H6 _ I6 q6) fun f s7 q7 => ?_)
    have again : ∀ {σ7 : St} {H7 : Hp}, Inv X (pins ++ pinsAt fp s5.heap) σ7 H7 s7 → N σ7 H7 → ∃ m, m < n ∧ ∃ i σ' H', Inv X pins σ' H' s7 ∧ tn i s7.heap ∧ (∀ b ∈ fp, H' b = none) ∧ W i m σ' H' := fun {σ7 H7} I7 n7 => by
      obtain ⟨m', hm, w7⟩ := hN σ7 H7 n7
      refine ⟨m', hm, i + 1, σ7, H7, I7.unpinned, T.keep _ _ _ st5 fun b hb o e => (I7.pin (b, o) (List.mem_append_right _ (List.mem_append_right _ (mem_pinsAt hb e)))).1, fun b hb => ?_, w7⟩
      obtain ⟨o, e, d⟩ := T.obj _ _ st5 b hb
      exact (I7.pin (b, o) (List.mem_append_right _ (List.mem_append_right _ (mem_pinsAt hb e)))).2.1
    cases f with
    | next => obtain ⟨σ7, H7, I7, n7⟩ := q7; exact again I7 n7
    | cont => obtain ⟨σ7, H7, I7, n7⟩ := q7; exact again I7 n7
    | brk => obtain ⟨σ7, H7, I7, q7⟩ := q7; exact ⟨σ7, H7, I7.unpinned, q7⟩
    | ret v => obtain ⟨x7, σ7, H7, I7, r7, q7⟩ := q7; exact ⟨x7, σ7, H7, I7.unpinned, r7, q7⟩
end
theorem for_list {K : PySem.W.Frag} {a : Addr} {xs : List V} {g : TG} {tb : TS} {D : Ends} {σ : St} {H : Hp} (Pv : Nat → St → Hp → Prop) (h0 : Pv 0 σ H) (hl : ∀ i σ H, i ≤ xs.length → Pv i σ H → SqL K H a xs)
    (hs : ∀ i x σ H, xs[i]? = some x → Pv i σ H → g x σ H fun σ2 H2 => tb { D with nx := Pv (i + 1), ct := Pv (i + 1), bk := D.nx } σ2 H2) (hd : ∀ σ H, Pv xs.length σ H → D.nx σ H) :
    ∃ W : Nat → Nat → St → Hp → Prop, (∃ m, W 0 m σ H) ∧ ∀ i m σ H, W i m σ H →
      ((Itl K a).stop i H ∧ D.nx σ H) ∨ ((Itl K a).go i H ∧ ∃ N : St → Hp → Prop, (∀ σ' H', N σ' H' → ∃ m', m' < m ∧ W (i + 1) m' σ' H') ∧ ∀ x H', (Itl K a).yld i H x H' → g x σ H' fun σ2 H2 => tb { D with nx := N, ct := N, bk := D.nx } σ2 H2) := by
  refine ⟨fun i m σ H => m = xs.length - i ∧ i ≤ xs.length ∧ Pv i σ H, ⟨xs.length, by simp, Nat.zero_le _, h0⟩, ?_⟩
  rintro i m σ H ⟨rfl, hi, p⟩
  have q := hl i σ H hi p
  by_cases hlt : i < xs.length
  · refine .inr ⟨⟨xs, xs[i], q, by simp [hlt]⟩, Pv (i + 1), fun σ' H' p' => ⟨xs.length - (i + 1), by omega, rfl, hlt, p'⟩, fun x H' y => ?_⟩
    obtain ⟨e, y⟩ := y
    subst e
    exact hs i x σ _ (y xs q) p
  · have e : i = xs.length := by omega
    subst e
    exact .inl ⟨⟨xs, q, Nat.le_refl _⟩, hd σ H p⟩
theorem for_tup {K : PySem.W.Frag} {a : Addr} {xs : List V} {g : TG} {tb : TS} {D : Ends} {σ : St} {H : Hp} (Pv : Nat → St → Hp → Prop) (h0 : Pv 0 σ H) (hl : ∀ i σ H, i ≤ xs.length → Pv i σ H → SqT K H a xs)
    (hs : ∀ i x σ H, xs[i]? = some x → Pv i σ H → g x σ H fun σ2 H2 => tb { D with nx := Pv (i + 1), ct := Pv (i + 1), bk := D.nx } σ2 H2) (hd : ∀ σ H, Pv xs.length σ H → D.nx σ H) :
    ∃ W : Nat → Nat → St → Hp → Prop, (∃ m, W 0 m σ H) ∧ ∀ i m σ H, W i m σ H →
      ((Itt K a).stop i H ∧ D.nx σ H) ∨ ((Itt K a).go i H ∧ ∃ N : St → Hp → Prop, (∀ σ' H', N σ' H' → ∃ m', m' < m ∧ W (i + 1) m' σ' H') ∧ ∀ x H', (Itt K a).yld i H x H' → g x σ H' fun σ2 H2 => tb { D with nx := N, ct := N, bk := D.nx } σ2 H2) := by
  refine ⟨fun i m σ H => m = xs.length - i ∧ i ≤ xs.length ∧ Pv i σ H, ⟨xs.length, by simp, Nat.zero_le _, h0⟩, ?_⟩
  rintro i m σ H ⟨rfl, hi, p⟩
  have q := hl i σ H hi p
  by_cases hlt : i < xs.length
  · refine .inr ⟨⟨xs, xs[i], q, by simp [hlt]⟩, Pv (i + 1), fun σ' H' p' => ⟨xs.length - (i + 1), by omega, rfl, hlt, p'⟩, fun x H' y => ?_⟩
    obtain ⟨e, y⟩ := y
    subst e
    exact hs i x σ _ (y xs q) p
  · have e : i = xs.length := by omega
    subst e
    exact .inl ⟨⟨xs, q, Nat.le_refl _⟩, hd σ H p⟩
theorem for_range {lo : Int} {n : Nat} {g : TG} {tb : TS} {D : Ends} {σ : St} {H : Hp} (Pv : Nat → St → Hp → Prop) (h0 : Pv 0 σ H)
    (hs : ∀ i σ H, i < n → Pv i σ H → g (.int (lo + i)) σ H fun σ2 H2 => tb { D with nx := Pv (i + 1), ct := Pv (i + 1), bk := D.nx } σ2 H2) (hd : ∀ σ H, Pv n σ H → D.nx σ H) :
    ∃ W : Nat → Nat → St → Hp → Prop, (∃ m, W 0 m σ H) ∧ ∀ i m σ H, W i m σ H →
      ((Itr lo n).stop i H ∧ D.nx σ H) ∨ ((Itr lo n).go i H ∧ ∃ N : St → Hp → Prop, (∀ σ' H', N σ' H' → ∃ m', m' < m ∧ W (i + 1) m' σ' H') ∧ ∀ x H', (Itr lo n).yld i H x H' → g x σ H' fun σ2 H2 => tb { D with nx := N, ct := N, bk := D.nx } σ2 H2) := by
  refine ⟨fun i m σ H => m = n - i ∧ i ≤ n ∧ Pv i σ H, ⟨n, by simp, Nat.zero_le _, h0⟩, ?_⟩
  rintro i m σ H ⟨rfl, hi, p⟩
  by_cases hlt : i < n
  · refine .inr ⟨hlt, Pv (i + 1), fun σ' H' p' => ⟨n - (i + 1), by omega, rfl, hlt, p'⟩, fun x H' y => ?_⟩
    obtain ⟨e, y⟩ := y
    subst e y
    exact hs i σ _ hlt p
  · have e : i = n := by omega
    subst e
    exact .inl ⟨Nat.le_refl _, hd σ H p⟩
end L2
namespace L2
open PySem PySem.Spec PyProof.Rows
abbrev R2 := V → V → Hp → VK → Prop
def OpR (X : Cx) (f : Value → Value → Sem Value) (r : R2) : Prop :=
  ∀ (pins : List (Addr × Obj)) (s : Shared) (σ : St) (H : Hp) (x y : V) (v u : Value) (Q : VK), Inv X pins σ H s → RelV x v → RelV y u → r x y H Q →
    wpAny (model X.prog X.w) X.A (f v u) (EP X pins σ Q) X.xe s
def CallR (X : Cx) (f : Value) (r : List V → Hp → VK → Prop) : Prop :=
  ∀ (pins : List (Addr × Obj)) (s : Shared) (σ : St) (H : Hp) (xs : List V) (us : List Value) (Q : VK), Inv X pins σ H s → Vals xs us → r xs H Q →
    wpAny (model X.prog X.w) X.A (call f us) (EP X pins σ Q) X.xe s
def tOp (r : R2) (ta tb : TE) : TE := fun σ H Q => ta σ H fun x H1 => tb σ H1 fun y H2 => r x y H2 Q
def rI (C : Int → Int → Prop) (g : Int → Int → V) : R2 := fun x y H Q => ∃ i j, x = .int i ∧ y = .int j ∧ C i j ∧ Q (g i j) H
def rI0 (g : Int → Int → V) : R2 := fun x y H Q => ∃ i j, x = .int i ∧ y = .int j ∧ Q (g i j) H
section
variable {X : Cx} {a b c : Expr} {ta tb tc : TE} {pos : Pos}
theorem binT (ha : PE X a ta) (hb : PE X b tb) {pins : List (Addr × Obj)} {s : Shared} {σ : St} {H : Hp} {R : V → V → Hp → Prop} (I : Inv X pins σ H s)
    (h : ta σ H fun x H1 => tb σ H1 fun y H2 => R x y H2) {Q : Value → Shared → Prop} {f : Value → Value → Sem Value}
    (hf : ∀ v u s2 x y H2, Inv X pins σ H2 s2 → RelV x v → RelV y u → R x y H2 → wpAny (model X.prog X.w) X.A (f v u) Q X.xe s2) :
    wpAny (model X.prog X.w) X.A (eval a X.env) (fun v s₁ => wpAny (model X.prog X.w) X.A (eval b X.env) (fun u s₂ => wpAny (model X.prog X.w) X.A (f v u) Q X.xe s₂) X.xe s₁) X.xe s := by
  refine thn (ha pins s σ H _ I h) fun v s1 ⟨x, H1, I1, r1, q1⟩ => ?_
  refine thn (hb pins s1 σ H1 _ I1 q1) fun u s2 ⟨y, H2, I2, r2, q2⟩ => ?_
  exact hf v u s2 x y H2 I2 r1 r2 q2
theorem pe_op {op : Operator} {r : R2} (ho : OpR X (binaryOp op) r) (ha : PE X a ta) (hb : PE X b tb) : PE X (.BinOp a op b pos) (tOp r ta tb) := by
  intro pins s σ H Q I h
  exact wpAny_BinOp (binT ha hb I h fun v u s2 x y H2 I2 rx ry q => ho pins s2 σ H2 x y v u Q I2 rx ry q)
theorem opI {f : Value → Value → Sem Value} {C : Int → Int → Prop} {g : Int → Int → Int}
    (rule : ∀ (i j : Int) (t u : Tok) (s : Shared) (Q : Value → Shared → Prop) (E : Value → Shared → Prop), C i j → Q (.int (g i j) s.toks) { s with toks := s.toks + 1 } → wpAny (model X.prog X.w) X.A (f (.int i t) (.int j u)) Q E s) :
    OpR X f (rI C fun i j => .int (g i j)) := by
  intro pins s σ H x y v u Q I rx ry h
  obtain ⟨i, j, rfl, rfl, hc, q⟩ := h
  obtain ⟨t, rfl⟩ := rx
  obtain ⟨t', rfl⟩ := ry
  exact rule i j t t' s _ _ hc ⟨.int (g i j), H, I.tok _, ⟨_, rfl⟩, q⟩
theorem opI0 {f : Value → Value → Sem Value} {g : Int → Int → Int}
    (rule : ∀ (i j : Int) (t u : Tok) (s : Shared) (Q : Value → Shared → Prop) (E : Value → Shared → Prop), Q (.int (g i j) s.toks) { s with toks := s.toks + 1 } → wpAny (model X.prog X.w) X.A (f (.int i t) (.int j u)) Q E s) :
    OpR X f (rI0 fun i j => .int (g i j)) := by
  intro pins s σ H x y v u Q I rx ry h
  obtain ⟨i, j, rfl, rfl, q⟩ := h
  obtain ⟨t, rfl⟩ := rx
  obtain ⟨t', rfl⟩ := ry
  exact rule i j t t' s _ _ ⟨.int (g i j), H, I.tok _, ⟨_, rfl⟩, q⟩
theorem opB0 {f : Value → Value → Sem Value} {g : Int → Int → Bool}
    (rule : ∀ (i j : Int) (t u : Tok) (s : Shared) (Q : Value → Shared → Prop) (E : Value → Shared → Prop), Q (.bool (g i j)) s → wpAny (model X.prog X.w) X.A (f (.int i t) (.int j u)) Q E s) :
    OpR X f (rI0 fun i j => .bl (g i j)) := by
  intro pins s σ H x y v u Q I rx ry h
  obtain ⟨i, j, rfl, rfl, q⟩ := h
  obtain ⟨t, rfl⟩ := rx
  obtain ⟨t', rfl⟩ := ry
  exact rule i j t t' s _ _ ⟨.bl (g i j), H, I, rfl, q⟩
def CDiv (i j : Int) : Prop := 0 < j ∧ j < 1073741824
def CPow (i j : Int) : Prop := 0 ≤ j ∧ j ≤ 1000000 ∧ i.natAbs < 2 ^ 64
def CMul (i j : Int) : Prop := (-(2 ^ 64) < i ∧ i < 2 ^ 64) ∨ (-(2 ^ 64) < j ∧ j < 2 ^ 64)
theorem CMul.ok {i j : Int} (h : CMul i j) : IntMulOk i j := by
  rcases h with ⟨h1, h2⟩ | ⟨h1, h2⟩
  · exact .of_left (intBits_le_64 h1 h2)
  · exact .of_right (intBits_le_64 h1 h2)
theorem op_add : OpR X (binaryOp .Add) (rI0 fun i j => .int (i + j)) := opI0 fun _ _ _ _ _ _ _ q => add_int q
theorem op_sub : OpR X (binaryOp .Sub) (rI0 fun i j => .int (i - j)) := opI0 fun _ _ _ _ _ _ _ q => sub_int q
theorem op_mul : OpR X (binaryOp .Mult) (rI CMul fun i j => .int (i * j)) := opI fun _ _ _ _ _ _ _ hc q => mul_int q hc.ok
theorem op_fdiv : OpR X (binaryOp .FloorDiv) (rI CDiv fun i j => .int (i / j)) := opI fun i j _ _ _ _ _ hc q => by
  have h1 : (0 : Int) < j := hc.1
  have h2 : j < 1073741824 := hc.2
  exact floordiv_int (by omega) (by rw [Int.fdiv_eq_ediv_of_nonneg i (by omega)]; exact q) (.inl (PyProof.noPylong_small (by omega)))
theorem op_mod : OpR X (binaryOp .Mod) (rI (fun _ j => 0 < j) fun i j => .int (i % j)) := opI fun i j _ _ _ _ _ hc q => by
  have h1 : (0 : Int) < j := hc
  exact mod_int' (by omega) (by rw [Int.fmod_eq_emod_of_nonneg i (by omega)]; exact q)
theorem op_pow : OpR X (binaryOp .Pow) (rI CPow fun i j => .int (i ^ j.toNat)) := opI fun _ _ _ _ _ _ _ hc q => pow_int_small hc.1 hc.2.1 hc.2.2 q
end
def scal : V → V → Bool
  | .non, .non => true | .non, .int _ => true | .int _, .non => true | .non, .bl _ => true | .bl _, .non => true | .non, .str _ => true | .str _, .non => true
  | .int _, .int _ => true | .bl _, .bl _ => true | .str _, .str _ => true | .byt _, .byt _ => true
  | .int _, .str _ => true | .str _, .int _ => true | .bl _, .str _ => true | .str _, .bl _ => true
  | _, _ => false
def rEq : R2 := fun x y H Q => scal x y = true ∧ Q (.bl (decide (x = y))) H
def rNe : R2 := fun x y H Q => scal x y = true ∧ Q (.bl (!decide (x = y))) H
theorem dec_int {i j : Int} : decide (V.int i = V.int j) = (i == j) := by
  rw [Bool.eq_iff_iff]
  simp
theorem dec_bl {i j : Bool} : decide (V.bl i = V.bl j) = (i == j) := by
  rw [Bool.eq_iff_iff]
  simp
theorem dec_str {i j : Str} : decide (V.str i = V.str j) = (i == j) := by
  rw [Bool.eq_iff_iff]
  simp
theorem dec_byt {i j : Array UInt8} : decide (V.byt i = V.byt j) = (i.toList == j.toList) := by
  rw [Bool.eq_iff_iff]
  cases i
  cases j
  simp
section
variable {X : Cx} {a b c : Expr} {ta tb tc : TE} {pos : Pos}
theorem fin_bl {pins : List (Addr × Obj)} {σ : St} {H : Hp} {s : Shared} {Q : VK} {k k' : Bool} (I : Inv X pins σ H s) (q : Q (.bl k) H) (e : k = k') : EP X pins σ Q (.bool k') s := by
  subst e
  exact ⟨.bl k, H, I, rfl, q⟩
theorem op_eq : OpR X (compareOp .Eq) rEq := by
  intro pins s σ H x y v u Q I rx ry h
  obtain ⟨hs, q⟩ := h
  cases x with
  | non =>
    cases rx
    cases y with
    | non => cases ry; exact PySem.EqNone.eq_none_none (fin_bl I q (by simp))
    | bl j => cases ry; exact PySem.EqNone.eq_none_bool (fin_bl I q (by simp))
    | int j => obtain ⟨t', rfl⟩ := ry; exact PySem.EqNone.eq_none_int (fin_bl I q (by simp))
    | str j => obtain ⟨t', rfl⟩ := ry; exact PySem.EqNone.eq_none_str (fin_bl I q (by simp))
    | _ => exact absurd (show false = true from hs) Bool.false_ne_true
  | bl i =>
    cases rx
    cases y with
    | non => cases ry; exact PySem.EqNone.eq_bool_none (fin_bl I q (by simp))
    | bl j => cases ry; exact eq_bool (fin_bl I q dec_bl)
    | str j => obtain ⟨t', rfl⟩ := ry; exact PySem.EqMixed.eq_bool_str (fin_bl I q (by simp))
    | _ => exact absurd (show false = true from hs) Bool.false_ne_true
  | int i =>
    obtain ⟨t, rfl⟩ := rx
    cases y with
    | non => cases ry; exact PySem.EqNone.eq_int_none (fin_bl I q (by simp))
    | int j => obtain ⟨t', rfl⟩ := ry; exact eq_int (fin_bl I q dec_int)
    | str j => obtain ⟨t', rfl⟩ := ry; exact PySem.EqMixed.eq_int_str (fin_bl I q (by simp))
    | _ => exact absurd (show false = true from hs) Bool.false_ne_true
  | str i =>
    obtain ⟨t, rfl⟩ := rx
    cases y with
    | non => cases ry; exact PySem.EqNone.eq_str_none (fin_bl I q (by simp))
    | bl j => cases ry; exact PySem.EqMixed.eq_str_bool (fin_bl I q (by simp))
    | int j => obtain ⟨t', rfl⟩ := ry; exact PySem.EqMixed.eq_str_int (fin_bl I q (by simp))
    | str j => obtain ⟨t', rfl⟩ := ry; exact eq_str (fin_bl I q dec_str)
    | _ => exact absurd (show false = true from hs) Bool.false_ne_true
  | byt i =>
    obtain ⟨t, rfl⟩ := rx
    cases y with
    | byt j => obtain ⟨t', rfl⟩ := ry; exact PySem.W.eq_bytes (fin_bl I q dec_byt)
    | _ => exact absurd (show false = true from hs) Bool.false_ne_true
  | _ => cases y <;> exact absurd (show false = true from hs) Bool.false_ne_true
theorem op_ne : OpR X (compareOp .NotEq) rNe := by
  intro pins s σ H x y v u Q I rx ry h
  obtain ⟨hs, q⟩ := h
  cases x with
  | non =>
    cases rx
    cases y with
    | non => cases ry; exact PySem.EqNone.ne_none_none (fin_bl I q (by simp))
    | bl j => cases ry; exact PySem.EqNone.ne_none_bool (fin_bl I q (by simp))
    | int j => obtain ⟨t', rfl⟩ := ry; exact PySem.EqNone.ne_none_int (fin_bl I q (by simp))
    | str j => obtain ⟨t', rfl⟩ := ry; exact PySem.EqNone.ne_none_str (fin_bl I q (by simp))
    | _ => exact absurd (show false = true from hs) Bool.false_ne_true
  | bl i =>
    cases rx
    cases y with
    | non => cases ry; exact PySem.EqNone.ne_bool_none (fin_bl I q (by simp))
    | bl j => cases ry; exact ne_bool (fin_bl I q (congrArg not dec_bl))
    | str j => obtain ⟨t', rfl⟩ := ry; exact PySem.EqMixed.ne_bool_str (fin_bl I q (by simp))
    | _ => exact absurd (show false = true from hs) Bool.false_ne_true
  | int i =>
    obtain ⟨t, rfl⟩ := rx
    cases y with
    | non => cases ry; exact PySem.EqNone.ne_int_none (fin_bl I q (by simp))
    | int j => obtain ⟨t', rfl⟩ := ry; exact ne_int (fin_bl I q (congrArg not dec_int))
    | str j => obtain ⟨t', rfl⟩ := ry; exact PySem.EqMixed.ne_int_str (fin_bl I q (by simp))
    | _ => exact absurd (show false = true from hs) Bool.false_ne_true
  | str i =>
    obtain ⟨t, rfl⟩ := rx
    cases y with
    | non => cases ry; exact PySem.EqNone.ne_str_none (fin_bl I q (by simp))
    | bl j => cases ry; exact PySem.EqMixed.ne_str_bool (fin_bl I q (by simp))
    | int j => obtain ⟨t', rfl⟩ := ry; exact PySem.EqMixed.ne_str_int (fin_bl I q (by simp))
    | str j => obtain ⟨t', rfl⟩ := ry; exact ne_str (fin_bl I q (congrArg not dec_str))
    | _ => exact absurd (show false = true from hs) Bool.false_ne_true
  | byt i =>
    obtain ⟨t, rfl⟩ := rx
    cases y with
    | byt j => obtain ⟨t', rfl⟩ := ry; exact PySem.W.ne_bytes (fin_bl I q (congrArg not dec_byt))
    | _ => exact absurd (show false = true from hs) Bool.false_ne_true
  | _ => cases y <;> exact absurd (show false = true from hs) Bool.false_ne_true
theorem op_lt : OpR X (compareOp .Lt) (rI0 fun i j => .bl (decide (i < j))) := opB0 fun _ _ _ _ _ _ _ q => lt_int q
theorem op_le : OpR X (compareOp .LtE) (rI0 fun i j => .bl (decide (i ≤ j))) := opB0 fun _ _ _ _ _ _ _ q => le_int q
theorem op_ge : OpR X (compareOp .GtE) (rI0 fun i j => .bl (decide (j ≤ i))) := opB0 fun _ _ _ _ _ _ _ q => ge_int q
theorem op_in_str : OpR X (compareOp .In) (fun x y H Q => ∃ i j, x = .str i ∧ y = .str j ∧ Q (.bl (!(Builtin.Str.occurrences j i 0 j.length 1).isEmpty)) H) := by
  intro pins s σ H x y v u Q I rx ry h
  obtain ⟨i, j, rfl, rfl, q⟩ := h
  obtain ⟨t, rfl⟩ := rx
  obtain ⟨t', rfl⟩ := ry
  exact in_str (fin_bl I q rfl)
theorem op_isN : OpR X (compareOp .Is) (fun x y H Q => y = .non ∧ Q (.bl (decide (x = .non))) H) := by
  intro pins s σ H x y v u Q I rx ry h
  obtain ⟨rfl, q⟩ := h
  cases ry
  refine is_none_gen (fin_bl I q ?_)
  cases x <;> first
    | (cases rx; rfl)
    | (obtain ⟨t, rfl⟩ := rx; rfl)
theorem op_notN : OpR X (compareOp .IsNot) (fun x y H Q => y = .non ∧ Q (.bl (!decide (x = .non))) H) := by
  intro pins s σ H x y v u Q I rx ry h
  obtain ⟨rfl, q⟩ := h
  cases ry
  refine isnot_none_gen (fin_bl I q ?_)
  cases x <;> first
    | (cases rx; rfl)
    | (obtain ⟨t, rfl⟩ := rx; rfl)
theorem nomark (b : Expr) {op : CmpOp} (h : op ≠ .In := by decide) (h2 : op ≠ .NotIn := by decide) : behindInMarks op b = false := by
  have e1 : (op == CmpOp.In) = false := by cases op <;> first | rfl | exact absurd rfl h
  have e2 : (op == CmpOp.NotIn) = false := by cases op <;> first | rfl | exact absurd rfl h2
  cases b <;> simp [behindInMarks, e1, e2]
theorem pe_cmpR {op : CmpOp} {r : R2} (ho : OpR X (compareOp op) r) (ha : PE X a ta) (hb : PE X b tb) (hm : behindInMarks op b = false) : PE X (.Compare a [op] [b] pos) (tOp r ta tb) := by
  intro pins s σ H Q I h
  exact wpAny_Compare1 (binT ha hb I h fun v u s2 x y H2 I2 rx ry q => ho pins s2 σ H2 x y v u Q I2 rx ry q) hm
def tTest (t : TE) : TT := fun σ H Q => t σ H fun x H' => ∃ k, x = .bl k ∧ Q k H'
theorem pt_cmpR {op : CmpOp} {r : R2} (ho : OpR X (compareOp op) r) (ha : PE X a ta) (hb : PE X b tb) (hm : behindInMarks op b = false) : PT X (.Compare a [op] [b] pos) (tTest (tOp r ta tb)) := by
  intro pins s σ H Q I h
  refine wpAny_isTrue_Compare1 (thn (ha pins s σ H _ I h) fun v s1 ⟨x, H1, I1, r1, q1⟩ => thn (hb pins s1 σ H1 _ I1 q1) fun u s2 ⟨y, H2, I2, r2, q2⟩ =>
    thn (ho pins s2 σ H2 x y v u _ I2 r1 r2 q2) fun c s3 ⟨z, H3, I3, r3, k, e, q3⟩ => ?_) hm
  subst e
  cases r3
  exact wpAny_truthy_bool ⟨H3, I3, q3⟩
def tChain (r r' : R2) (ta tb tc : TE) : TE := fun σ H Q => ta σ H fun x H1 => tb σ H1 fun y H2 => r x y H2 fun z H3 => ∃ k, z = .bl k ∧
  (if k = true then tc σ H3 fun w' H4 => r' y w' H4 Q else Q (.bl false) H3)
theorem pt_chain {op op' : CmpOp} {r r' : R2} (ho : OpR X (compareOp op) r) (ho' : OpR X (compareOp op') r') (ha : PE X a ta) (hb : PE X b tb) (hc : PE X c tc)
    (hm : lastMarks [op, op'] [b, c] = false := by with_unfolding_all rfl) : PT X (.Compare a [op, op'] [b, c] pos) (tTest (tChain r r' ta tb tc)) := by
  intro pins s σ H Q I h
  refine isTrue_chain (thn (ha pins s σ H _ I h) fun v s1 ⟨x, H1, I1, r1, q1⟩ => test_link (thn (hb pins s1 σ H1 _ I1 q1) fun u s2 ⟨y, H2, I2, r2, q2⟩ =>
    thn (ho pins s2 σ H2 x y v u _ I2 r1 r2 q2) fun d s3 ⟨z, H3, I3, r3, k, e, q3⟩ => ?_)) hm
  subst e
  cases r3
  refine wpAny_truthy_bool ?_
  cases k with
  | false =>
    obtain ⟨k', e', q'⟩ := q3
    cases e'
    exact ite_ff ⟨H3, I3, q'⟩
  | true =>
    refine ite_tt (test_last (thn (hc pins s3 σ H3 _ I3 q3) fun w' s4 ⟨z', H4, I4, r4, q4⟩ => thn (ho' pins s4 σ H4 y z' u w' _ I4 r2 r4 q4) fun d' s5 ⟨z2, H5, I5, r5, k2, e2, q5⟩ => ?_))
    subst e2
    cases r5
    exact wpAny_truthy_bool ⟨H5, I5, q5⟩
theorem line63 : (sizeLine : Nat) < 2 ^ 63 := by rw [sizeLine_eq]; decide
theorem op_add_str : OpR X (binaryOp .Add) (fun x y H Q => ∃ i j, x = .str i ∧ y = .str j ∧ i.length + j.length ≤ sizeLine ∧ Q (.str (i ++ j)) H) := by
  intro pins s σ H x y v u Q I rx ry h
  obtain ⟨i, j, rfl, rfl, hz, q⟩ := h
  obtain ⟨t, rfl⟩ := rx
  obtain ⟨t', rfl⟩ := ry
  exact add_str (fun t' tk => ⟨.str (i ++ j), H, I.tok _, ⟨_, rfl⟩, q⟩) hz
theorem vals1 {x : V} {us : List Value} (r : Vals [x] us) : ∃ u, us = [u] ∧ RelV x u := by
  cases r with
  | cons r1 r2 => cases r2; exact ⟨_, rfl, r1⟩
theorem vals2 {x y : V} {us : List Value} (r : Vals [x, y] us) : ∃ u w', us = [u, w'] ∧ RelV x u ∧ RelV y w' := by
  cases r with
  | cons r1 r2 =>
    cases r2 with
    | cons r3 r4 => cases r4; exact ⟨_, _, rfl, r1, r3⟩
def LenV (K : PySem.W.Frag) (x : V) (H : Hp) (n : Nat) : Prop :=
  match x with
  | .str y => y.length ≤ sizeLine ∧ n = y.length
  | .byt y => y.size ≤ sizeLine ∧ n = y.size
  | .ref p => (∃ xs, SqL K H p xs ∧ n = xs.length) ∨ ∃ xs, SqT K H p xs ∧ n = xs.length
  | _ => False
theorem call_len : CallR X (.builtin "len") (fun xs H Q => ∃ x n, xs = [x] ∧ LenV X.K x H n ∧ Q (.int n) H) := by
  intro pins s σ H xs us Q I r h
  obtain ⟨x, n, rfl, e, q⟩ := h
  obtain ⟨u, rfl, rx⟩ := vals1 r
  have hl := line63
  have hs : sizeLine = 16777216 := sizeLine_eq
  cases x with
  | str y =>
    obtain ⟨t, rfl⟩ := rx
    obtain ⟨hy, e'⟩ : y.length ≤ sizeLine ∧ n = y.length := e
    subst e'
    exact len_str (by omega) ⟨.int _, H, I.tok _, ⟨_, rfl⟩, q⟩
  | byt y =>
    obtain ⟨t, rfl⟩ := rx
    obtain ⟨hy, e'⟩ : y.size ≤ sizeLine ∧ n = y.size := e
    subst e'
    exact PySem.W.len_bytes (by omega) ⟨.int _, H, I.tok _, ⟨_, rfl⟩, q⟩
  | ref p =>
    cases rx
    have e' : (∃ xs, SqL X.K H p xs ∧ n = xs.length) ∨ ∃ xs, SqT X.K H p xs ∧ n = xs.length := e
    rcases e' with ⟨xs, hx, e'⟩ | ⟨xs, hx, e'⟩
    · subst e'
      obtain ⟨its, r', pl, hz⟩ := I.list hx
      have hlen := r'.length
      exact Calls.call_len_list pl.isList (by simp only [List.size_toArray]; omega) ⟨.int xs.length, H, I.tok _, ⟨_, by simp only [List.size_toArray]; rw [hlen]⟩, q⟩
    · subst e'
      obtain ⟨its, r', pl, hz⟩ := I.tuple hx
      have hlen := r'.length
      exact len_tuple pl (by simp only [List.size_toArray]; omega) ⟨.int xs.length, H, I.tok _, ⟨_, by simp only [List.size_toArray]; rw [hlen]⟩, q⟩
  | _ => exact (show False from e).elim
end
end L2
namespace L2
open PySem PySem.Spec PyProof.Rows
structure ObjM (h : Heap) (x dx C : Addr) (mA : Str → Option Value) : Prop where
  obj : h.get? x = some (PySem.W.instObj C dx)
  ns : h.Ns1 dx mA
  ne : dx ≠ x
theorem lookIn_ns {h : Heap} {dx : Addr} {mA : Str → Option Value} (n : h.Ns1 dx mA) : ∃ od, h.get? dx = some od ∧ ∀ name, PySem.W.lookIn name od = some (mA name) := by
  obtain ⟨o, es, ep, ho, hd, hk, _, hm⟩ := n
  refine ⟨o, ho, fun name => ?_⟩
  have e := hm name
  unfold nsFind findBy at e
  rw [← Array.find?_toList] at e
  unfold PySem.W.lookIn
  rw [hd]
  dsimp only
  split
  · rename_i y q
    rw [q] at e
    exact congrArg some e
  · rename_i q
    rw [q] at e
    have a : es.toList.any (·.refKey) = false := by
      rw [List.any_eq_false]
      intro y hy
      obtain ⟨z, t, hkey⟩ := hk y (Array.mem_toList_iff.mp hy)
      simp [DictEntry.refKey, hkey]
    have a' : ¬ es.toList.any (·.refKey) = true := by rw [a]; exact Bool.false_ne_true
    rw [if_neg a']
    exact congrArg some e
theorem ObjM.look {h : Heap} {x dx C : Addr} {mA : Str → Option Value} (I : ObjM h x dx C mA) : ∃ od, PySem.W.InstAt h x (PySem.W.instObj C dx) C (some od) ∧ ∀ name, PySem.W.lookIn name od = some (mA name) :=
  let ⟨od, ho, hl⟩ := lookIn_ns I.ns
  ⟨od, ⟨I.obj, rfl, rfl, ho⟩, hl⟩
section
variable {prog : Program} {w : World} {A : Around} {E : Value → Shared → Prop} {s : Shared} {K : PySem.W.Frag} {x dx C f : Addr} {mA : Str → Option Value} {name : Str} {v : Value}
theorem get_map {expr : Bool} {Q : Value → Shared → Prop} (X : K.In s.heap) (I : ObjM s.heap x dx C mA) (hg : PySem.W.plainGet K C name = true) (hh : PySem.W.hasDictIn K C = true)
    (ha : PySem.W.findIn K (.ref C) name = some none) (hv : mA name = some v) (hv' : PySem.W.handedIn v = true) (h : Q v { s with toks := s.toks + 1 }) :
    wpAny (model prog w) A (getAttr (.ref x) name expr) Q E s := by
  obtain ⟨od, J, hl⟩ := I.look
  exact PySem.W.get_value X J (PySem.W.plainGet_of hg).1 (PySem.W.findObj_own hh ha rfl (by rw [hl, hv])) hv' h
theorem get_meth {pl : Sem Bool} {Q : Value × List Value → Shared → Prop} (X : K.In s.heap) (I : ObjM s.heap x dx C mA) (hg : PySem.W.plainGet K C name = true)
    (hf : PySem.W.findIn K (.ref C) name = some (some (.ref f))) (ht : PySem.W.isFn K (.ref f) = true) (hv : mA name = none) (h : Q (.ref f, [.ref x]) s) :
    wpAny (model prog w) A (getMethod (.ref x) name pl) Q E s := by
  obtain ⟨od, J, hl⟩ := I.look
  exact PySem.W.method_fn X J (PySem.W.plainGet_of hg).1 (PySem.W.plainGet_of hg).2 hf (beq_iff_eq.mp ht) (by show (PySem.W.lookIn name od).map (·.isSome) = some false; rw [hl, hv]; rfl) h
theorem set_map {ns : List Str} {Q : Unit → Shared → Prop} (X : K.In s.heap) (I : ObjM s.heap x dx C mA)
    (hs : PySem.W.findIn K (.ref C) "__setattr__" = some (some (.builtin "object.__setattr__"))) (hp : PySem.W.plainOver K C = true) (ht : PySem.W.takerIn K C name = some none) (hh : PySem.W.hasDictIn K C = true)
    (hw : PySem.Within mA ns) (hsz : ns.length ≤ sizeLine)
    (h : ∀ h', ObjM h' x dx C (fun y => if y = name then some v else mA y) → Heap.SameBut dx s.heap h' → Q () { s with heap := h', toks := s.toks + 2 }) :
    wpAny (model prog w) A (setAttr (.ref x) name v) Q E s := by
  obtain ⟨od, J, hl⟩ := I.look
  refine PySem.W.set_plain X J hs (PySem.W.osa_open (s := { s with toks := s.toks + 1 }) (r := none) X J hp ht fun b => ?_)
  obtain ⟨cd, hc, hd'⟩ := PySem.W.any_some hh
  have hx : s.heap.get? x = some ⟨.ref C, some dx, .plain, #[]⟩ := I.obj
  refine wpAny_bind (wpAny_pure (wpAny_bind (wpAny_bind (wpAny_loadPart hx (wpAny_bind (PySem.W.Looks.here (s := { s with toks := s.toks + 1 }) (PySem.W.looks_clsIn X hc) ?_))))))
  rw [hd']
  refine wpAny_pure (a := some dx) (wpAny_bind (wpAny_pure (wpAny_bind ?_)))
  refine wpAny_nsSet1 (s := { s with toks := s.toks + 1 }) I.ns fun h' hn2 hs2 => ?_
  obtain ⟨oD, esD, epD, hoD, hdD, hcD⟩ := hn2.count (PySem.Within.cons name v hw)
  refine wpAny_bind (wpAny_lookBehind hoD (by rw [hdD]; exact pastItsLine_dict (Nat.le_trans hcD (by rw [List.length_cons]; omega))) ?_)
  exact wpAny_pure (h _ ⟨(hs2.2 _ (Ne.symm I.ne)).trans I.obj, hn2, I.ne⟩ hs2)
theorem make_map {R : Result → Shared → Prop} {vs : List Value} {kw : List (Str × Value)} (X : K.In s.heap) (hm : PySem.W.makesIn K C = true)
    (hi : PySem.W.findIn K (.ref C) "__init__" = some (some (.ref f))) (hf : PySem.W.typeIn K (.ref f) = some (.type "function"))
    (h : codeAny (model prog w) (A.under (.builtin "type.__call__" ⟨.ref C :: vs, kw⟩)) (.call (.ref f) ⟨.ref (s.heap.objs.size + 1) :: vs, kw⟩) (PySem.W.InitBack (s.heap.objs.size + 1) R)
      { s with heap := (s.heap.push PySem.W.emptyDict).push (PySem.W.instObj C s.heap.objs.size) }) :
    codeAny (model prog w) A (.call (.ref C) ⟨vs, kw⟩) R s := by
  obtain ⟨hh, g, d, t, os⟩ := s
  exact PySem.W.make_core (PySem.W.makes_of X hm) (PySem.W.looks_findIn X hi) (fun self => PySem.W.bind_fn X self hf) (.inl rfl) h
end
def putF (f : Str) (v : V) : List (Str × V) → List (Str × V)
  | [] => [(f, v)]
  | (g, x) :: r => if g = f then (g, v) :: r else (g, x) :: putF f v r
theorem lookup_putF (f g : Str) (v : V) : ∀ fs : List (Str × V), (putF f v fs).lookup g = if g = f then some v else fs.lookup g
  | [] => by
    show List.lookup g [(f, v)] = _
    by_cases h : g = f
    · have hb : (g == f) = true := beq_iff_eq.mpr h
      simp only [List.lookup, hb, if_pos h]
    · have hb : (g == f) = false := beq_eq_false_iff_ne.mpr h
      simp only [List.lookup, hb, if_neg h]
  | (k, x) :: r => by
    have ih := lookup_putF f g v r
    rw [show putF f v ((k, x) :: r) = (if k = f then (k, v) :: r else (k, x) :: putF f v r) from rfl]
    by_cases hk : k = f
    · rw [if_pos hk]
      by_cases h : g = k
      · have hb : (g == k) = true := beq_iff_eq.mpr h
        simp only [List.lookup, hb, if_pos (h.trans hk)]
      · have hb : (g == k) = false := beq_eq_false_iff_ne.mpr h
        simp only [List.lookup, hb, if_neg (fun e : g = f => h (e.trans hk.symm))]
    · rw [if_neg hk]
      by_cases h : g = k
      · have hb : (g == k) = true := beq_iff_eq.mpr h
        simp only [List.lookup, hb, if_neg (fun e : g = f => hk (h.symm.trans e))]
      · have hb : (g == k) = false := beq_eq_false_iff_ne.mpr h
        simp only [List.lookup, hb]
        exact ih
theorem keys_putF (f : Str) (v : V) : ∀ fs : List (Str × V), f ∈ (putF f v fs).map (·.1) ∧ ∀ g, g ∈ fs.map (·.1) → g ∈ (putF f v fs).map (·.1)
  | [] => ⟨by simp [putF], fun g h => by simp at h⟩
  | (k, x) :: r => by
    obtain ⟨i1, i2⟩ := keys_putF f v r
    rw [show putF f v ((k, x) :: r) = (if k = f then (k, v) :: r else (k, x) :: putF f v r) from rfl]
    by_cases hk : k = f
    · rw [if_pos hk]
      subst hk
      exact ⟨by simp, fun g h => by simpa using h⟩
    · rw [if_neg hk]
      refine ⟨?_, fun g h => ?_⟩
      · rw [List.map_cons]
        exact List.mem_cons_of_mem _ i1
      · rw [List.map_cons] at h ⊢
        rcases List.mem_cons.mp h with e | e
        · exact List.mem_cons.mpr (.inl e)
        · exact List.mem_cons_of_mem _ (i2 g e)
theorem length_putF (f : Str) (v : V) : ∀ fs : List (Str × V), (putF f v fs).length ≤ fs.length + 1
  | [] => by simp [putF]
  | (k, x) :: r => by
    have ih := length_putF f v r
    rw [show putF f v ((k, x) :: r) = (if k = f then (k, v) :: r else (k, x) :: putF f v r) from rfl]
    by_cases hk : k = f
    · rw [if_pos hk, List.length_cons, List.length_cons]; omega
    · rw [if_neg hk, List.length_cons, List.length_cons]; omega
theorem RelO.some_of {v : V} {o : Option Value} (r : RelO (some v) o) : ∃ u, o = some u ∧ RelV v u := by
  cases o with
  | none => exact (show False from r).elim
  | some u => exact ⟨u, rfl, r⟩
theorem RelO.none_of {o : Option Value} (r : RelO none o) : o = none := by
  cases o with
  | none => rfl
  | some u => exact (show False from r).elim
theorem handed_of {v : V} {u : Value} (r : RelV v u) : PySem.W.handedIn u = true := by
  cases v with
  | non => cases (show u = Value.none from r); rfl
  | bl b => cases (show u = Value.bool b from r); rfl
  | int i => obtain ⟨t, e⟩ := (show ∃ t, u = Value.int i t from r); cases e; rfl
  | str x => obtain ⟨t, e⟩ := (show ∃ t, u = Value.str x t from r); cases e; rfl
  | byt b => obtain ⟨t, e⟩ := (show ∃ t, u = Value.bytes b t from r); cases e; rfl
  | flt b => obtain ⟨t, e⟩ := (show ∃ t, u = Value.float b t from r); cases e; rfl
  | ref a => cases (show u = Value.ref a from r); rfl
  | ty n => cases (show u = Value.type n from r); rfl
section
variable {P : Program} {w : World} {H H' : Hp} {h h' : Heap} {a C dx : Addr} {fs fs' : List (Str × V)}
theorem ins_get (hok : HOk P w H h) (e : H a = some (.ins C dx fs)) : ∃ mA, ObjM h a dx C mA ∧ (∀ f, RelO (fs.lookup f) (mA f)) ∧ PySem.Within mA (fs.map (·.1)) ∧ fs.length ≤ 1000 ∧ H dx = some (.own a) := by
  obtain ⟨d, z, ne, ob, mA, n, r, q⟩ := (show ObjOk P w H h a (.ins C dx fs) from hok a _ e)
  exact ⟨mA, ⟨ob, n, ne⟩, r, q, z, d⟩
end
structure Cls (K : PySem.W.Frag) (C : Addr) : Prop where
  pg : PySem.W.plainGet K C Str.empty = true
  hd : PySem.W.hasDictIn K C = true
  po : PySem.W.plainOver K C = true
  sa : PySem.W.findIn K (.ref C) "__setattr__" = some (some (.builtin "object.__setattr__"))
theorem Cls.get {K : PySem.W.Frag} {C : Addr} (c : Cls K C) (f : Str) : PySem.W.plainGet K C f = true := c.pg
def NoAttr (K : PySem.W.Frag) (C : Addr) (f : Str) : Prop := PySem.W.findIn K (.ref C) f = some none
theorem NoAttr.taker {K : PySem.W.Frag} {C : Addr} {f : Str} (n : NoAttr K C f) : PySem.W.takerIn K C f = some none := by
  unfold PySem.W.takerIn
  rw [show PySem.W.findIn K (.ref C) f = some none from n]
  rfl
structure Meth (K : PySem.W.Frag) (C : Addr) (m : Str) (f : Addr) : Prop where
  at_ : PySem.W.findIn K (.ref C) m = some (some (.ref f))
  fn : PySem.W.isFn K (.ref f) = true
  kp : PySem.W.keepIn K (.ref f) = true
section
variable {X : Cx} {pins : List (Addr × Obj)} {σ : St} {H : Hp} {s : Shared} {a C dx : Addr} {fs : List (Str × V)} {f : Str} {v : V} {A : Around} {E : Value → Shared → Prop}
theorem getattr_ok {b : Bool} {Q : Value → Shared → Prop} (I : Inv X pins σ H s) (e : H a = some (.ins C dx fs)) (c : Cls X.K C) (n : NoAttr X.K C f) (l : fs.lookup f = some v)
    (h : ∀ u s', Inv X pins σ H s' → RelV v u → Q u s') : wpAny (model X.prog X.w) A (getAttr (.ref a) f b) Q E s := by
  obtain ⟨mA, O, r, _, _, _⟩ := ins_get I.hok e
  obtain ⟨u, hu, ru⟩ := RelO.some_of (v := v) (o := mA f) (by rw [← l]; exact r f)
  exact get_map I.kIn O (c.get f) c.hd n hu (handed_of ru) (h u _ (I.tok _) ru)
theorem getmeth_ok {m : Str} {g : Addr} {pl : Sem Bool} {Q : Value × List Value → Shared → Prop} (I : Inv X pins σ H s) (e : H a = some (.ins C dx fs)) (c : Cls X.K C) (k : Meth X.K C m g) (l : fs.lookup m = none)
    (h : Q (.ref g, [.ref a]) s) : wpAny (model X.prog X.w) A (getMethod (.ref a) m pl) Q E s := by
  obtain ⟨mA, O, r, _, _, _⟩ := ins_get I.hok e
  have hn : mA m = none := RelO.none_of (by rw [← l]; exact r m)
  exact get_meth I.kIn O (c.get m) k.at_ k.fn hn h
theorem setattr_ok {y : V} {u : Value} {Q : Unit → Shared → Prop} (I : Inv X pins σ H s) (e : H a = some (.ins C dx fs)) (c : Cls X.K C) (n : NoAttr X.K C f) (hl : fs.length < 1000) (ry : RelV y u)
    (h : ∀ s', Inv X pins σ (upd H a (.ins C dx (putF f y fs))) s' → Q () s') : wpAny (model X.prog X.w) A (setAttr (.ref a) f u) Q E s := by
  obtain ⟨mA, O, r, wi, _, ho⟩ := ins_get I.hok e
  have hz : (fs.map (·.1)).length ≤ sizeLine := by rw [List.length_map, sizeLine_eq]; omega
  refine set_map I.kIn O c.sa c.po n.taker c.hd wi hz fun h' O' sb => h _ ?_
  have hd : ∃ o, h'.get? dx = some o := let ⟨o, _, _, e', _⟩ := O'.ns; ⟨o, e'⟩
  refine I.write (x := a) (e := dx) (by rw [e]; exact True.intro) (.inr ho) (fun b q hb z => (sb.2 b hb).trans z) hd ?_
  refine ⟨by rw [upd_ne O.ne]; exact ho, ?_, O.ne, O'.obj, _, O'.ns, fun g => ?_, fun g hg => ?_⟩
  · have := length_putF f y fs; omega
  · show RelO ((putF f y fs).lookup g) (if g = f then some u else mA g)
    rw [lookup_putF]
    by_cases q : g = f
    · rw [if_pos q, if_pos q]; exact ry
    · rw [if_neg q, if_neg q]; exact r g
  · by_cases q : g = f
    · rw [q]; exact (keys_putF f y fs).1
    · refine (keys_putF f y fs).2 g (wi g fun z => hg ?_)
      show (if g = f then some u else mA g) = none
      rw [if_neg q]; exact z
theorem Inv.made (I : Inv X pins σ H s) : Inv X pins σ (upd (upd H s.heap.objs.size (.own (s.heap.objs.size + 1))) (s.heap.objs.size + 1) (.ins C s.heap.objs.size []))
    { s with heap := (s.heap.push PySem.W.emptyDict).push (PySem.W.instObj C s.heap.objs.size) } := by
  have e1 : (s.heap.push PySem.W.emptyDict).get? s.heap.objs.size = some PySem.W.emptyDict := Heap.get?_push_size s.heap rfl
  have e2 : ((s.heap.push PySem.W.emptyDict).push (PySem.W.instObj C s.heap.objs.size)).get? (s.heap.objs.size + 1) = some (PySem.W.instObj C s.heap.objs.size) := by
    have := Heap.get?_push_size (s.heap.push PySem.W.emptyDict) (o := PySem.W.instObj C s.heap.objs.size) rfl
    rwa [Heap.size_push] at this
  have e3 : (s.heap.push PySem.W.emptyDict).Ns s.heap.objs.size (fun _ => none) := ⟨PySem.W.emptyDict, #[], _, e1, rfl, (fun e he => absurd he (by simp)), fun _ => rfl⟩
  have I1 := I.laid (a := s.heap.objs.size) (o := .own (s.heap.objs.size + 1)) (h' := s.heap.push PySem.W.emptyDict) (t' := s.toks) (fun b u q => Heap.get?_push_of_some _ q) (Nat.le_refl _) ⟨_, e1⟩
  refine I1.laid (a := s.heap.objs.size + 1) (o := .ins C s.heap.objs.size []) (t' := s.toks) (fun b u q => Heap.get?_push_of_some _ q) (Nat.le_of_eq (Heap.size_push _ _)) ?_
  have ne : s.heap.objs.size ≠ s.heap.objs.size + 1 := Nat.ne_of_lt (Nat.lt_succ_self _)
  refine ⟨by rw [upd_ne ne, upd_same], Nat.zero_le _, ne, e2, fun _ => none, (Heap.Ns1.of_empty e3).at fun o q => Heap.get?_push_of_some _ q, fun _ => True.intro, fun y hy => absurd rfl hy⟩
theorem attr_of {prog : Program} {w : World} {env : Env} {e : Expr} {f : Str} {pos : Pos} {s : Shared} {Q : Value → Shared → Prop} (hb : attributeBase e f env (eval e env) = eval e env)
    (h : wpAny (model prog w) A (eval e env) (fun o s₁ => wpAny (model prog w) A (getAttr o f true) Q E s₁) E s) : wpAny (model prog w) A (eval (.Attribute e f pos) env) Q E s :=
  Attribute_any_ h (by rw [arm_eval_Attribute, hb])
end
def tFld (K : PySem.W.Frag) (ta : TE) (f : Str) : TE := fun σ H Q => ta σ H fun x H1 => ∃ a C dx fs v, x = .ref a ∧ H1 a = some (.ins C dx fs) ∧ Cls K C ∧ NoAttr K C f ∧ fs.lookup f = some v ∧ Q v H1
def sFld (K : PySem.W.Frag) (ta tv : TE) (f : Str) : TS := fun D σ H => tv σ H fun y H1 => ta σ H1 fun x H2 => ∃ a C dx fs, x = .ref a ∧ H2 a = some (.ins C dx fs) ∧ Cls K C ∧ NoAttr K C f ∧ fs.length < 1000 ∧
  D.nx σ (upd H2 a (.ins C dx (putF f y fs)))
section
variable {X : Cx} {o e value : Expr} {f : Str} {pos pos' tpos : Pos} {ta tv : TE}
theorem pe_fld (he : PE X e ta) (hb : attributeBase e f X.env (eval e X.env) = eval e X.env) : PE X (.Attribute e f pos) (tFld X.K ta f) := by
  intro pins s σ H Q I h
  refine attr_of hb (thn (he pins s σ H _ I h) fun u s1 ⟨x, H1, I1, rx, a, C, dx, fs, v, ex, ea, c, n, l, q⟩ => ?_)
  subst ex
  obtain rfl : u = Value.ref a := rx
  exact getattr_ok I1 ea c n l fun u' s2 I2 ru => ⟨v, H1, I2, ru, q⟩
theorem ps_fld (ha : PE X o ta) (hv : PE X value tv) (hs : swapsWith value (some (.Attribute o f pos')) pos.line X.env = pure false) : PS X (.Assign [.Attribute o f pos'] value pos) (sFld X.K ta tv f) := by
  intro pins s σ H D I h
  refine plainObj_wpAny_Assign_Attribute (thn (hv pins s σ H _ I h) fun u s1 ⟨y, H1, I1, ry, q⟩ => thn (ha pins s1 σ H1 _ I1 q) fun ov s2 ⟨x, H2, I2, rx, a, C, dx, fs, ex, ea, c, n, l, q2⟩ => ?_) hs
  subst ex
  obtain rfl : ov = Value.ref a := rx
  exact setattr_ok I2 ea c n l ry fun s3 I3 => ⟨σ, _, I3, q2⟩
end
section
variable {X : Cx} {pins : List (Addr × Obj)} {σ : St} {H : Hp} {s : Shared} {A : Around} {E : Value → Shared → Prop} {Q : Value → Shared → Prop} {c : Value} {b : Bool}
inductive TyOf (K : PySem.W.Frag) (H : Hp) : V → Value → Prop where
  | non : TyOf K H .non (.type "NoneType")
  | bl (x : Bool) : TyOf K H (.bl x) (.type "bool")
  | int (i : Int) : TyOf K H (.int i) (.type "int")
  | str (x : Str) : TyOf K H (.str x) (.type "str")
  | flt (x : UInt64) : TyOf K H (.flt x) (.type "float")
  | lst {a : Addr} {xs : List V} (e : H a = some (.lst xs)) : TyOf K H (.ref a) (.type "list")
  | frz {a : Addr} {o : Obj} {xs : List V} (e : H a = some (.frz o (.lst xs))) : TyOf K H (.ref a) (.type "list")
  | tup {a : Addr} {xs : List V} (e : H a = some (.tup xs)) : TyOf K H (.ref a) (.type "tuple")
  | dK {a : Addr} {kvs : List (Key × V)} (e : H a = some (.dK kvs)) : TyOf K H (.ref a) (.type "dict")
  | dT {a : Addr} {kvs : List (List Key × V)} (e : H a = some (.dT kvs)) : TyOf K H (.ref a) (.type "dict")
  | ins {a C dx : Addr} {fs : List (Str × V)} (e : H a = some (.ins C dx fs)) (cl : Cls K C) (ha : PySem.W.findIn K (.ref C) "__class__" = some (some (.builtin "object.__class__")))
      (hn : PySem.W.specialIn K (.builtin "object.__class__") "__get__" = some (some (.builtin "getset_descriptor.__get__"))) (htk : PySem.W.takesIn K (.builtin "object.__class__") = some true)
      (hm : PySem.W.mroIn K C (.type "object") = some true) : TyOf K H (.ref a) (.ref C)
theorem isinst_ok {x : V} {u t : Value} (I : Inv X pins σ H s) (rx : RelV x u) (ty : TyOf X.K H x t) (e : PySem.W.kitOne X.K t c = some b) (h : ∀ tk, Q (.bool b) { s with toks := tk }) :
    wpAny (model X.prog X.w) A (call (.builtin "isinstance") [u, c]) Q E s := by
  cases ty with
  | non => cases (show u = Value.none from rx); exact PySem.W.kia_one PySem.W.kitx_none I.kIn True.intro e (fun z => nomatch z) h
  | bl y => cases (show u = Value.bool y from rx); exact PySem.W.kia_one PySem.W.kitx_bool I.kIn True.intro e (fun z => nomatch z) h
  | int i => obtain ⟨t, q⟩ := (show ∃ t, u = Value.int i t from rx); cases q; exact PySem.W.kia_one PySem.W.kitx_int I.kIn True.intro e (fun z => nomatch z) h
  | str y => obtain ⟨t, q⟩ := (show ∃ t, u = Value.str y t from rx); cases q; exact PySem.W.kia_one PySem.W.kitx_str I.kIn True.intro e (fun z => nomatch z) h
  | flt y => obtain ⟨t, q⟩ := (show ∃ t, u = Value.float y t from rx); cases q; exact PySem.W.kia_one PySem.W.kitx_float I.kIn True.intro e (fun z => nomatch z) h
  | @lst a xs ea =>
    cases (show u = Value.ref a from rx)
    obtain ⟨_, _, n, _, h1⟩ := (show ObjOk X.prog X.w H s.heap a (.lst xs) from I.hok a _ ea)
    exact PySem.W.kia_one PySem.W.kitx_list I.kIn ⟨_, h1, rfl⟩ e (fun z => nomatch z) h
  | @frz a ob xs ea =>
    cases (show u = Value.ref a from rx)
    obtain ⟨_, _, _, n, _, h1⟩ := (show ObjOk X.prog X.w H s.heap a (.frz ob (.lst xs)) from I.hok a _ ea)
    exact PySem.W.kia_one PySem.W.kitx_list I.kIn ⟨_, h1, rfl⟩ e (fun z => nomatch z) h
  | @tup a xs ea =>
    cases (show u = Value.ref a from rx)
    obtain ⟨_, _, _, p⟩ := (show ObjOk X.prog X.w H s.heap a (.tup xs) from I.hok a _ ea)
    obtain ⟨o, h1, h2, _⟩ := p
    exact PySem.W.kia_one PySem.W.kitx_tuple I.kIn ⟨o, h1, h2⟩ e (fun z => nomatch z) h
  | @dK a kvs ea =>
    cases (show u = Value.ref a from rx)
    obtain ⟨_, _, vs, _, p⟩ := (show ObjOk X.prog X.w H s.heap a (.dK kvs) from I.hok a _ ea)
    obtain ⟨o, es, ep, h1, h2, _⟩ := p
    exact PySem.W.kia_one PySem.W.kitx_dict I.kIn ⟨o, h1, h2.1⟩ e (fun z => nomatch z) h
  | @dT a kvs ea =>
    cases (show u = Value.ref a from rx)
    obtain ⟨_, _, xs, _, o, es, ep, h1, h2, _⟩ := (show ObjOk X.prog X.w H s.heap a (.dT kvs) from I.hok a _ ea)
    exact PySem.W.kia_one PySem.W.kitx_dict I.kIn ⟨o, h1, h2.1⟩ e (fun z => nomatch z) h
  | @ins a C dx fs ea cl ha hn htk hm =>
    cases (show u = Value.ref a from rx)
    obtain ⟨mA, O, _⟩ := ins_get I.hok ea
    obtain ⟨od, J, _⟩ := O.look
    exact PySem.W.kia_one (PySem.W.kitx_own (cl.get _) cl.hd ha hn htk hm) I.kIn J e (fun z => nomatch z) h
end
end L2
namespace L2
open PySem PySem.Spec PyProof.Rows
structure Room (k : Nat) (A : Around) : Prop where
  hd : A.handled = none
  dp : A.depth + 3 * k + 5 < recursionLimit
  un : A.units + 16 * k + 200 < cLine
theorem Room.mono {j k : Nat} {A : Around} (r : Room k A) (h : j ≤ k) : Room j A := ⟨r.hd, by have := r.dp; omega, by have := r.un; omega⟩
theorem Room.deeper {k : Nat} {A : Around} (r : Room (k + 1) A) (env : Env) : Room k (A.deeper env) :=
  ⟨r.hd, by have := r.dp; show A.depth + 1 + 3 * k + 5 < _; omega, by have := r.un; show A.units + 3 + 16 * k + 200 < _; omega⟩
theorem make_depth {A : Around} {C : Addr} {us : List Value} {kw : List (Str × Value)} : (A.under (.builtin "type.__call__" ⟨.ref C :: us, kw⟩)).depth = A.depth + 1 := by
  first | rfl | simp [Around.under, Code.weight, Code.isCreation, Code.isGuard, Code.isCaller, Code.frames, Code.isFrame, guardIds]
theorem make_units {A : Around} {C : Addr} {us : List Value} {kw : List (Str × Value)} : (A.under (.builtin "type.__call__" ⟨.ref C :: us, kw⟩)).units = A.units + 1 := by
  first | rfl | simp [Around.under, Code.cUnits, Code.frames, Code.isFrame]
theorem Room.make {k : Nat} {A : Around} (r : Room (k + 1) A) (C : Addr) (us : List Value) (kw : List (Str × Value)) : Room k (A.under (.builtin "type.__call__" ⟨.ref C :: us, kw⟩)) :=
  ⟨r.hd, by have := r.dp; rw [make_depth]; omega, by have := r.un; rw [make_units]; omega⟩
theorem Room.depth {k : Nat} {A : Around} (r : Room k A) : A.depth < recursionLimit := by have := r.dp; omega
theorem Room.units {k : Nat} {A : Around} (r : Room k A) : A.units + 64 < cLine := by have := r.un; omega
def tNil : TA := fun _ H Q => Q [] H
def tCons (ta : TE) (tr : TA) : TA := fun σ H Q => ta σ H fun x H1 => tr σ H1 fun xs H2 => Q (x :: xs) H2
section
variable {X : Cx} {e : Expr} {es : List Expr} {te : TE} {t : TA} {pos : Pos}
theorem pa_nil : PA X [] tNil := fun _ _ _ _ H Q I h => Calls.spliced_nil ⟨[], H, I, .nil, h⟩
theorem pa_cons (ha : PE X e te) (hr : PA X es t) (hs : starEach (e :: es) X.env = (false, eval e X.env) :: starEach es X.env := by rfl) : PA X (e :: es) (tCons te t) := by
  intro pos pins s σ H Q I h
  rw [hs]
  show wpAny _ _ (spliced ((false, eval e X.env) :: backTo pos (starEach es X.env))) _ _ s
  refine Calls.spliced_cons (thn (ha pins s σ H _ I h) fun u s1 ⟨x, H1, I1, r1, q1⟩ => ?_)
  exact thn (hr pos pins s1 σ H1 _ I1 q1) fun us s2 ⟨xs, H2, I2, r2, q2⟩ => ⟨x :: xs, H2, I2, .cons r1 r2, q2⟩
def tTup (t : TA) : TE := fun σ H Q => t σ H fun xs H1 => xs.length ≤ sizeLine ∧ ∀ p, H1 p = none → Q (.ref p) (upd H1 p (.tup xs))
def tLst (t : TA) : TE := fun σ H Q => t σ H fun xs H1 => xs.length ≤ sizeLine ∧ ∀ p, H1 p = none → Q (.ref p) (upd H1 p (.lst xs))
theorem pe_tup {x1} (h : PA X es t) : PE X (.Tuple es x1 pos) (tTup t) := by
  intro pins s σ H Q I hq
  refine wpAny_Tuple_spliced (thn (h pos pins s σ H _ I hq) fun us s1 ⟨xs, H1, I1, r, z, q⟩ => ⟨by rw [← r.length]; exact z, ?_⟩)
  have hf : H1 s1.heap.objs.size = none := I1.hok.fresh (Nat.le_refl _)
  refine ⟨.ref s1.heap.objs.size, upd H1 s1.heap.objs.size (.tup xs), I1.laid (t' := s1.toks) (fun b u e => Heap.get?_push_of_some _ e) (Nat.le_refl _) ?_, rfl, q _ hf⟩
  exact ⟨z, us, r, ⟨_, Heap.get?_push_size _ rfl, rfl, _, rfl⟩⟩
theorem pe_lst (h : PA X es t) : PE X (.List es pos) (tLst t) := by
  intro pins s σ H Q I hq
  refine wpAny_List_spliced (thn (h pos pins s σ H _ I hq) fun us s1 ⟨xs, H1, I1, r, z, q⟩ => ⟨by rw [← r.length]; exact z, ?_⟩)
  have hf : H1 s1.heap.objs.size = none := I1.hok.fresh (Nat.le_refl _)
  refine ⟨.ref s1.heap.objs.size, upd H1 s1.heap.objs.size (.lst xs), I1.laid (t' := s1.toks) (fun b u e => Heap.get?_push_of_some _ e) (Nat.le_refl _) ?_, rfl, q _ hf⟩
  exact ⟨z, us, 0, r, Heap.get?_push_size _ rfl⟩
end
abbrev Sp := List V → Hp → VK → XK → Prop
abbrev CXT := List Env → Hp → Shared → XK → Value → Shared → Prop
structure Env0 (P : Program) (w : World) (K : PySem.W.Frag) (mg : Str → Option Value) (base : Heap) (A : Around) (outer : List Env) (s : Shared) (H : Hp) : Prop where
  frames : A.frames = some outer
  mod : Mod K mg base
  bs : ∀ b o, base.get? b = some o → s.heap.get? b = some o ∧ H b = none
  bsz : base.objs.size ≤ s.heap.objs.size
  funs : s.heap.FunFrames base outer
  frf : ∀ b ∈ frs outer, H b = none
  hok : HOk P w H s.heap
  bare : AllBare s.gens
def CE (outer : List Env) (P : Program) (w : World) (H : Hp) (s : Shared) (Q : VK) (u : Value) (s' : Shared) : Prop :=
  ∃ v H', s'.os = s.os ∧ AllBare s'.gens ∧ Un (frs outer) [] H H' s.heap s'.heap ∧ HOk P w H' s'.heap ∧ RelV v u ∧ Q v H'
def CR (CX : CXT) (outer : List Env) (P : Program) (w : World) (H : Hp) (s : Shared) (Q : VK) (E : XK) (r : Result) (s' : Shared) : Prop :=
  match r with
  | .ok (.ret u) => CE outer P w H s Q u s'
  | .ok _ => False
  | .error e => CX outer H s E e s'
structure FnOk (P : Program) (w : World) (K : PySem.W.Frag) (mg : Str → Option Value) (base : Heap) (CX : CXT) (k : Nat) (f : Addr) (fd : FuncData) (ps : List Str) (sp : Sp) : Prop where
  len : ∀ vs H Q E, sp vs H Q E → vs.length = ps.length
  run : ∀ (A : Around) (outer : List Env) (s : Shared) (H : Hp) (args : Args) (us : List Value) (vs : List V) (Q : VK) (E : XK), Room k A → Env0 P w K mg base A outer s H → BindsTo s fd args (ps.zip us) → Vals vs us → sp vs H Q E →
    codeAny (model P w) A (.call (.ref f) args) (CR CX outer P w H s Q E) s
theorem Env0.make {P : Program} {w : World} {K : PySem.W.Frag} {mg : Str → Option Value} {base : Heap} {A : Around} {outer : List Env} {s : Shared} {H : Hp} (e : Env0 P w K mg base A outer s H) (C : Addr) (us : List Value) (kw : List (Str × Value)) :
    Env0 P w K mg base (A.under (.builtin "type.__call__" ⟨.ref C :: us, kw⟩)) outer s H := ⟨by first | exact e.frames | (simpa [Around.under, Code.envs, Code.isFrame, pushEnvs] using e.frames), e.mod, e.bs, e.bsz, e.funs, e.frf, e.hok, e.bare⟩
section
variable {X : Cx} {pins : List (Addr × Obj)} {σ : St} {H : Hp} {s s' : Shared}
theorem Inv.env0 (I : Inv X pins σ H s) : Env0 X.prog X.w X.K X.mg X.base X.A X.stack s H :=
  ⟨I.ok.frames, I.ok.mod, I.bs, Nat.le_trans I.ok.bsz I.sz, I.stack, I.stkFree, I.hok, I.bare⟩
theorem Inv.after {Q : VK} {u : Value} (I : Inv X pins σ H s) (h : CE X.stack X.prog X.w H s Q u s') : EP X pins σ Q u s' := by
  obtain ⟨v, H', os, bare, un, hok, r, q⟩ := h
  obtain ⟨hh, g, d, t, os'⟩ := s'
  obtain rfl : os' = s.os := os
  exact ⟨v, H', I.call (h' := hh) (g' := g) (d' := d) (t' := t) (ch := []) un hok bare (fun b z => absurd z (by simp)), r, q⟩
end
def tCall (sp : Sp) (dvs : List V) (E : XK) (t : TA) : TE := fun σ H Q => t σ H fun vs H1 => sp (vs ++ dvs) H1 Q E
def tMeth (C : Addr) (m : Str) (sp : Sp) (dvs : List V) (E : XK) (ta : TE) (t : TA) : TE := fun σ H Q => ta σ H fun x H1 => ∃ a dx fs, x = .ref a ∧ H1 a = some (.ins C dx fs) ∧ fs.lookup m = none ∧
  t σ H1 fun vs H2 => sp (x :: (vs ++ dvs)) H2 Q E
def tMake (C : Addr) (sp : Sp) (dvs : List V) (E : XK) (t : TA) : TE := fun σ H Q => t σ H fun vs H1 => ∀ x dx, H1 x = none → H1 dx = none → dx ≠ x →
  sp (.ref x :: (vs ++ dvs)) (upd (upd H1 dx (.own x)) x (.ins C dx [])) (fun v H2 => v = .non ∧ Q (.ref x) H2) E
def Binds (K : PySem.W.Frag) (fd : FuncData) (ps : List Str) (ds : List Value) : Prop :=
  ∀ (s : Shared) (us : List Value), K.In s.heap → (us ++ ds).length = ps.length → BindsTo s fd ⟨us, []⟩ (ps.zip (us ++ ds))
theorem Binds.all {K : PySem.W.Frag} {fd : FuncData} {ps : List Str} (h : ∀ us : List Value, us.length = ps.length → bindArgs fd ⟨us, []⟩ = pure (ps.zip us)) : Binds K fd ps [] := fun s us _ hl => by
  rw [List.append_nil] at hl ⊢
  exact .of_eq (h us hl)
def Passes (CX : CXT) (X : Cx) (E : XK) : Prop := ∀ (pins : List (Addr × Obj)) (σ : St) (H : Hp) (s : Shared) (e : Value) (s' : Shared), Inv X pins σ H s → CX X.stack H s E e s' → X.xe e s'
section
variable {X : Cx} {CX : CXT} {k : Nat} {f C : Addr} {fd : FuncData} {ps : List Str} {sp : Sp} {dvs : List V} {ds : List Value} {E : XK} {x m : Str} {p pos apos : Pos} {e o : Expr} {es : List Expr} {ta : TE} {t : TA}
theorem run_fn {pins : List (Addr × Obj)} {σ : St} {H : Hp} {s : Shared} {Q : VK} {us : List Value} {vs : List V} (F : FnOk X.prog X.w X.K X.mg X.base CX k f fd ps sp) (hr : Room k X.A) (hb : Binds X.K fd ps ds) (hd : Vals dvs ds) (hx : Passes CX X E)
    (I : Inv X pins σ H s) (r : Vals vs us) (h : sp (vs ++ dvs) H Q E) : wpAny (model X.prog X.w) X.A (call (.ref f) us) (EP X pins σ Q) X.xe s := by
  have r2 : Vals (vs ++ dvs) (us ++ ds) := r.append hd
  have hl : (us ++ ds).length = ps.length := by rw [← r2.length]; exact F.len _ _ _ _ h
  refine wpAny_call (codeAny_mono (F.run X.A X.stack s H ⟨us, []⟩ (us ++ ds) (vs ++ dvs) Q E hr I.env0 (hb s us I.kIn hl) r2 h) fun r s' hq => ?_)
  cases r with
  | error e => exact hx pins σ H s e s' I hq
  | ok fl =>
    cases fl with
    | ret u => exact I.after hq
    | next => exact False.elim hq
    | brk => exact False.elim hq
    | cont => exact False.elim hq
theorem pe_call (F : FnOk X.prog X.w X.K X.mg X.base CX k f fd ps sp) (hr : Room k X.A) (hg : Gl X x) (hm : X.mg x = some (.ref f)) (hk : PySem.W.keepIn X.K (.ref f) = true) (hb : Binds X.K fd ps ds) (hd : Vals dvs ds) (hx : Passes CX X E)
    (ha : PA X (e :: es) t) (hdb : (x == ("__debug__" : Str)) = false := by decide) (he : starEach (e :: es) X.env = (false, eval e X.env) :: starEach es X.env := by rfl) (hpl : (backTo pos (starEach es X.env)).any (·.1) = false := by rfl) :
    PE X (.Call (.Name x p) (e :: es) [] pos) (tCall sp dvs E t) := by
  intro pins s σ H Q I h
  refine wpAny_Call_Name_kw (ld_glob I hg hm ?_ hdb)
  refine PySem.W.callWith_K (h₀ := X.base) I.ok.mod.kin hk (thn (ha pos pins s σ H _ I h) fun us s1 ⟨vs, H1, I1, r, q⟩ => ⟨I1.kIn, ?_⟩) he hpl
  exact run_fn F hr hb hd hx I1 r q
theorem pe_meth {pl : Sem Bool} (he : PE X o ta) (c : Cls X.K C) (hm : Meth X.K C m f) (F : FnOk X.prog X.w X.K X.mg X.base CX k f fd ps sp) (hr : Room k X.A) (hb : Binds X.K fd ps ds) (hd : Vals dvs ds) (hx : Passes CX X E) (ha : PA X (e :: es) t)
    (hst : starEach (e :: es) X.env = (false, eval e X.env) :: starEach es X.env := by rfl) (hpl : (backTo pos (starEach es X.env)).any (·.1) = false := by rfl)
    (ht : eval (.Call (.Attribute o m apos) (e :: es) [] pos) X.env = (do
      let ov ← eval o X.env
      standAt apos.atName
      let (f, first) ← holding [ov] (getMethod ov m pl)
      callWith pos f first (backTo pos (starEach (e :: es) X.env)) (backToKw pos (keywordEach [] X.env))) := by rfl) :
    PE X (.Call (.Attribute o m apos) (e :: es) [] pos) (tMeth C m sp dvs E ta t) := by
  intro pins s σ H Q I h
  refine PySem.W.methodCall_KW (pl := pl) (thn (he pins s σ H _ I h) fun u s1 ⟨x, H1, I1, rx, a, dx, fs, ex, ea, l, q⟩ => ?_) ht
  subst ex
  obtain rfl : u = Value.ref a := rx
  refine getmeth_ok I1 ea c hm l ?_
  refine PySem.W.callWith_K (first := [.ref a]) (h₀ := X.base) I.ok.mod.kin hm.kp (thn (ha pos pins s1 σ H1 _ I1 q) fun us s2 ⟨vs, H2, I2, r, q2⟩ => ⟨I2.kIn, ?_⟩) hst hpl
  exact run_fn (us := .ref a :: us) (vs := .ref a :: vs) F hr hb hd hx I2 (.cons rfl r) q2
structure Mk (K : PySem.W.Frag) (C f : Addr) : Prop where
  makes : PySem.W.makesIn K C = true
  init : PySem.W.findIn K (.ref C) "__init__" = some (some (.ref f))
  fn : PySem.W.isFn K (.ref f) = true
  kp : PySem.W.keepIn K (.ref C) = true
theorem run_make {pins : List (Addr × Obj)} {σ : St} {H : Hp} {s : Shared} {Q : VK} {us : List Value} {vs : List V} (M : Mk X.K C f) (F : FnOk X.prog X.w X.K X.mg X.base CX k f fd ps sp) (hr : Room (k + 1) X.A) (hb : Binds X.K fd ps ds) (hd : Vals dvs ds)
    (hx : Passes CX X E) (I : Inv X pins σ H s) (r : Vals vs us)
    (h : ∀ x dx, H x = none → H dx = none → dx ≠ x → sp (.ref x :: (vs ++ dvs)) (upd (upd H dx (.own x)) x (.ins C dx [])) (fun v H2 => v = .non ∧ Q (.ref x) H2) E) :
    wpAny (model X.prog X.w) X.A (call (.ref C) us) (EP X pins σ Q) X.xe s := by
  have hq := h (s.heap.objs.size + 1) s.heap.objs.size (I.hok.fresh (Nat.le_succ _)) (I.hok.fresh (Nat.le_refl _)) (Nat.ne_of_lt (Nat.lt_succ_self _))
  have I2 := Inv.made (C := C) I
  have r2 : Vals (V.ref (s.heap.objs.size + 1) :: (vs ++ dvs)) (Value.ref (s.heap.objs.size + 1) :: (us ++ ds)) := .cons rfl (r.append hd)
  have hl : (Value.ref (s.heap.objs.size + 1) :: us ++ ds).length = ps.length := by
    have e := r2.length
    rw [F.len _ _ _ _ hq] at e
    exact e.symm
  refine wpAny_call (make_map (f := f) I.kIn M.makes M.init (beq_iff_eq.mp M.fn) (codeAny_mono (F.run _ X.stack _ _ ⟨Value.ref (s.heap.objs.size + 1) :: us, []⟩ (Value.ref (s.heap.objs.size + 1) :: (us ++ ds)) _ _ E (hr.make C us [])
    (I2.env0.make C us []) (hb _ (Value.ref (s.heap.objs.size + 1) :: us) I2.kIn hl) r2 hq) fun r s' hq' => ?_))
  cases r with
  | error e => exact hx pins σ _ _ e s' I2 hq'
  | ok fl =>
    cases fl with
    | ret u =>
      obtain ⟨v, H', I3, rv, ev, q3⟩ := I2.after hq'
      subst ev
      exact ⟨rv, ⟨V.ref (s.heap.objs.size + 1), H', I3, rfl, q3⟩⟩
    | next => exact False.elim hq'
    | brk => exact False.elim hq'
    | cont => exact False.elim hq'
theorem pe_make (M : Mk X.K C f) (F : FnOk X.prog X.w X.K X.mg X.base CX k f fd ps sp) (hr : Room (k + 1) X.A) (hg : Gl X x) (hm : X.mg x = some (.ref C)) (hb : Binds X.K fd ps ds) (hd : Vals dvs ds) (hx : Passes CX X E)
    (ha : PA X (e :: es) t) (hdb : (x == ("__debug__" : Str)) = false := by decide) (he : starEach (e :: es) X.env = (false, eval e X.env) :: starEach es X.env := by rfl) (hpl : (backTo pos (starEach es X.env)).any (·.1) = false := by rfl) :
    PE X (.Call (.Name x p) (e :: es) [] pos) (tMake C sp dvs E t) := by
  intro pins s σ H Q I h
  refine wpAny_Call_Name_kw (ld_glob I hg hm ?_ hdb)
  refine PySem.W.callWith_K (h₀ := X.base) I.ok.mod.kin M.kp (thn (ha pos pins s σ H _ I h) fun us s1 ⟨vs, H1, I1, r, q⟩ => ⟨I1.kIn, ?_⟩) he hpl
  exact run_make M F hr hb hd hx I1 r q
end
section
variable {X : Cx} {CX : CXT} {k : Nat} {f C : Addr} {fd : FuncData} {ps ks : List Str} {sp : Sp} {E : XK} {x m : Str} {p pos apos kpos : Pos} {e o : Expr} {es : List Expr} {kws : List Keyword} {te ta : TE} {t tk : TA} {nm : Option Str}
variable {g : List Value → List Value → List Value} {gV : List V → List V → List V}
end
structure FnScope (N P : List Str) (sc : Scope) : Prop where
  kind : sc.kind = .function
  co : sc.isCoroutine = false
  gen : sc.isGenerator = false
  nd : N.Nodup
  pre : N.take P.length = P
  par : ∀ x ∈ P, sc.names.lookup x = some .local ∨ sc.names.lookup x = some .cell
  nofree : ∀ y ∈ sc.names, y.2 ≠ .free
theorem bindL_out {kindOf : Str → Option NameKind} {x : Str} : ∀ {binds : List (Str × Value)} {m : Str → Option Value}, (∀ v, (x, v) ∉ binds) → bindL kindOf binds m x = m x
  | [], _, _ => rfl
  | (n, v) :: r, m, h => by
    unfold bindL
    rw [bindL_out fun w hw => h w (List.mem_cons_of_mem _ hw)]
    split
    · have : x ≠ n := by rintro rfl; exact h v List.mem_cons_self
      simp [this]
    · rfl
theorem bindC_out {kindOf : Str → Option NameKind} {x : Str} : ∀ {binds : List (Str × Value)} {m : Str → Option Value}, (∀ v, (x, v) ∉ binds) → bindC kindOf binds m x = m x
  | [], _, _ => rfl
  | (n, v) :: r, m, h => by
    unfold bindC
    rw [bindC_out fun w hw => h w (List.mem_cons_of_mem _ hw)]
    split
    · rfl
    · have : x ≠ n := by rintro rfl; exact h v List.mem_cons_self
      simp [this]
theorem bindL_get {kindOf : Str → Option NameKind} {x : Str} {v : Value} : ∀ {P : List Str} {vs : List Value} {i : Nat} {m : Str → Option Value}, P.Nodup → P[i]? = some x → vs[i]? = some v → kindOf x = some .local →
    bindL kindOf (P.zip vs) m x = some v
  | [], _, _, _, _, h, _, _ => by simp at h
  | _ :: _, [], _, _, _, _, h, _ => by simp at h
  | p :: P, w :: vs, 0, m, nd, h1, h2, hk => by
    simp at h1 h2; subst h1; subst h2
    show bindL kindOf ((p, w) :: P.zip vs) m p = _
    unfold bindL
    rw [bindL_out fun v hv => (List.nodup_cons.mp nd).1 (List.of_mem_zip hv).1, if_pos hk]
    simp
  | p :: P, w :: vs, i + 1, m, nd, h1, h2, hk => by
    show bindL kindOf ((p, w) :: P.zip vs) m x = _
    unfold bindL
    exact bindL_get (i := i) (List.nodup_cons.mp nd).2 (by simpa using h1) (by simpa using h2) hk
theorem bindC_get {kindOf : Str → Option NameKind} {x : Str} {v : Value} : ∀ {P : List Str} {vs : List Value} {i : Nat} {m : Str → Option Value}, P.Nodup → P[i]? = some x → vs[i]? = some v → kindOf x ≠ some .local →
    bindC kindOf (P.zip vs) m x = some v
  | [], _, _, _, _, h, _, _ => by simp at h
  | _ :: _, [], _, _, _, _, h, _ => by simp at h
  | p :: P, w :: vs, 0, m, nd, h1, h2, hk => by
    simp at h1 h2; subst h1; subst h2
    show bindC kindOf ((p, w) :: P.zip vs) m p = _
    unfold bindC
    rw [bindC_out fun v hv => (List.nodup_cons.mp nd).1 (List.of_mem_zip hv).1, if_neg hk]
    simp
  | p :: P, w :: vs, i + 1, m, nd, h1, h2, hk => by
    show bindC kindOf ((p, w) :: P.zip vs) m x = _
    unfold bindC
    exact bindC_get (i := i) (List.nodup_cons.mp nd).2 (by simpa using h1) (by simpa using h2) hk
def start (N : List Str) (vs : List V) : St := vs.map some ++ List.replicate (N.length - vs.length) none
def cxOf (CX : CXT) (P : Program) (w : World) (K : PySem.W.Frag) (mg : Str → Option Value) (base : Heap) (N : List Str) (qual : Str) (scope : Scope) (f : Addr) (cd : Value) (A : Around) (outer : List Env) (s : Shared) (H : Hp) (E : XK) : Cx where
  prog := P
  w := w
  K := K
  mg := mg
  base := base
  A := A.deeper (envOfC qual scope s.heap.objs.size f cd)
  N := N
  s₀ := s
  H₀ := H
  env := envOfC qual scope s.heap.objs.size f cd
  outer := outer
  stack := envOfC qual scope s.heap.objs.size f cd :: outer
  ex := []
  calm := true
  fn := fun _ => true
  pn := []
  xe := fun e s' => wpAny (model P w) (A.deeper (envOfC qual scope s.heap.objs.size f cd)) (leaving (envOfC qual scope s.heap.objs.size f cd) e) (fun _ s'' => CX outer H s E e s'') (fun e' s'' => CX outer H s E e' s'') s'
theorem cell_has {sc : Scope} {n : Nat} {x : Str} (h : sc.names.lookup x = some .cell) : ∃ c, (cellsFrom n sc.names []).lookup x = some c := by
  have q := PySem.W.cellsFrom_some sc.names n [] (.inl h)
  exact Option.isSome_iff_exists.mp q
theorem inv_start {CX : CXT} {P : Program} {w : World} {K : PySem.W.Frag} {mg : Str → Option Value} {base : Heap} {N ps : List Str} {qual : Str} {scope : Scope} {f : Addr} {cd : Value} {A : Around} {outer : List Env} {s s1 : Shared} {H : Hp} {E : XK} {us : List Value} {vs : List V}
    (S : FnScope N ps scope) (hd : A.handled = none) (e0 : Env0 P w K mg base A outer s H) (hl : vs.length = ps.length) (r : Vals vs us)
    (x : InCallC s s.heap.objs.size (bindL (envOfC qual scope s.heap.objs.size f cd).kindOf (ps.zip us) fun _ => none) (cellsFrom (s.heap.objs.size + 1) scope.names []) (bindC (envOfC qual scope s.heap.objs.size f cd).kindOf (ps.zip us) fun _ => none) s1) :
    Inv (cxOf CX P w K mg base N qual scope f cd A outer s H E) [] (start N vs) H s1 := by
  have hpl : ps.length ≤ N.length := by have := congrArg List.length S.pre; rw [List.length_take] at this; omega
  obtain ⟨h1, tk, rfl, hk⟩ := x.done
  have noA : ∀ b : Addr, b ∉ (cxOf CX P w K mg base N qual scope f cd A outer s H E).ex := fun b z => absurd (show b ∈ ([] : List Addr) from z) (by simp)
  refine ⟨⟨e0.mod, S.kind, rfl, rfl, Nat.le_refl _, fun y z c h1 h2 => ?_, fun y hy => ?_, fun y c _ h => ?_, fun _ => hd, Around.frames_deeper e0.frames, .inr ⟨rfl, rfl⟩, fun b z => absurd z (noA b), e0.bs, e0.bsz, fun b _ _ => noA b, fun b z => absurd z (noA b), e0.funs, e0.frf⟩,
    rfl, e0.bare, Un.kept hk, ⟨_, x.toInCall.ns, fun i y v h1 h2 h3 => ?_⟩, fun y c h => ⟨_, x.cell y c h⟩, e0.hok.fresh (Nat.le_refl _), fun y c h => ?_, fun p hp => absurd (show p ∈ ([] : List (Addr × Obj)) from hp) (by simp), e0.hok.kept hk, ?_⟩
  · exact name_of_addr x.apart (PySem.mem_of_lookup h1) (PySem.mem_of_lookup h2)
  · have hy : scope.names.lookup y = some .cell ∨ scope.names.lookup y = some .free := hy
    rcases hy with hy | hy
    · exact cell_has hy
    · exact absurd rfl (S.nofree _ (PySem.mem_of_lookup hy))
  · exact Nat.le_of_lt (x.above y c (PySem.mem_of_lookup h))
  · have hi : i < vs.length := by
      unfold start at h2
      by_cases hi : i < vs.length
      · exact hi
      · rw [List.getElem?_append_right (by simpa using hi)] at h2
        rw [List.getElem?_replicate] at h2
        split at h2 <;> cases h2
    have ha : vs[i]? = some v := by
      unfold start at h2
      rw [List.getElem?_append_left (by simpa using hi), List.getElem?_map] at h2
      cases e : vs[i]? with
      | none => rw [e] at h2; cases h2
      | some a => rw [e] at h2; cases h2; rfl
    obtain ⟨u, hu, rv⟩ := r.get ha
    have hp : ps[i]? = some y := by
      rw [← S.pre, List.getElem?_take_of_lt (by omega)]; exact h1
    have ndP : ps.Nodup := by rw [← S.pre]; exact S.nd.sublist (List.take_sublist _ _)
    refine ⟨u, rv, ?_⟩
    rcases S.par y (List.mem_of_getElem? hp) with k | k
    · exact .inl ⟨k, bindL_get ndP hp hu k⟩
    · obtain ⟨c, e⟩ := cell_has (n := s.heap.objs.size + 1) k
      refine .inr ⟨.inl k, c, e, ?_⟩
      have q := x.cell y c e
      rw [bindC_get ndP hp hu (by show scope.names.lookup y ≠ _; rw [k]; decide)] at q
      exact q
  · exact e0.hok.fresh (Nat.le_of_lt (x.above y c (PySem.mem_of_lookup h)))
  · unfold start
    show _ = N.length
    rw [List.length_append, List.length_map, List.length_replicate]
    omega
theorem fn_of {CX : CXT} {P : Program} {w : World} {K : PySem.W.Frag} {mg : Str → Option Value} {base : Heap} {k : Nat} {f : Addr} {name qual : Str} {params : Arguments} {body : List Stmt} {scope : Scope} {dV kV doc pm cdv ct oc : Value} {an od : Option Addr}
    {osl : Array (Option Value)} {N ps : List Str} {sp : Sp} (lk : K.lookup f = some ⟨oc, od, .func (PySem.W.fnOf name qual params body scope dV kV doc pm an cdv ct), osl⟩) (hcd : PySem.W.codeIn K cdv qual = true) (S : FnScope N ps scope)
    (len : ∀ vs H Q E, sp vs H Q E → vs.length = ps.length)
    (hbody : ∀ (A : Around) (outer : List Env) (s : Shared) (H : Hp) (vs : List V) (Q : VK) (E : XK), Room k (A.deeper (envOfC qual scope s.heap.objs.size f cdv)) → sp vs H Q E →
      ∃ t, PSs (cxOf CX P w K mg base N qual scope f cdv A outer s H E) body t ∧ t { nx := fun _ H' => Q .non H', rt := Q } (start N vs) H) :
    FnOk P w K mg base CX (k + 1) f (PySem.W.fnOf name qual params body scope dV kV doc pm an cdv ct) ps sp := by
  refine ⟨len, fun A outer s H args us vs Q E hr e0 hb r hsp => ?_⟩
  have hl := len _ _ _ _ hsp
  have KX : K.In s.heap := e0.mod.kin.keeps fun b o e => (e0.bs b o e).1
  have lim : s.heap.NoLimit := e0.mod.nolimit.keeps fun b o e => (e0.bs b o e).1
  have hkind : ∀ y ∈ ps.zip us, scope.names.lookup y.1 = some .local ∨ (scope.names.lookup y.1 = some .cell ∧ ((cellsFrom (s.heap.objs.size + 1) scope.names []).lookup y.1).isSome = true) := fun ⟨n, v⟩ hy => by
    rcases S.par n (List.of_mem_zip hy).1 with q | q
    · exact .inl q
    · exact .inr ⟨q, PySem.W.cellsFrom_some _ _ _ (.inl q)⟩
  refine codeAny_call_function hr.depth (KX _ _ lk) rfl S.co S.gen rfl (PySem.W.codeRec_of KX hcd) (hb _ _ _ _ ?_)
  refine wpAny_newFunctionEnv_cells S.kind hkind fun env he s1 x => ?_
  subst he
  refine ⟨lim.keeps x.toInCall.keep, codeAny_func ?_⟩
  obtain ⟨t, ht, hq⟩ := hbody A outer s H vs Q E (hr.deeper _) hsp
  have I : Inv (cxOf CX P w K mg base N qual scope f cdv A outer s H E) [] (start N vs) H s1 := inv_start S hr.hd e0 hl r x
  refine wpAny_mono (ht [] s1 (start N vs) H _ I hq) (fun fl s' hs => ?_) fun e s' hs => hs
  have fin : ∀ {σ' : St} {H' : Hp} {v : V} {u : Value}, Inv (cxOf CX P w K mg base N qual scope f cdv A outer s H E) [] σ' H' s' → RelV v u → Q v H' → CE outer P w H s Q u s' :=
    fun {σ' H' v u} J rv q => ⟨v, H', J.os, J.bare, J.base, J.hok, rv, q⟩
  cases fl with
  | ret u =>
    obtain ⟨v, σ', H', J, rv, q⟩ := hs
    exact fin J rv q
  | next =>
    obtain ⟨σ', H', J, q⟩ := hs
    exact fin (v := V.non) (u := Value.none) J rfl q
  | brk =>
    obtain ⟨_, _, _, q⟩ := hs
    exact False.elim q
  | cont =>
    obtain ⟨_, _, _, q⟩ := hs
    exact False.elim q
end L2
namespace L2
open PySem PySem.Spec PyProof.Rows
section
variable {X : Cx} {x : Str} {p pos : Pos} {e : Expr} {es : List Expr} {t : TA} {id T : String} {r : List V → Hp → VK → Prop}
def tCB (r : List V → Hp → VK → Prop) (t : TA) : TE := fun σ H Q => t σ H fun vs H1 => r vs H1 Q
theorem pe_callB (hc : CallR X (.builtin id) r) (hg : Gl X x) (hm : X.mg x = none) (hv : bootBuiltins x = some (.builtin id)) (ha : PA X (e :: es) t) (hn : x ≠ "__name__" := by decide) (hdb : (x == ("__debug__" : Str)) = false := by decide)
    (he : starEach (e :: es) X.env = (false, eval e X.env) :: starEach es X.env := by rfl) (hpl : (backTo pos (starEach es X.env)).any (·.1) = false := by rfl) : PE X (.Call (.Name x p) (e :: es) [] pos) (tCB r t) := by
  intro pins s σ H Q I h
  refine wpAny_Call_Name_kw (ld_blt I hg hm hv ?_ hn hdb)
  exact PyProof.Rows.callWith_builtin1 (thn (ha pos pins s σ H _ I h) fun us s1 ⟨vs, H1, I1, r1, q1⟩ => hc pins s1 σ H1 vs us Q I1 r1 q1) he hpl
theorem pe_callTy (hc : CallR X (.type T) r) (hg : Gl X x) (hm : X.mg x = none) (hv : bootBuiltins x = some (.type T)) (ha : PA X (e :: es) t) (hn : x ≠ "__name__" := by decide) (hdb : (x == ("__debug__" : Str)) = false := by decide)
    (he : starEach (e :: es) X.env = (false, eval e X.env) :: starEach es X.env := by rfl) (hpl : (backTo pos (starEach es X.env)).any (·.1) = false := by rfl) : PE X (.Call (.Name x p) (e :: es) [] pos) (tCB r t) := by
  intro pins s σ H Q I h
  refine wpAny_Call_Name_kw (ld_blt I hg hm hv ?_ hn hdb)
  exact PyProof.Rows.callWith_type1 (thn (ha pos pins s σ H _ I h) fun us s1 ⟨vs, H1, I1, r1, q1⟩ => hc pins s1 σ H1 vs us Q I1 r1 q1) he hpl
end
end L2
namespace HT
open PySem PyProof.Rows
section
open PySem.SeqAt
open PySem.AutoSeq1 (wpAny_loadPart')
open PySem.MeetsSeq PySem.MeetsSeq2 PySem.MeetsSeq3
end
section
variable {prog : Program} {w : World} {A : Around} {E : Value → Shared → Prop} {s : Shared}
theorem cat_tup {t b : Addr} {vs ws : List Value} {Q : Value → Shared → Prop} (ht : IsTup s.heap t vs.toArray) (hb : IsTup s.heap b ws.toArray) (hv : vs ≠ [])
    (h1 : ws = [] → Q (.ref t) s) (h2 : ws ≠ [] → Q (.ref s.heap.objs.size) { s with heap := s.heap.push { cls := .type "tuple", data := .seq (vs ++ ws).toArray } })
    (hsz : vs.length + ws.length ≤ sizeLine) : wpAny (model prog w) A (binaryOp .Add (.ref t) (.ref b)) Q E s := by
  obtain ⟨⟨cls, dd, data, sl⟩, ho, hc, n, hd⟩ := id ht
  obtain ⟨⟨cls2, dd2, data2, sl2⟩, ho2, hc2, n2, hd2⟩ := id hb
  simp only at hc hd hc2 hd2
  subst hc hd hc2 hd2
  have e : vs.toArray ++ ws.toArray = (vs ++ ws).toArray := by simp
  by_cases hw : ws = []
  · exact concat_meets ⟨_, ho, rfl⟩ ⟨_, ho2, rfl⟩ noFill_tuple_add seq_tuple_add PySem.F.slot_tuple_add PySem.F.entry_tuple_add (PySem.F.args_tuple_add_2 _ _)
      (tuple_addW1 t b vs.toArray ws.toArray n n2 dd dd2 sl sl2 (by simpa using hv) (by simp [hw])) ⟨ho, ho2, h1 hw⟩
  · refine concat_meets ⟨_, ho, rfl⟩ ⟨_, ho2, rfl⟩ noFill_tuple_add seq_tuple_add PySem.F.slot_tuple_add PySem.F.entry_tuple_add (PySem.F.args_tuple_add_2 _ _)
      (tuple_addW2 t b vs.toArray ws.toArray n n2 dd dd2 sl sl2 (by simpa using hv) (by simpa using hw) (by rw [List.size_toArray, List.size_toArray]; exact hsz)) ⟨ho, ho2, ?_⟩
    rw [e]
    exact h2 hw
def sIx (n d : Nat) : Option Int → Nat
  | none => d
  | some v => if v < 0 then (v + (n : Int)).toNat else min v.toNat n
theorem sIx_none (n d : Nat) : sIx n d none = d := rfl
theorem sIx_nat (n d k : Nat) : sIx n d (some (k : Int)) = min k n := by
  show (if (k : Int) < 0 then ((k : Int) + (n : Int)).toNat else min (k : Int).toNat n) = min k n
  rw [if_neg (by omega), Int.toNat_natCast]
theorem sIx_le (n d : Nat) (hd : d ≤ n) (o : Option Int) : sIx n d o ≤ n := by
  cases o with
  | none => exact hd
  | some v =>
    show (if v < 0 then (v + (n : Int)).toNat else min v.toNat n) ≤ n
    by_cases hv : v < 0
    · rw [if_pos hv]; omega
    · rw [if_neg hv]; exact Nat.min_le_right _ _
theorem clip_eq (v : Int) (n d : Nat) : (if v < 0 then max (v + (n : Int)) 0 else min v (n : Int)) = ((sIx n d (some v) : Nat) : Int) := by
  show (if v < 0 then max (v + (n : Int)) 0 else min v (n : Int)) = (((if v < 0 then (v + (n : Int)).toNat else min v.toNat n) : Nat) : Int)
  by_cases hv : v < 0
  · simp only [if_pos hv]; omega
  · simp only [if_neg hv]; omega
theorem adjust_gen (lo hi : Option Int) (n : Nat) : Builtin.Slice.sliceAdjust lo hi 1 (n : Int) = (((sIx n 0 lo : Nat) : Int), ((sIx n n hi : Nat) : Int)) := by
  have h1 : ¬ ((1 : Int) < 0) := by omega
  unfold Builtin.Slice.sliceAdjust
  simp only [h1, if_false]
  refine Prod.ext ?_ ?_
  · cases lo with
    | none => rfl
    | some v => exact clip_eq v n 0
  · cases hi with
    | none => rfl
    | some v => exact clip_eq v n n
theorem places_gen (i j : Nat) : Builtin.Slice.slicePlaces (i : Int) (j : Int) 1 = j - i := by
  unfold Builtin.Slice.slicePlaces
  have h1 : (1 : Int) > 0 := by omega
  simp only [h1, if_true, Int.ediv_one]
  split <;> omega
theorem slicePart_ {v : Value} {o : Option Int} {Q : Option Int → Shared → Prop} (p : IsPart v o) (h : Q o s) : wpAny (model prog w) A (Builtin.Slice.slicePartIndex v) Q E s := by
  cases p with
  | none => exact slicePart_none h
  | int i t => exact slicePart_int h
theorem sliceApplied_gen {sl : Addr} {vl vu : Value} {lo hi : Option Int} {n : Nat} {Q : Int × Int × Nat → Shared → Prop} (hs : s.heap.IsSliceOf sl vl vu .none) (pl : IsPart vl lo) (pu : IsPart vu hi)
    (h : Q (((sIx n 0 lo : Nat) : Int), 1, sIx n n hi - sIx n 0 lo) s) : wpAny (model prog w) A (Builtin.Slice.sliceApplied (.ref sl) (pure (n : Int))) Q E s := by
  obtain ⟨os, hos, hcs, hds⟩ := id hs
  unfold Builtin.Slice.sliceApplied Builtin.Slice.sliceFields
  refine wpAny_bind (wpAny_bind (wpAny_field hos hds (x := vl) rfl (wpAny_bind (wpAny_field hos hds (x := vu) rfl (wpAny_bind (wpAny_field hos hds (x := .none) rfl (wpAny_pure ?_)))))))
  refine wpAny_bind (slicePart_none ?_)
  show wpAny _ _ (if ((1 : Int) == 0) = true then _ else _) _ _ s
  rw [if_neg (by decide)]
  refine wpAny_bind (slicePart_ pl (wpAny_bind (slicePart_ pu (wpAny_bind (wpAny_pure ?_)))))
  show wpAny _ _ (match Builtin.Slice.sliceAdjust lo hi 1 (n : Int) with | (lo, hi) => pure (lo, (1 : Int), Builtin.Slice.slicePlaces lo hi 1)) _ _ s
  rw [adjust_gen lo hi n]
  show wpAny _ _ (pure (((sIx n 0 lo : Nat) : Int), (1 : Int), Builtin.Slice.slicePlaces ((sIx n 0 lo : Nat) : Int) ((sIx n n hi : Nat) : Int) 1)) _ _ s
  rw [places_gen]
  exact wpAny_pure h
theorem pick_gen (xs : Array Value) (i k : Nat) : ((List.range k).filterMap fun (m : Nat) => xs[((i : Int) + (m : Int) * 1).toNat]?).toArray = ((xs.toList.drop i).take k).toArray := by
  have e : (fun (m : Nat) => xs[((i : Int) + (m : Int) * 1).toNat]?) = fun m => xs[i + m]? := by
    funext m
    have : ((i : Int) + (m : Int) * 1).toNat = i + m := by omega
    rw [this]
  rw [e]
  have := pick_run xs i k
  rw [List.filterMap_map] at this
  have e2 : ((fun x => xs[x]?) ∘ fun x => i + x) = fun m => xs[i + m]? := rfl
  rw [e2] at this
  rw [this]
theorem getItem_tuple_cut {t sl : Addr} {items : Array Value} {vl vu : Value} {lo hi : Option Int} {Q : Value → Shared → Prop} (ht : IsTup s.heap t items) (hs : s.heap.IsSliceOf sl vl vu .none) (pl : IsPart vl lo) (pu : IsPart vu hi)
    (hw : ¬ (sIx items.size 0 lo = 0 ∧ sIx items.size items.size hi = items.size))
    (h : Q (.ref s.heap.objs.size) { s with heap := s.heap.push { cls := .type "tuple", data := .seq ((items.toList.drop (sIx items.size 0 lo)).take (sIx items.size items.size hi - sIx items.size 0 lo)).toArray } })
    (hsz : items.size ≤ sizeLine) : wpAny (model prog w) A (getItem (.ref t) (.ref sl)) Q E s := by
  have htake : sizeOk (.seq ((items.toList.drop (sIx items.size 0 lo)).take (sIx items.size items.size hi - sIx items.size 0 lo)).toArray) := by
    show ((items.toList.drop (sIx items.size 0 lo)).take (sIx items.size items.size hi - sIx items.size 0 lo)).toArray.size ≤ sizeLine
    rw [List.size_toArray, List.length_take, List.length_drop, Array.length_toList]
    omega
  have hj : sIx items.size items.size hi ≤ items.size := sIx_le _ _ (Nat.le_refl _) hi
  obtain ⟨os, hos, hcs, hds⟩ := id hs
  have hTs : s.TypeIs (.ref sl) "slice" := ⟨os, hos, hcs⟩
  unfold getItem
  try with_reducible refine wpAny_holding ?_
  first | refine wpAny_bind (wpAny_pure ?_) | skip
  refine wpAny_bind (wpAny_sequenceKey ht.typeIs (by decide) ?_)
  refine wpAny_bind (wpAny_callSpecial?_slot (name := Str.ofString "__getitem__") ht.typeIs PyProof.Rows.slot_tuple_getitem
    (wpAny_call_entry PyProof.Rows.slot_tuple_getitem ht.typeIs entry_tuple_getitem ?_ (args_tuple_getitem _ _)))
  show wpAny _ _ (Builtin.Tuple.tupleItemsOf (.ref t) >>= _) _ _ s
  refine wpAny_bind (tupleItemsOf_ ht ?_)
  refine wpAny_bind (wpAny_typeOf hTs ?_)
  rw [if_pos (by decide)]
  refine wpAny_bind (sliceApplied_gen hs pl pu ?_)
  have hno : ¬ ((((sIx items.size 0 lo : Nat) : Int) == 0 && (1 : Int) == 1 && (sIx items.size items.size hi - sIx items.size 0 lo) == items.size) = true) := by
    intro q
    rw [Bool.and_eq_true, Bool.and_eq_true] at q
    have q1 : ((sIx items.size 0 lo : Nat) : Int) = 0 := eq_of_beq q.1.1
    have q2 : sIx items.size items.size hi - sIx items.size 0 lo = items.size := eq_of_beq q.2
    exact hw ⟨by omega, by omega⟩
  show wpAny _ _ (if (((sIx items.size 0 lo : Nat) : Int) == 0 && (1 : Int) == 1 && (sIx items.size items.size hi - sIx items.size 0 lo) == items.size) = true then _ else _) _ _ s
  rw [if_neg hno, pick_gen]
  first
    | exact wpAny_bind (m := Builtin.Tuple.tupleExact _) (wpAny_newObj_type (wpAny_pure ⟨_, rfl, wpAny_pure h⟩) htake)
    | exact wpAny_bind (m := Builtin.Tuple.tupleExact _) (wpAny_newObj_type (wpAny_bind (wpAny_pure (wpAny_pure ⟨_, rfl, wpAny_pure h⟩))) htake)
    | exact wpAny_bind (wpAny_bind (m := Builtin.Tuple.tupleExact _) (wpAny_newObj_type (wpAny_pure (wpAny_pure ⟨_, rfl, wpAny_pure h⟩)) htake))
    | exact wpAny_bind (wpAny_bind (m := Builtin.Tuple.tupleExact _) (wpAny_newObj_type (wpAny_pure ⟨_, rfl, wpAny_pure h⟩) htake))
end
end HT
namespace L2
open PySem PySem.Spec PyProof.Rows
abbrev TO := St → Hp → (Option Int → Hp → Prop) → Prop
def PO (X : Cx) (e : Option Expr) (t : TO) : Prop :=
  ∀ (pins : List (Addr × Obj)) (s : Shared) (σ : St) (H : Hp) (Q : Option Int → Hp → Prop), Inv X pins σ H s → t σ H Q →
    wpAny (model X.prog X.w) X.A (evalPart e X.env) (fun u s' => ∃ o H', Inv X pins σ H' s' ∧ IsPart u o ∧ Q o H') X.xe s
def tNoPart : TO := fun _ H Q => Q none H
def tPart (t : TE) : TO := fun σ H Q => t σ H fun x H1 => ∃ i, x = .int i ∧ Q (some i) H1
section
variable {X : Cx} {e : Expr} {te : TE} {lo hi : Option Expr} {tl th : TO} {pos p2 : Pos}
theorem po_none : PO X none tNoPart := by
  intro pins s σ H Q I h
  rw [evalPart_none]
  exact wpAny_pure ⟨none, H, I, .none, h⟩
theorem po_some (h : PE X e te) : PO X (some e) (tPart te) := by
  intro pins s σ H Q I hw
  rw [evalPart_some]
  refine thn (h pins s σ H _ I hw) fun u s1 ⟨x, H1, I1, r1, q1⟩ => ?_
  obtain ⟨i, rfl, q⟩ := q1
  obtain ⟨t, rfl⟩ := r1
  exact ⟨some i, H1, I1, .int i t, q⟩
def SlR (X : Cx) (r : V → Option Int → Option Int → Hp → VK → Prop) : Prop :=
  ∀ (pins : List (Addr × Obj)) (s : Shared) (σ : St) (H : Hp) (x : V) (v vl vu : Value) (lo hi : Option Int) (sl : Addr) (Q : VK), Inv X pins σ H s → RelV x v → s.heap.IsSliceOf sl vl vu .none → IsPart vl lo → IsPart vu hi → r x lo hi H Q →
    ∃ T id, typeLookup (.type T) "__getitem__" = pure (some (.builtin id)) ∧ s.TypeIs v T ∧ wpAny (model X.prog X.w) X.A (getItem v (.ref sl)) (EP X pins σ Q) X.xe s
def tSl (r : V → Option Int → Option Int → Hp → VK → Prop) (te : TE) (tl th : TO) : TE := fun σ H Q => te σ H fun x H1 => tl σ H1 fun l H2 => th σ H2 fun u H3 => r x l u H3 Q
theorem pe_slice {r : V → Option Int → Option Int → Hp → VK → Prop} (hr : SlR X r) (he : PE X e te) (hl : PO X lo tl) (hu : PO X hi th) : PE X (.Subscript e (.Slice lo hi none p2) pos) (tSl r te tl th) := by
  intro pins s σ H Q I h
  refine Subscript_ (thn (he pins s σ H _ I h) fun v s1 ⟨x, H1, I1, r1, q1⟩ => ?_)
  refine wpAny_Slice (thn (hl pins s1 σ H1 _ I1 q1) fun vl s2 ⟨l, H2, I2, pl, q2⟩ => thn (hu pins s2 σ H2 _ I2 q2) fun vu s3 ⟨u, H3, I3, pu, q3⟩ => ?_)
  rw [evalPart_none]
  refine wpAny_pure ?_
  have I4 : Inv X pins σ H3 { s3 with heap := s3.heap.push { cls := .type "slice", data := .fields #[vl, vu, .none] } } := I3.kept (t' := s3.toks) fun b ob q => Heap.get?_push_of_some _ q
  obtain ⟨T, id, hT, ht, hg⟩ := hr pins { s3 with heap := s3.heap.push { cls := .type "slice", data := .fields #[vl, vu, .none] } } σ H3 x v vl vu l u s3.heap.objs.size Q I4 r1 (Heap.IsSliceOf.new ..) pl pu q3
  show wpAny (model X.prog X.w) X.A (subscriptTail e (.Slice lo hi none p2) v (.ref s3.heap.objs.size)) (EP X pins σ Q) X.xe { s3 with heap := s3.heap.push { cls := .type "slice", data := .fields #[vl, vu, .none] } }
  exact tail_any (ops := [.ref s3.heap.objs.size, v]) ht hT hg (by with_unfolding_all rfl)
def cutV (xs : List V) (lo hi : Option Int) : List V := (xs.drop (HT.sIx xs.length 0 lo)).take (HT.sIx xs.length xs.length hi - HT.sIx xs.length 0 lo)
theorem cutV_length (xs : List V) (lo hi : Option Int) : (cutV xs lo hi).length ≤ xs.length := by
  unfold cutV
  rw [List.length_take, List.length_drop]
  omega
def rSlT (K : PySem.W.Frag) : V → Option Int → Option Int → Hp → VK → Prop := fun x lo hi H Q => ∃ a xs, x = .ref a ∧ SqT K H a xs ∧
  ¬ (HT.sIx xs.length 0 lo = 0 ∧ HT.sIx xs.length xs.length hi = xs.length) ∧ ∀ p, H p = none → Q (.ref p) (upd H p (.tup (cutV xs lo hi)))
theorem sl_tup : SlR X (rSlT X.K) := by
  intro pins s σ H x v vl vu lo hi sl Q I rx hs pl pu h
  obtain ⟨a, xs, rfl, hx, hw, q⟩ := h
  cases rx
  obtain ⟨its, r, ht, hz⟩ := I.tuple hx
  have hlen : its.toArray.size = xs.length := by rw [List.size_toArray]; exact r.length.symm
  refine ⟨"tuple", _, PyProof.Rows.slot_tuple_getitem.lookup, ht.typeIs, ?_⟩
  refine HT.getItem_tuple_cut ht hs pl pu (by rw [hlen]; exact hw) ?_ (by rw [hlen]; exact hz)
  rw [hlen]
  refine ⟨.ref s.heap.objs.size, _, I.laid (t' := s.toks) (o := .tup (cutV xs lo hi)) (fun b ob q => Heap.get?_push_of_some _ q) (Nat.le_refl _) ?_, rfl, q _ (I.hok.fresh (Nat.le_refl _))⟩
  exact ⟨Nat.le_trans (cutV_length xs lo hi) hz, _, (r.drop (HT.sIx xs.length 0 lo)).take (HT.sIx xs.length xs.length hi - HT.sIx xs.length 0 lo), IsTup.new _ _⟩
def rCatT (K : PySem.W.Frag) : R2 := fun x y H Q => ∃ a b xs ys, x = .ref a ∧ y = .ref b ∧ SqT K H a xs ∧ SqT K H b ys ∧ xs ≠ [] ∧ xs.length + ys.length ≤ sizeLine ∧
  (ys = [] → Q (.ref a) H) ∧ (ys ≠ [] → ∀ p, H p = none → Q (.ref p) (upd H p (.tup (xs ++ ys))))
theorem Vals.nil_iff {xs : List V} {us : List Value} (r : Vals xs us) : us = [] ↔ xs = [] := by
  cases r with
  | nil => simp
  | cons _ _ => simp
theorem op_catT : OpR X (binaryOp .Add) (rCatT X.K) := by
  intro pins s σ H x y v u Q I rx ry h
  obtain ⟨a, b, xs, ys, rfl, rfl, ha, hb, hx, hz, q1, q2⟩ := h
  cases rx
  cases ry
  obtain ⟨its, r1, p1, _⟩ := I.tuple ha
  obtain ⟨its2, r2, p2, _⟩ := I.tuple hb
  refine HT.cat_tup p1 p2 (fun z => hx (r1.nil_iff.mp z)) (fun z => ⟨.ref a, H, I, rfl, q1 (r2.nil_iff.mp z)⟩) (fun z => ?_) (by rw [← r1.length, ← r2.length]; exact hz)
  refine ⟨.ref s.heap.objs.size, _, I.laid (t' := s.toks) (o := .tup (xs ++ ys)) (fun b ob q => Heap.get?_push_of_some _ q) (Nat.le_refl _) ?_, rfl, q2 (fun w => z (r2.nil_iff.mpr w)) _ (I.hok.fresh (Nat.le_refl _))⟩
  exact ⟨by rw [List.length_append]; exact hz, _, r1.append r2, IsTup.new _ _⟩
end
end L2
namespace L2
open PySem PySem.Spec PyProof.Rows
def ixN (n : Nat) (i : Int) : Option Nat := if 0 ≤ i then (if i < n then some i.toNat else none) else if -(n : Int) ≤ i then some (i + n).toNat else none
def atI {α : Type} (xs : List α) (i : Int) : Option α := (ixN xs.length i).bind fun j => xs[j]?
theorem ixN_seq {n : Nat} {i : Int} {j : Nat} (h : ixN n i = some j) : seqIndex? i n = some j ∧ j < n ∧ -(n : Int) ≤ i ∧ i < n := by
  unfold ixN at h
  by_cases h0 : 0 ≤ i
  · rw [if_pos h0] at h
    by_cases h1 : i < n
    · rw [if_pos h1] at h
      have e : i.toNat = j := Option.some.inj h
      exact ⟨by rw [seqIndex_of h0 h1, e], by omega, by omega, h1⟩
    · rw [if_neg h1] at h; cases h
  · rw [if_neg h0] at h
    by_cases h1 : -(n : Int) ≤ i
    · rw [if_pos h1] at h
      have e : (i + n).toNat = j := Option.some.inj h
      exact ⟨by rw [seqIndex_neg (by omega) h1, e], by omega, h1, by omega⟩
    · rw [if_neg h1] at h; cases h
theorem atI_get {α : Type} {xs : List α} {i : Int} {v : α} (h : atI xs i = some v) : ∃ j, seqIndex? i xs.length = some j ∧ xs[j]? = some v ∧ j < xs.length ∧ -(xs.length : Int) ≤ i ∧ i < xs.length := by
  unfold atI at h
  cases e : ixN xs.length i with
  | none => rw [e] at h; cases h
  | some j =>
    rw [e] at h
    obtain ⟨h1, h2, h3, h4⟩ := ixN_seq e
    exact ⟨j, h1, h, h2, h3, h4⟩
theorem atI_nat {α : Type} {xs : List α} {j : Nat} {v : α} (h : xs[j]? = some v) : atI xs (j : Int) = some v := by
  have hj : j < xs.length := (List.getElem?_eq_some_iff.mp h).1
  have e : ixN xs.length (j : Int) = some j := by
    unfold ixN
    rw [if_pos (by omega), if_pos (by omega)]; simp
  unfold atI; rw [e]; exact h
def PlainIx (b : Expr) : Prop := ∀ o i, subscripted b false o i = operate [o, i] (getItem o i)
def IxR (X : Cx) (r : R2) : Prop :=
  ∀ (value slice : Expr) (pins : List (Addr × Obj)) (s : Shared) (σ : St) (H : Hp) (x y : V) (v u : Value) (Q : VK), Inv X pins σ H s → RelV x v → RelV y u → r x y H Q →
    subscripted slice false v u = operate [v, u] (getItem v u) → wpAny (model X.prog X.w) X.A (subscriptTail value slice v u) (EP X pins σ Q) X.xe s
def MtR (X : Cx) (id : String) (r : V → List V → Hp → VK → Prop) : Prop :=
  ∀ (pins : List (Addr × Obj)) (s : Shared) (σ : St) (H : Hp) (x : V) (xs : List V) (v : Value) (us : List Value) (Q : VK), Inv X pins σ H s → RelV x v → Vals xs us → r x xs H Q →
    wpAny (model X.prog X.w) X.A (call (.builtin id) (v :: us)) (EP X pins σ Q) X.xe s
section
variable {X : Cx} {a b : Expr} {ta tb : TE} {pos : Pos}
theorem pe_ix {r : R2} (hr : IxR X r) (ha : PE X a ta) (hb : PE X b tb) (hs : PlainIx b) : PE X (.Subscript a b pos) (tOp r ta tb) := by
  intro pins s σ H Q I h
  exact Subscript_ (binT ha hb I h fun v u s2 x y H2 I2 rx ry q => hr a b pins s2 σ H2 x y v u Q I2 rx ry q (hs _ _))
def rIxL (K : PySem.W.Frag) : R2 := fun x y H Q => ∃ p xs i v, x = .ref p ∧ y = .int i ∧ SqL K H p xs ∧ atI xs i = some v ∧ Q v H
def rIxT (K : PySem.W.Frag) : R2 := fun x y H Q => ∃ p xs i v, x = .ref p ∧ y = .int i ∧ SqT K H p xs ∧ atI xs i = some v ∧ Q v H
def rIxS : R2 := fun x y H Q => ∃ z i c, x = .str z ∧ y = .int i ∧ z.length ≤ sizeLine ∧ atI z.cps.toList i = some c ∧ Q (.str ⟨#[c]⟩) H
theorem ix_list : IxR X (rIxL X.K) := by
  intro value slice pins s σ H x y v u Q I rx ry h hs
  obtain ⟨p, xs, i, z, rfl, rfl, hq, he, q⟩ := h
  cases rx
  obtain ⟨t, rfl⟩ := ry
  obtain ⟨its, r, pl, hz⟩ := I.list hq
  obtain ⟨j, h1, h2, h3, h4, h5⟩ := atI_get he
  obtain ⟨w, ew, rw'⟩ := r.get h2
  have hl := r.length
  have hn := line63
  have fin : EP X pins σ Q w s := ⟨z, H, I, rw', q⟩
  by_cases h0 : 0 ≤ i
  · have hj : i.toNat = j := by
      rw [seqIndex_of h0 h5] at h1
      exact Option.some.inj h1
    exact item_listR pl.isList h0 (by omega) (by rw [hj]; simpa using ew) fin hs
  · have hj : (i + (its.toArray.size : Int)).toNat = j := by
      rw [seqIndex_neg (by omega) h4] at h1
      rw [List.size_toArray, ← hl]
      exact Option.some.inj h1
    exact subscriptTail_builtinR (x := w) pl.isList.typeIs slot_list_getitem.lookup
      (wpAny_getItem_list_neg (Q := fun r s' => r = w ∧ EP X pins σ Q r s') pl.isList (by omega) (by rw [List.size_toArray] <;> omega) (by omega) (by rw [hj]; simpa using ew) ⟨rfl, fin⟩) hs
theorem ix_tup : IxR X (rIxT X.K) := by
  intro value slice pins s σ H x y v u Q I rx ry h hs
  obtain ⟨p, xs, i, z, rfl, rfl, hq, he, q⟩ := h
  cases rx
  obtain ⟨t, rfl⟩ := ry
  obtain ⟨its, r, pl, hz⟩ := I.tuple hq
  obtain ⟨j, h1, h2, h3, h4, h5⟩ := atI_get he
  obtain ⟨w, ew, rw'⟩ := r.get h2
  have hl := r.length
  have hn := line63
  have fin : EP X pins σ Q w s := ⟨z, H, I, rw', q⟩
  exact subscriptTail_builtinR (x := w) pl.typeIs slot_tuple_getitem.lookup
    (getItem_tuple (j := j) (Q := fun r s' => r = w ∧ EP X pins σ Q r s') pl (by omega) (by omega) (by rw [List.size_toArray, ← hl]; exact h1) (by simpa using ew) ⟨rfl, fin⟩) hs
theorem ix_str : IxR X rIxS := by
  intro value slice pins s σ H x y v u Q I rx ry h hs
  obtain ⟨z, i, c, rfl, rfl, hz, he, q⟩ := h
  obtain ⟨t, rfl⟩ := rx
  obtain ⟨t', rfl⟩ := ry
  obtain ⟨j, h1, h2, h3, h4, h5⟩ := atI_get he
  have hl : z.cps.toList.length = z.length := by simp [Str.length]
  rw [hl] at h1 h4 h5
  have hn := line63
  exact tail_any (typeIs_str s z t) slot_str_getitem.lookup (getItem_str (c := c) (by
    have e1 : decide (i < -(2 ^ 63 : Int)) = false := decide_eq_false (by omega)
    have e2 : decide (i ≥ 2 ^ 63) = false := decide_eq_false (by omega)
    rw [e1, e2, Bool.or_false]) (by rw [h1]; simpa using h2) ⟨.str ⟨#[c]⟩, H, I.tok _, ⟨_, rfl⟩, q⟩) hs
theorem slice_bounds (lo hi : Option Int) (n : Nat) : (sliceBounds lo hi none n).1 = ((HT.sIx n 0 lo : Nat) : Int) ∧ (sliceBounds lo hi none n).2.1 = ((HT.sIx n n hi : Nat) : Int) ∧ (sliceBounds lo hi none n).2.2 = 1 := by
  refine ⟨?_, ?_, rfl⟩
  · cases lo with
    | none => simp [sliceBounds, HT.sIx]
    | some i =>
      simp only [sliceBounds, HT.sIx, Option.getD_none, show (1 : Int) > 0 by decide, if_true]
      by_cases h : i < 0
      · simp only [h, if_true] <;> omega
      · simp only [h, if_false] <;> omega
  · cases hi with
    | none => simp [sliceBounds, HT.sIx]
    | some i =>
      simp only [sliceBounds, HT.sIx, Option.getD_none, show (1 : Int) > 0 by decide, if_true]
      by_cases h : i < 0
      · simp only [h, if_true] <;> omega
      · simp only [h, if_false] <;> omega
theorem slicePick_cut (its : List Value) (lo hi : Option Int) : slicePick its.toArray lo hi none = ((its.drop (HT.sIx its.length 0 lo)).take (HT.sIx its.length its.length hi - HT.sIx its.length 0 lo)).toArray := by
  obtain ⟨h1, h2, h3⟩ := slice_bounds lo hi its.toArray.size
  unfold slicePick
  rw [h1, h2, h3]
  simp only [sliceRange_one, pick_run, List.size_toArray] <;> rfl
def rSlL (K : PySem.W.Frag) : V → Option Int → Option Int → Hp → VK → Prop := fun x lo hi H Q => ∃ a xs, x = .ref a ∧ SqL K H a xs ∧ ∀ p, H p = none → Q (.ref p) (upd H p (.lst (cutV xs lo hi)))
theorem sl_list : SlR X (rSlL X.K) := by
  intro pins s σ H x v vl vu lo hi sl Q I rx hs pl pu h
  obtain ⟨a, xs, rfl, hx, q⟩ := h
  cases rx
  obtain ⟨its, r, ht, hz⟩ := I.list hx
  have hlen := r.length
  refine ⟨"list", _, slot_list_getitem.lookup, ht.isList.typeIs, ?_⟩
  refine wpAny_getItem_list_slice ht.isList hs pl pu .none (by simp) ?_ (by rw [List.size_toArray] <;> omega)
  rw [slicePick_cut, ← hlen]
  refine ⟨.ref s.heap.objs.size, _, I.laid (t' := s.toks) (o := .lst (cutV xs lo hi)) (fun b ob q => Heap.get?_push_of_some _ q) (Nat.le_refl _) ?_, rfl, q _ (I.hok.fresh (Nat.le_refl _))⟩
  exact ⟨Nat.le_trans (cutV_length xs lo hi) hz, _, 0, (r.drop (HT.sIx xs.length 0 lo)).take (HT.sIx xs.length xs.length hi - HT.sIx xs.length 0 lo), Heap.get?_push_size _ rfl⟩
theorem call_tuple_of : CallR X (.type "tuple") (fun xs H Q => ∃ p ys, xs = [.ref p] ∧ ((SqL X.K H p ys ∧ ∀ l, H l = none → Q (.ref l) (upd H l (.tup ys))) ∨ (SqT X.K H p ys ∧ Q (.ref p) H))) := by
  intro pins s σ H xs us Q I r h
  obtain ⟨p, ys, rfl, h⟩ := h
  obtain ⟨u, rfl, rx⟩ := vals1 r
  cases rx
  rcases h with ⟨hq, q⟩ | ⟨hq, q⟩
  · obtain ⟨its, r', pl, hz⟩ := I.list hq
    have hlen := r'.length
    refine call_tuple_list pl.isList (fun h' kp => ?_) (by simp only [List.size_toArray] <;> omega)
    have I1 : Inv X pins σ H { s with heap := h' } := I.kept (t' := s.toks) kp
    have I2 : Inv X pins σ (upd H h'.objs.size (.tup ys)) { s with heap := h'.push { cls := .type "tuple", data := .seq its.toArray } } :=
      I1.laid (t' := s.toks) (fun b o e => Heap.get?_push_of_some _ e) (Nat.le_refl _) (show ObjOk X.prog X.w _ _ _ (.tup ys) from ⟨hz, its, r', IsTup.new _ _⟩)
    exact ⟨.ref h'.objs.size, _, I2, rfl, q _ (I1.hok.fresh (Nat.le_refl _))⟩
  · obtain ⟨its, r', pl, hz⟩ := I.tuple hq
    exact call_tuple_same pl ⟨.ref p, H, I, rfl, q⟩
def tyV (K : PySem.W.Frag) (T : String) (x : V) (H : Hp) : Prop := match x with
  | .str _ => T = "str"
  | .int _ => T = "int"
  | .ref p => (T = "list" ∧ ∃ xs, SqL K H p xs) ∨ (T = "tuple" ∧ ∃ o, K.lookup p = some o ∧ o.cls = .type "tuple" ∧ o.dict = none) ∨
      (T = "dict" ∧ ((∃ kvs, H p = some (.dK kvs)) ∨ ∃ kvs, H p = some (.dT kvs))) ∨ (T = "set" ∧ ∃ S n, H p = some (.set S n))
  | _ => False
theorem tyV_is {pins : List (Addr × Obj)} {σ : St} {H : Hp} {s : Shared} {T : String} {x : V} {v : Value} (I : Inv X pins σ H s) (r : RelV x v) (ty : tyV X.K T x H) :
    s.TypeIs v T ∧ ∀ a, v = .ref a → ∃ ob, s.heap.get? a = some ob ∧ ob.dict = none := by
  cases x with
  | str z =>
    obtain ⟨t, rfl⟩ := r
    cases (show T = "str" from ty)
    exact ⟨typeIs_str s z t, fun _ e => nomatch e⟩
  | int i =>
    obtain ⟨t, rfl⟩ := r
    cases (show T = "int" from ty)
    exact ⟨typeIs_int s i t, fun _ e => nomatch e⟩
  | ref p =>
    cases r
    rcases ty with ⟨rfl, xs, hq⟩ | ⟨rfl, o, hk, hc, hd⟩ | ⟨rfl, hk⟩ | ⟨rfl, S, n, hk⟩
    · obtain ⟨its, _, pl, _⟩ := I.list hq
      refine ⟨pl.isList.typeIs, fun a e => ?_⟩
      cases e
      obtain ⟨o, n, e, c, hd, _⟩ := pl
      exact ⟨o, e, hd⟩
    · refine ⟨⟨o, I.kIn p o hk, hc⟩, fun a e => ?_⟩
      cases e
      exact ⟨o, I.kIn _ o hk, hd⟩
    · have z : ∃ o, s.heap.get? p = some o ∧ o.ExactDict := by
        rcases hk with ⟨kvs, hk⟩ | ⟨kvs, hk⟩
        · obtain ⟨_, _, _, _, o, _, _, e, ex, _⟩ := I.hok p _ hk
          exact ⟨o, e, ex⟩
        · obtain ⟨_, _, _, _, o, _, _, e, ex, _⟩ := I.hok p _ hk
          exact ⟨o, e, ex⟩
      obtain ⟨o, e, ex⟩ := z
      refine ⟨⟨o, e, ex.1⟩, fun a e2 => ?_⟩
      cases e2
      exact ⟨o, e, ex.2.1⟩
    · obtain ⟨o, _, _, _, e, ex, _⟩ := I.hok p _ hk
      refine ⟨⟨o, e, ex.1⟩, fun a e2 => ?_⟩
      cases e2
      exact ⟨o, e, ex.2.1⟩
  | _ => exact False.elim ty
def tBM (K : PySem.W.Frag) (T : String) (r : V → List V → Hp → VK → Prop) (to : TE) (t : TA) : TE := fun σ H Q => to σ H fun x H1 => tyV K T x H1 ∧ t σ H1 fun xs H2 => r x xs H2 Q
variable {o e : Expr} {es : List Expr} {to : TE} {t : TA} {name : Str} {apos cpos : Pos} {T id : String} {r : V → List V → Hp → VK → Prop}
theorem pe_bm (pa : PlainAttrs T) (slot : Slot T name id) (hty : typeOf (.builtin id) = pure (.type "method_descriptor")) (hm : MtR X id r) (ho : PE X o to) (ha : PA X (e :: es) t)
    (hbase : attributeBase o name X.env (eval o X.env) = eval o X.env := by rfl)
    (hfew : ((backTo cpos (starEach (e :: es) X.env)).all (fun x => !x.1) && (backToKw cpos (keywordEach [] X.env)).all (fun x => x.1.isSome)
      && decide ((e :: es).length + ([] : List Keyword).length + (if ([] : List Keyword).isEmpty then 0 else 1) < 30)) = true := by rfl)
    (hline : (apos.endLine == cpos.line) = true := by rfl) (hs : starEach (e :: es) X.env = (false, eval e X.env) :: starEach es X.env := by rfl) (hplain : (backTo cpos (starEach es X.env)).any (·.1) = false := by rfl) :
    PE X (.Call (.Attribute o name apos) (e :: es) [] cpos) (tBM X.K T r to t) := by
  intro pins s σ H Q I h
  refine wpAny_Call_method_late hbase hfew hline rfl (thn (ho pins s σ H _ I h) fun v s1 ⟨x, H1, I1, r1, ty, q1⟩ => ?_)
  obtain ⟨h1, h2⟩ := tyV_is I1 r1 ty
  refine ⟨T, id, pa, slot, hty, h1, h2, ?_⟩
  have hA := ha cpos pins s1 σ H1 _ I1 q1
  rw [hs] at hA ⊢
  refine Calls.callWith_builtin (by show (false || (backTo cpos (starEach es X.env)).any (·.1)) = false; rw [hplain] <;> rfl) (Calls.evalArgs_plain ?_)
  exact thn hA fun us s2 ⟨vs, H2, I2, r2, q2⟩ => hm pins s2 σ H2 x vs v us Q I2 r1 r2 q2
/- xs.append(e), list.index on a module's tuple .. are MtR facts of 06m -/
end
end L2
namespace L2
open PySem PySem.Spec PyProof.Rows
def MtM (X : Cx) (id : String) (r : V → List V → Hp → VK → Prop) : Prop :=
  ∀ (pins : List (Addr × Obj)) (s : Shared) (σ : St) (H : Hp) (x : V) (xs : List V) (v : Value) (us : List Value) (Q : VK), Inv X pins σ H s → RelV x v → Vals xs us → r x xs H Q →
    wpAny (model X.prog X.w) X.A (call (.builtin id) (v :: us)) (EP X pins σ Q) X.xe s
theorem Vals.one : ∀ {x : V} {us : List Value}, Vals [x] us → ∃ u, us = [u] ∧ RelV x u
  | _, _, .cons r .nil => ⟨_, rfl, r⟩
section
variable {X : Cx} {pins : List (Addr × Obj)} {σ : St} {H : Hp} {s : Shared} {l b : Addr} {xs ys zs : List V}
theorem Inv.lset {its its' : List Value} {n : Nat} {f : Array Value → Array Value} {t' : Nat} (I : Inv X pins σ H s) (hH : H l = some (.lst xs))
    (e : s.heap.get? l = some { cls := .type "list", data := .seq its.toArray n }) (hf : f its.toArray = its'.toArray) (hv : Vals ys its') (hz : ys.length ≤ sizeLine) :
    Inv X pins σ (upd H l (.lst ys)) { s with heap := s.heap.update l (Obj.mapSeq f), toks := t' } := by
  have q := PySem.IsL.update e f
  rw [hf] at q
  refine I.write (x := l) (e := l) (by rw [hH]; exact trivial) (.inl rfl) (fun b' u hb hu => (Heap.get?_update_other s.heap (Obj.mapSeq f) (Ne.symm hb)).trans hu) ⟨_, q⟩ ?_
  exact ⟨hz, its', _, hv, q⟩
theorem Inv.lnew {its : List Value} {t' : Nat} (I : Inv X pins σ H s) (hv : Vals ys its) (hz : ys.length ≤ sizeLine) :
    Inv X pins σ (upd H s.heap.objs.size (.lst ys)) { s with heap := s.heap.push { cls := .type "list", data := .seq its.toArray }, toks := t' } :=
  I.laid (fun _ _ q => Heap.get?_push_of_some _ q) (Nat.le_refl _) ⟨hz, its, 0, hv, Heap.get?_push_size _ rfl⟩
theorem Inv.fresh (I : Inv X pins σ H s) : H s.heap.objs.size = none := I.hok.fresh (Nat.le_refl _)
theorem Inv.lstM (I : Inv X pins σ H s) (hH : H l = some (.lst xs)) : xs.length ≤ sizeLine ∧ ∃ (its : List Value) (n : Nat), Vals xs its ∧ xs.length = its.length ∧ s.heap.get? l = some { cls := .type "list", data := .seq its.toArray n } := by
  obtain ⟨z, its, n, r, e⟩ := I.hok l _ hH
  exact ⟨z, its, n, r, r.length, e⟩
theorem notLongL {n : Nat} (h : n ≤ sizeLine) : Builtin.List.listTooLong n = false := by
  unfold Builtin.List.listTooLong
  exact decide_eq_false (by omega)
end
section
variable {X : Cx}
def rAppend : V → List V → Hp → VK → Prop := fun x vs H Q => ∃ l xs y, x = .ref l ∧ vs = [y] ∧ H l = some (.lst xs) ∧ xs.length < sizeLine ∧ Q .non (upd H l (.lst (xs ++ [y])))
theorem mt_append : MtM X "list.append" rAppend := by
  intro pins s σ H x vs v us Q I rx rv h
  obtain ⟨l, xs, y, rfl, rfl, hH, hz, q⟩ := h
  cases rx
  obtain ⟨u, rfl, ru⟩ := rv.one
  obtain ⟨z, its, n, r, hl, e⟩ := I.lstM hH
  refine call_meets F.slot_list_append ⟨_, e, rfl⟩ F.entry_list_append (F.args_list_append_2 _ _) (PySem.list_append l its.toArray n u (by rw [List.size_toArray]; omega)) ⟨e, ?_⟩
  refine ⟨.non, _, I.lset (its' := its ++ [u]) hH e (by simp) (r.append (.cons ru .nil)) ?_, rfl, q⟩
  rw [List.length_append, List.length_singleton]
  omega
def rExtend : V → List V → Hp → VK → Prop := fun x vs H Q => ∃ l b xs zs, x = .ref l ∧ vs = [.ref b] ∧ H l = some (.lst xs) ∧ H b = some (.lst zs) ∧ xs.length + zs.length ≤ sizeLine ∧ Q .non (upd H l (.lst (xs ++ zs)))
theorem mt_extend : MtM X "list.extend" rExtend := by
  intro pins s σ H x vs v us Q I rx rv h
  obtain ⟨l, b, xs, zs, rfl, rfl, hH, hB, hz, q⟩ := h
  cases rx
  obtain ⟨u, rfl, ru⟩ := rv.one
  cases ru
  obtain ⟨z, its, n, r, hl, e⟩ := I.lstM hH
  obtain ⟨z2, its2, n2, r2, hl2, e2⟩ := I.lstM hB
  have hsz : its.toArray.size + its2.toArray.size ≤ sizeLine := by rw [List.size_toArray, List.size_toArray]; omega
  have hlong : ¬ (!its.toArray.isEmpty && Builtin.List.listTooLong (its.toArray.size + its2.toArray.size)) = true := by
    rw [notLongL hsz, Bool.and_false]
    exact Bool.false_ne_true
  refine call_meets F.slot_list_extend ⟨_, e, rfl⟩ F.entry_list_extend (F.args_list_extend_2 _ _)
    (AutoSeq1.list_extend_list_list_0 l its.toArray n b its2.toArray n2 hlong (by rw [List.size_toArray]; omega) (by omega)) ⟨e, e2, ?_⟩
  refine ⟨.non, _, I.lset (its' := its ++ its2) hH e (by simp) (r.append r2) ?_, rfl, q⟩
  rw [List.length_append]
  omega
def rCat : R2 := fun x y H Q => ∃ l b xs zs, x = .ref l ∧ y = .ref b ∧ H l = some (.lst xs) ∧ H b = some (.lst zs) ∧ xs.length + zs.length ≤ sizeLine ∧ ∀ p, H p = none → Q (.ref p) (upd H p (.lst (xs ++ zs)))
theorem op_cat : OpR X (binaryOp .Add) rCat := by
  intro pins s σ H x y v u Q I rx ry h
  obtain ⟨l, b, xs, zs, rfl, rfl, hH, hB, hz, q⟩ := h
  cases rx
  cases ry
  obtain ⟨z, its, n, r, hl, e⟩ := I.lstM hH
  obtain ⟨z2, its2, n2, r2, hl2, e2⟩ := I.lstM hB
  refine PySem.P.add_list e e2 ?_ (by rw [List.size_toArray, List.size_toArray]; omega)
  have ea : its.toArray ++ its2.toArray = (its ++ its2).toArray := by simp
  rw [ea]
  exact ⟨.ref _, _, I.lnew (t' := s.toks) (r.append r2) (by rw [List.length_append]; omega), rfl, q _ I.fresh⟩
end
section
variable {prog : Program} {w : World} {A : Around} {E : Value → Shared → Prop} {s : Shared}
end
section
variable {X : Cx}
end
end L2
namespace L2
open PySem PySem.Spec PyProof.Rows
section
variable {κ : Type} [DecidableEq κ]
def valV (kvs : List (κ × V)) (k : κ) : Option V := (kvs.find? fun kv => decide (kv.1 = k)).map (·.2)
def putK (kvs : List (κ × V)) (k : κ) (v : V) : List (κ × V) :=
  if (kvs.any fun kv => decide (kv.1 = k)) = true then kvs.map (fun kv => if kv.1 = k then (kv.1, v) else kv) else kvs ++ [(k, v)]
theorem valV_pos {p : κ × V} {r : List (κ × V)} {k : κ} (e : p.1 = k) : valV (p :: r) k = some p.2 := by simp [valV, List.find?_cons, e]
theorem valV_neg {p : κ × V} {r : List (κ × V)} {k : κ} (e : ¬ p.1 = k) : valV (p :: r) k = valV r k := by simp [valV, List.find?_cons, e]
theorem valV_any (k : κ) : ∀ kvs : List (κ × V), (kvs.any fun kv => decide (kv.1 = k)) = (valV kvs k).isSome
  | [] => rfl
  | p :: r => by
    rw [List.any_cons]
    by_cases e : p.1 = k
    · simp only [valV_pos e, decide_eq_true e, Bool.true_or, Option.isSome_some]
    · rw [valV_neg e, decide_eq_false e, Bool.false_or]; exact valV_any k r
theorem valV_map (k j : κ) (y : V) : ∀ kvs : List (κ × V), valV (kvs.map fun kv => if kv.1 = k then (kv.1, y) else kv) j = (valV kvs j).map fun x => if j = k then y else x
  | [] => rfl
  | p :: r => by
    have ih := valV_map k j y r
    rw [List.map_cons]
    by_cases h : p.1 = k
    · rw [if_pos h]
      by_cases e : p.1 = j
      · rw [valV_pos (p := (p.1, y)) e, valV_pos e, Option.map_some, if_pos (e.symm.trans h)]
      · rw [valV_neg (p := (p.1, y)) e, valV_neg e, ih]
    · rw [if_neg h]
      by_cases e : p.1 = j
      · rw [valV_pos (p := p) e, valV_pos e, Option.map_some, if_neg (fun z => h (e.trans z))]
      · rw [valV_neg (p := p) e, valV_neg e, ih]
theorem valV_snoc (k j : κ) (y : V) : ∀ kvs : List (κ × V), valV kvs k = none → valV (kvs ++ [(k, y)]) j = if j = k then some y else valV kvs j
  | [], _ => by
    by_cases e : k = j
    · rw [if_pos e.symm]; exact valV_pos (p := (k, y)) e
    · rw [if_neg (fun z => e z.symm)]; exact valV_neg (p := (k, y)) e
  | p :: r, hn => by
    rw [List.cons_append]
    have hk : ¬ p.1 = k := fun z => by rw [valV_pos z] at hn; cases hn
    rw [valV_neg hk] at hn
    have ih := valV_snoc k j y r hn
    by_cases e : p.1 = j
    · rw [valV_pos e, valV_pos e, if_neg (fun z => hk (e.trans z))]
    · rw [valV_neg e, valV_neg e, ih]
theorem valV_put (kvs : List (κ × V)) (k j : κ) (y : V) : valV (putK kvs k y) j = if j = k then some y else valV kvs j := by
  unfold putK
  by_cases a : (kvs.any fun kv => decide (kv.1 = k)) = true
  · rw [if_pos a, valV_map]
    rw [valV_any] at a
    by_cases e : j = k
    · obtain ⟨x, hx⟩ := Option.isSome_iff_exists.mp a
      rw [if_pos e, e, hx, Option.map_some, if_pos rfl]
    · rw [if_neg e]
      cases valV kvs j with
      | none => rfl
      | some x => rw [Option.map_some, if_neg e]
  · rw [if_neg a]
    refine valV_snoc k j y kvs ?_
    rw [valV_any] at a
    cases q : valV kvs k with
    | none => rfl
    | some x => rw [q] at a; exact (a rfl).elim
theorem length_putK (kvs : List (κ × V)) (k : κ) (v : V) : (putK kvs k v).length ≤ kvs.length + 1 := by
  unfold putK
  split
  · rw [List.length_map]; omega
  · rw [List.length_append, List.length_cons, List.length_nil]; omega
theorem putK_new {kvs : List (κ × V)} {k : κ} (v : V) (h : valV kvs k = none) : putK kvs k v = kvs ++ [(k, v)] := by
  unfold putK
  rw [valV_any, h]
  exact if_neg (by decide)
theorem RelO.isSome_eq {o : Option V} {u : Option Value} (r : RelO o u) : o.isSome = u.isSome := by
  cases o with
  | none => cases u with
    | none => rfl
    | some _ => exact (show False from r).elim
  | some _ => cases u with
    | none => exact (show False from r).elim
    | some _ => rfl
theorem RelO.getD {o : Option V} {u : Option Value} {d : V} {d' : Value} (r : RelO o u) (rd : RelV d d') : RelV (o.getD d) (u.getD d') := by
  cases o with
  | none => cases u with
    | none => exact rd
    | some _ => exact (show False from r).elim
  | some _ => cases u with
    | none => exact (show False from r).elim
    | some _ => exact r
theorem KV.val {kvs : List (κ × V)} {vs : List (κ × Value)} (r : KV kvs vs) (k : κ) : RelO (valV kvs k) (valueAt vs k) := by
  unfold KV at r
  induction r with
  | nil => exact True.intro
  | @cons p q ps qs h t ih =>
    obtain ⟨h1, h2⟩ := h
    by_cases e : p.1 = k
    · have e' : q.1 = k := h1.symm.trans e
      have b : valueAt (q :: qs) k = some q.2 := by simp [valueAt, List.find?_cons, e']
      rw [valV_pos e, b]; exact h2
    · have e' : ¬ q.1 = k := fun z => e (h1.trans z)
      have b : valueAt (q :: qs) k = valueAt qs k := by simp [valueAt, List.find?_cons, e']
      rw [valV_neg e, b]; exact ih
theorem KV.any {kvs : List (κ × V)} {vs : List (κ × Value)} (r : KV kvs vs) (k : κ) : (kvs.any fun kv => decide (kv.1 = k)) = vs.any fun kv => decide (kv.1 = k) := by
  unfold KV at r
  induction r with
  | nil => rfl
  | cons h t ih => rw [List.any_cons, List.any_cons, ih, h.1]
theorem KV.repl {kvs : List (κ × V)} {vs : List (κ × Value)} (r : KV kvs vs) (k : κ) {y : V} {u : Value} (ry : RelV y u) :
    KV (kvs.map fun kv => if kv.1 = k then (kv.1, y) else kv) (vs.map fun kv => if kv.1 = k then (kv.1, u) else kv) := by
  unfold KV at r ⊢
  induction r with
  | nil => exact .nil
  | @cons p q ps qs h t ih =>
    rw [List.map_cons, List.map_cons]
    refine .cons ?_ ih
    obtain ⟨h1, h2⟩ := h
    by_cases e : p.1 = k
    · rw [if_pos e, if_pos (h1.symm.trans e)]; exact ⟨h1, ry⟩
    · rw [if_neg e, if_neg (fun z => e (h1.trans z))]; exact ⟨h1, h2⟩
theorem KV.put {kvs : List (κ × V)} {vs : List (κ × Value)} (r : KV kvs vs) (k : κ) {y : V} {u : Value} (ry : RelV y u) : KV (putK kvs k y) (stored vs k u) := by
  unfold putK stored
  rw [r.any k]
  by_cases e : (vs.any fun kv => decide (kv.1 = k)) = true
  · rw [if_pos e, if_pos e]; exact r.repl k ry
  · rw [if_neg e, if_neg e]; exact Paired.snoc r ⟨rfl, ry⟩
theorem KV.length {kvs : List (κ × V)} {vs : List (κ × Value)} (r : KV kvs vs) : kvs.length = vs.length := Paired.length r
end
theorem kV_is {P : Program} {w : World} {k : Key} {u : Value} (r : RelV (kV k) u) : (mixKind P w).is k u = true := by
  cases k with
  | inl i => obtain ⟨t, e⟩ := (show ∃ t, u = Value.int i t from r); subst e; exact mixKind_int P w i t
  | inr x => obtain ⟨t, e⟩ := (show ∃ t, u = Value.str x t from r); subst e; exact mixKind_str P w x t
theorem items_are {P : Program} {w : World} : ∀ {ks : List Key} {us : List Value}, Vals (ks.map kV) us → ItemsAre (mixKind P w) ks us
  | [], _, r => by rw [List.map_nil] at r; cases r; exact .nil
  | k :: ks, _, r => by
    rw [List.map_cons] at r
    cases r with
    | cons h t => exact .cons (kV_is h) (items_are t)
abbrev KT (H : Hp) : List (List Key × V) → List (List Key × Addr × Value) → Prop := Paired fun p q => p.1 = q.1 ∧ H q.2.1 = some (.tup (p.1.map kV)) ∧ RelV p.2 q.2.2
theorem KT.val {H : Hp} {kvs : List (List Key × V)} {xs : List (List Key × Addr × Value)} (r : KT H kvs xs) (k : List Key) : RelO (valV kvs k) ((atKey xs k).map (·.2)) := by
  induction r with
  | nil => exact True.intro
  | @cons p q ps qs h t ih =>
    obtain ⟨h1, _, h2⟩ := h
    by_cases e : p.1 = k
    · have e' : q.1 = k := h1.symm.trans e
      have b : atKey (q :: qs) k = some q.2 := by simp [atKey, List.find?_cons, e']
      rw [valV_pos e, b]; exact h2
    · have e' : ¬ q.1 = k := fun z => e (h1.trans z)
      have b : atKey (q :: qs) k = atKey qs k := by simp [atKey, List.find?_cons, e']
      rw [valV_neg e, b]; exact ih
theorem KT.repl {H : Hp} {kvs : List (List Key × V)} {xs : List (List Key × Addr × Value)} (r : KT H kvs xs) (k : List Key) {y : V} {u : Value} (ry : RelV y u) :
    KT H (kvs.map fun kv => if kv.1 = k then (kv.1, y) else kv) (xs.map (putAt k u)) := by
  induction r with
  | nil => exact .nil
  | @cons p q ps qs h t ih =>
    rw [List.map_cons, List.map_cons]
    refine .cons ?_ ih
    obtain ⟨h1, h2, h3⟩ := h
    unfold putAt
    by_cases e : p.1 = k
    · rw [if_pos e, if_pos (h1.symm.trans e)]; exact ⟨h1, h2, ry⟩
    · rw [if_neg e, if_neg (fun z => e (h1.trans z))]; exact ⟨h1, h2, h3⟩
theorem KT.put {H : Hp} {kvs : List (List Key × V)} {xs : List (List Key × Addr × Value)} (r : KT H kvs xs) (k : List Key) {b : Addr} {y : V} {u : Value} (hb : H b = some (.tup (k.map kV))) (ry : RelV y u) :
    KT H (putK kvs k y) (storedH xs k b u) := by
  have e : (kvs.any fun kv => decide (kv.1 = k)) = (atKey xs k).isSome := by
    rw [valV_any, (r.val k).isSome_eq, Option.isSome_map]
  unfold putK storedH
  rw [e]
  by_cases q : (atKey xs k).isSome = true
  · rw [if_pos q, if_pos q]; exact r.repl k ry
  · rw [if_neg q, if_neg q]; exact Paired.snoc r ⟨rfl, hb, ry⟩
theorem KT.keeps {H H' : Hp} {kvs : List (List Key × V)} {xs : List (List Key × Addr × Value)} (r : KT H kvs xs) (ht : ∀ b ys, H b = some (.tup ys) → H' b = some (.tup ys)) : KT H' kvs xs :=
  Paired.mapP r fun _ _ z => ⟨z.1, ht _ _ z.2.1, z.2.2⟩
section
variable {P : Program} {w : World} {H : Hp} {h : Heap} {a : Addr}
theorem rd_of {u : HO} (ok : HOk P w H h) (e : Rd H a u) : ObjOk P w H h a u := e.ok ok
theorem dk_rd {kvs : List (Key × V)} (ok : HOk P w H h) (e : Rd H a (.dK kvs)) : kvs.length ≤ sizeLine ∧ (a == sysModules) = false ∧ ∃ vs, KV kvs vs ∧ h.DictOf (mixKind P w) a vs :=
  show ObjOk P w H h a (.dK kvs) from rd_of ok e
theorem dk_of {kvs : List (Key × V)} (ok : HOk P w H h) (e : H a = some (.dK kvs)) : kvs.length ≤ sizeLine ∧ (a == sysModules) = false ∧ ∃ vs, KV kvs vs ∧ h.DictOf (mixKind P w) a vs := dk_rd ok (.inl e)
theorem key_of {ks : List Key} (ok : HOk P w H h) (e : H a = some (.tup (ks.map kV))) : (tupleKind (mixKind P w)).is h ks a := by
  obtain ⟨_, its, r, o, h1, h2, n, h3⟩ := (show ObjOk P w H h a (.tup (ks.map kV)) from ok a _ e)
  exact ⟨o, its.toArray, n, h1, h2, h3, by simpa using items_are r⟩
theorem dt_rd {kvs : List (List Key × V)} (ok : HOk P w H h) (e : Rd H a (.dT kvs)) : kvs.length ≤ sizeLine ∧ (a == sysModules) = false ∧
    ∃ xs, KT H kvs xs ∧ h.DictOfH (tupleKind (mixKind P w)) a xs := by
  obtain ⟨z, y, xs, r, o, es, ep, h1, h2, h3, h4, h5⟩ := (show ObjOk P w H h a (.dT kvs) from rd_of ok e)
  refine ⟨z, y, xs, r, o, es, ep, h1, h2, h3, h4, fun x hx => ?_, h5⟩
  have all : ∀ {l : List (List Key × V)} {m : List (List Key × Addr × Value)}, KT H l m → ∀ x ∈ m, (tupleKind (mixKind P w)).is h x.1 x.2.1 := by
    intro l m q
    induction q with
    | nil => intro x hx; exact nomatch hx
    | @cons p q ps qs hq t ih =>
      intro x hx
      rcases List.mem_cons.mp hx with e | hx
      · subst e
        exact key_of ok (by rw [← hq.1]; exact hq.2.1)
      · exact ih x hx
  exact all r x hx
theorem dt_of {kvs : List (List Key × V)} (ok : HOk P w H h) (e : H a = some (.dT kvs)) : kvs.length ≤ sizeLine ∧ (a == sysModules) = false ∧
    ∃ xs, KT H kvs xs ∧ h.DictOfH (tupleKind (mixKind P w)) a xs := dt_rd ok (.inl e)
end
def DGet (H : Hp) (a : Addr) (y : V) (r : Option V) : Prop :=
  (∃ kvs k, Rd H a (.dK kvs) ∧ y = kV k ∧ r = valV kvs k) ∨ ∃ kvs k b, Rd H a (.dT kvs) ∧ y = .ref b ∧ H b = some (.tup (k.map kV)) ∧ r = valV kvs k
def DPut (H : Hp) (a : Addr) (y v : V) (H' : Hp) : Prop :=
  (∃ kvs k, H a = some (.dK kvs) ∧ y = kV k ∧ kvs.length < sizeLine ∧ H' = upd H a (.dK (putK kvs k v))) ∨
  ∃ kvs k b, H a = some (.dT kvs) ∧ y = .ref b ∧ H b = some (.tup (k.map kV)) ∧ kvs.length < sizeLine ∧ H' = upd H a (.dT (putK kvs k v))
theorem DGet.k {H : Hp} {a : Addr} {kvs : List (Key × V)} {k : Key} (e : H a = some (.dK kvs)) : DGet H a (kV k) (valV kvs k) := .inl ⟨kvs, k, .inl e, rfl, rfl⟩
theorem DGet.t {H : Hp} {a b : Addr} {kvs : List (List Key × V)} {k : List Key} (e : H a = some (.dT kvs)) (eb : H b = some (.tup (k.map kV))) : DGet H a (.ref b) (valV kvs k) := .inr ⟨kvs, k, b, .inl e, rfl, eb, rfl⟩
theorem DPut.k {H : Hp} {a : Addr} {kvs : List (Key × V)} {k : Key} {v : V} (e : H a = some (.dK kvs)) (hl : kvs.length < sizeLine) : DPut H a (kV k) v (upd H a (.dK (putK kvs k v))) := .inl ⟨kvs, k, e, rfl, hl, rfl⟩
section
variable {X : Cx} {pins : List (Addr × Obj)} {σ : St} {H : Hp} {s : Shared} {a : Addr} {y v : V} {u r : Value} {o : Option V} {A : Around} {E : Value → Shared → Prop}
theorem Inv.big (I : Inv X pins σ H s) : sysModules < s.heap.objs.size := by
  have h : mainGlobals < s.heap.objs.size := (I.mod.glob.keeps I.bk).lt
  exact Nat.lt_trans (by decide) h
theorem d_write {h' : Heap} {t' : Nat} {ob : HO} (I : Inv X pins σ H s) (mu : Mut (H a)) (hs : Heap.SameBut a s.heap h') (he : ∃ q, h'.get? a = some q) (new : ObjOk X.prog X.w (upd H a ob) h' a ob) :
    Inv X pins σ (upd H a ob) { s with heap := h', toks := t' } :=
  I.write (x := a) (e := a) mu (.inl rfl) (fun b q hb z => (hs.2 b hb).trans z) he new
theorem dk_new {P : Program} {w : World} {H' : Hp} {h' : Heap} {kvs : List (Key × V)} {vs : List (Key × Value)} (z : kvs.length ≤ sizeLine) (hd : (a == sysModules) = false) (rel : KV kvs vs) (dd : h'.DictOf (mixKind P w) a vs) :
    ObjOk P w H' h' a (.dK kvs) := ⟨z, hd, vs, rel, dd⟩
theorem d_setItem {H' : Hp} {Q : Unit → Shared → Prop} (hu : A.units + 1 < cLine) (I : Inv X pins σ H s) (g : DPut H a y v H') (ry : RelV y u) (rv : RelV v r) (h : ∀ s', Inv X pins σ H' s' → Q () s') :
    wpAny (model X.prog X.w) A (setItem (.ref a) u r) Q E s := by
  rcases g with ⟨kvs, k, e, ey, l, eH⟩ | ⟨kvs, k, b, e, ey, eb, l, eH⟩
  · subst ey eH
    obtain ⟨z, hd, vs, rel, dd⟩ := dk_of I.hok e
    have hz : vs.length ≤ sizeLine := by rw [← rel.length]; exact z
    have hl : (putK kvs k v).length ≤ sizeLine := by have := length_putK kvs k v; omega
    refine wpAny_setItem_pairs (hsz := hz) (kV_is ry) dd fun h' dd' hs => h _ ?_
    have he : ∃ q, h'.get? a = some q := let ⟨q, _, _, hq, _⟩ := dd'; ⟨q, hq⟩
    exact d_write I (by rw [e]; exact True.intro) hs he (dk_new hl hd (rel.put k rv) dd')
  · subst ey eH
    cases (show u = Value.ref b from ry)
    obtain ⟨z, hd, xs, rel, dd⟩ := dt_of I.hok e
    have hz : xs.length ≤ sizeLine := by rw [← Paired.length rel]; exact z
    have hl : (putK kvs k v).length ≤ sizeLine := by have := length_putK kvs k v; omega
    refine wpAny_setItem_heap (hsz := hz) (tupleKind_room_in1 hu) (key_of I.hok eb) dd fun h' dd' hs => h _ ?_
    obtain ⟨q, es, ep, hq, h2, h3, h4, _, h5⟩ := dd'
    refine d_write I (by rw [e]; exact True.intro) hs ⟨q, hq⟩ ⟨hl, hd, _, (rel.put k eb rv).keeps fun c ys ec => ?_, q, es, ep, hq, h2, h3, h4, h5⟩
    rw [upd_ne (ne_of ec e (fun z => nomatch z))]
    exact ec
end
section
variable {X : Cx} {pins : List (Addr × Obj)} {σ : St} {H : Hp} {s : Shared} {a : Addr} {kvs : List (Key × V)} {k : Key} {u : Value} {A : Around} {E : Value → Shared → Prop}
end
def sDPut (td ty tv : TE) : TS := fun D σ H => tv σ H fun v H1 => td σ H1 fun x H2 => ty σ H2 fun y H3 => ∃ a H4, x = .ref a ∧ DPut H3 a y v H4 ∧ D.nx σ H4
section
variable {X : Cx} {o i e value : Expr} {pos pos' tpos : Pos} {td ty tv : TE}
theorem ps_dput (hu : X.A.units + 1 < cLine) (ho : PE X o td) (hi : PE X i ty) (hv : PE X value tv) (hs : swapsWith value (some (.Subscript o i pos')) pos.line X.env = pure false) :
    PS X (.Assign [.Subscript o i pos'] value pos) (sDPut td ty tv) := by
  intro pins s σ H D I h
  refine wpAny_Assign_Subscript (thn (hv pins s σ H _ I h) fun r s1 ⟨v, H1, I1, rv, q1⟩ => thn (ho pins s1 σ H1 _ I1 q1) fun u s2 ⟨x, H2, I2, rx, q2⟩ => thn (hi pins s2 σ H2 _ I2 q2) fun iv s3 ⟨y, H3, I3, ry, a, H4, ex, g, q3⟩ => ?_) hs
  subst ex
  obtain rfl : u = Value.ref a := rx
  exact d_setItem hu I3 g ry rv fun s4 I4 => ⟨σ, H4, I4, q3⟩
end
theorem dk_empty {P : Program} {w : World} {H : Hp} (h : Heap) (hb : sysModules < h.objs.size) : ObjOk P w H (h.push { cls := .type "dict", data := .dict #[] }) h.objs.size (.dK []) :=
  ⟨Nat.zero_le _, beq_eq_false_iff_ne.mpr (Ne.symm (Nat.ne_of_lt hb)), [], .nil, Heap.DictOf.new h⟩
theorem dt_empty {P : Program} {w : World} {H : Hp} (h : Heap) (hb : sysModules < h.objs.size) : ObjOk P w H (h.push { cls := .type "dict", data := .dict #[] }) h.objs.size (.dT []) :=
  ⟨Nat.zero_le _, beq_eq_false_iff_ne.mpr (Ne.symm (Nat.ne_of_lt hb)), [], .nil, _, #[], 0, Heap.get?_push_size _ rfl, ⟨rfl, rfl, rfl⟩, rfl, rfl, List.nodup_nil⟩
def tDNewK : TE := fun _ H Q => ∀ p, H p = none → Q (.ref p) (upd H p (.dK []))
def tDNewT : TE := fun _ H Q => ∀ p, H p = none → Q (.ref p) (upd H p (.dT []))
section
variable {X : Cx} {pos : Pos}
theorem pe_dnewK : PE X (.Dict [] [] pos) tDNewK := fun pins s σ H Q I h =>
  wpAny_Dict_empty ⟨.ref s.heap.objs.size, _, I.laid (a := s.heap.objs.size) (o := .dK []) (t' := s.toks) (fun _ _ q => Heap.get?_push_of_some _ q) (Nat.le_refl _) (dk_empty s.heap I.big), rfl, h _ (I.hok.fresh (Nat.le_refl _))⟩
theorem pe_dnewT : PE X (.Dict [] [] pos) tDNewT := fun pins s σ H Q I h =>
  wpAny_Dict_empty ⟨.ref s.heap.objs.size, _, I.laid (a := s.heap.objs.size) (o := .dT []) (t' := s.toks) (fun _ _ q => Heap.get?_push_of_some _ q) (Nat.le_refl _) (dt_empty s.heap I.big), rfl, h _ (I.hok.fresh (Nat.le_refl _))⟩
end
def mergeK (kvs more : List (Key × V)) : List (Key × V) := more.foldl (fun acc kv => putK acc kv.1 kv.2) kvs
theorem KV.merge : ∀ {more : List (Key × V)} {rs : List (Key × Value)} {kvs : List (Key × V)} {vs : List (Key × Value)}, KV more rs → KV kvs vs → KV (mergeK kvs more) (merged vs rs) := by
  intro more rs kvs vs r
  unfold KV at r
  induction r generalizing kvs vs with
  | nil => intro q; exact q
  | @cons p q ps qs h t ih =>
    intro r0
    have e : KV (putK kvs p.1 p.2) (stored vs q.1 q.2) := by
      have := r0.put p.1 h.2
      rw [← h.1]; exact this
    exact ih e
theorem length_mergeK : ∀ (more kvs : List (Key × V)), (mergeK kvs more).length ≤ kvs.length + more.length
  | [], kvs => by show kvs.length ≤ kvs.length + 0; omega
  | p :: r, kvs => by
    have h1 := length_mergeK r (putK kvs p.1 p.2)
    have h2 := length_putK kvs p.1 p.2
    show (mergeK (putK kvs p.1 p.2) r).length ≤ _
    rw [List.length_cons]; omega
structure M1 (X : Cx) (o : Expr) (m : Str) (apos : Pos) (e : Expr) (cpos : Pos) : Prop where
  base : attributeBase o m X.env (eval o X.env) = eval o X.env
  few : ((backTo cpos (starEach [e] X.env)).all (fun x => !x.1) && (backToKw cpos (keywordEach [] X.env)).all (fun x => x.1.isSome)
    && decide (([e] : List Expr).length + ([] : List Keyword).length + (if ([] : List Keyword).isEmpty then 0 else 1) < 30)) = true
  line : (apos.endLine == cpos.line) = true
  trees : backTo cpos (starEach [e] X.env) = [(false, eval e X.env)]
structure M2 (X : Cx) (o : Expr) (m : Str) (apos : Pos) (e f : Expr) (cpos : Pos) : Prop where
  base : attributeBase o m X.env (eval o X.env) = eval o X.env
  few : ((backTo cpos (starEach [e, f] X.env)).all (fun x => !x.1) && (backToKw cpos (keywordEach [] X.env)).all (fun x => x.1.isSome)
    && decide (([e, f] : List Expr).length + ([] : List Keyword).length + (if ([] : List Keyword).isEmpty then 0 else 1) < 30)) = true
  line : (apos.endLine == cpos.line) = true
  trees : backTo cpos (starEach [e, f] X.env) = [(false, eval e X.env), (false, eval f X.env)]
def IsD (H : Hp) (a : Addr) : Prop := (∃ kvs, Rd H a (.dK kvs)) ∨ ∃ kvs, Rd H a (.dT kvs)
theorem isD_at {X : Cx} {pins : List (Addr × Obj)} {σ : St} {H : Hp} {s : Shared} {a : Addr} (I : Inv X pins σ H s) (d : IsD H a) :
    s.TypeIs (.ref a) "dict" ∧ (∀ b, Value.ref a = .ref b → ∃ ob, s.heap.get? b = some ob ∧ ob.dict = none) ∧ (a == sysModules) = false := by
  rcases d with ⟨kvs, e⟩ | ⟨kvs, e⟩
  · obtain ⟨_, hd, vs, _, dd⟩ := dk_rd I.hok e
    refine ⟨dd.typeIs, fun b q => ?_, hd⟩
    cases q
    obtain ⟨ob, _, _, h1, h2, _⟩ := dd
    exact ⟨ob, h1, h2.2.1⟩
  · obtain ⟨_, hd, xs, _, dd⟩ := dt_rd I.hok e
    refine ⟨dd.typeIs, fun b q => ?_, hd⟩
    cases q
    obtain ⟨ob, _, _, h1, h2, _⟩ := dd
    exact ⟨ob, h1, h2.2.1⟩
section
variable {X : Cx} {pins : List (Addr × Obj)} {σ : St} {H : Hp} {s : Shared} {a : Addr} {y d : V} {u r : Value} {o : Option V} {A : Around} {E : Value → Shared → Prop}
theorem d_get2 {Q : Value → Shared → Prop} (hu : A.units + 1 < cLine) (I : Inv X pins σ H s) (g : DGet H a y o) (ry : RelV y u) (rd : RelV d r) (h : ∀ w' s', Inv X pins σ H s' → RelV (o.getD d) w' → Q w' s') :
    wpAny (model X.prog X.w) A (call (.builtin "dict.get") [.ref a, u, r]) Q E s := by
  rcases g with ⟨kvs, k, e, ey, l⟩ | ⟨kvs, k, b, e, ey, eb, l⟩
  · subst ey
    obtain ⟨z, hd, vs, rel, dd⟩ := dk_rd I.hok e
    refine call_meetsIn PySem.F.slot_dict_get dd.typeIs PySem.F.entry_dict_get (PySem.F.args_dict_get_3 _ _ _) (meets_dict_get_default (mixKind X.prog X.w) a (kV_is ry) hd r) ⟨_, dd.mapOf, h _ _ (I.tok _) ?_⟩
    rw [l]
    exact (rel.val k).getD rd
  · subst ey
    cases (show u = Value.ref b from ry)
    obtain ⟨z, hd, xs, rel, dd⟩ := dt_rd I.hok e
    refine call_meetsIn PySem.F.slot_dict_get dd.typeIs PySem.F.entry_dict_get (PySem.F.args_dict_get_3 _ _ _) (meetsH_dict_get_default (tupleKind (mixKind X.prog X.w)) a b hd r) ⟨tupleKind_room_in1 hu, k, xs, key_of I.hok eb, dd, h _ _ (I.tok _) ?_⟩
    rw [l]
    exact (rel.val k).getD rd
end
def tDGet2 (td ty tx : TE) : TE := fun σ H Q => td σ H fun x H1 => ∃ a, x = .ref a ∧ IsD H1 a ∧ ty σ H1 fun y H2 => tx σ H2 fun z H3 => ∃ o, DGet H3 a y o ∧ Q (o.getD z) H3
section
variable {X : Cx} {o e f : Expr} {apos cpos : Pos} {td ty tx : TE}
theorem pe_dget2 (hu : X.A.units + 1 < cLine) (ho : PE X o td) (he : PE X e ty) (hf : PE X f tx) (m : M2 X o "get" apos e f cpos) : PE X (.Call (.Attribute o "get" apos) [e, f] [] cpos) (tDGet2 td ty tx) := by
  intro pins s σ H Q I h
  refine wpAny_Call_method m.base m.few m.line PySem.F.plainAttrs_dict PySem.F.slot_dict_get PySem.F.type_dict_get (thn (ho pins s σ H _ I h) fun u s1 ⟨x, H1, I1, rx, a, ex, d, q1⟩ => ?_)
  subst ex
  obtain rfl : u = Value.ref a := rx
  obtain ⟨t1, t2, _⟩ := isD_at I1 d
  refine ⟨t1, t2, ?_⟩
  rw [m.trees]
  refine Calls.callWith_builtin rfl (Calls.evalArgs_plain (Calls.spliced_cons (thn (he pins s1 σ H1 _ I1 q1) fun iv s2 ⟨y, H2, I2, ry, q2⟩ =>
    Calls.spliced_cons (thn (hf pins s2 σ H2 _ I2 q2) fun fv s3 ⟨z, H3, I3, rz, ov, g, q3⟩ => Calls.spliced_nil ?_))))
  exact d_get2 hu I3 g ry rz fun w' s4 I4 rw' => ⟨_, H3, I4, rw', q3⟩
end
section
variable {X : Cx} {pins : List (Addr × Obj)} {σ : St} {H : Hp} {s : Shared} {a : Addr} {kvs : List (Key × V)} {A : Around} {E : Value → Shared → Prop}
end
section
variable {X : Cx} {pins : List (Addr × Obj)} {σ : St} {H : Hp} {s : Shared} {a : Addr} {y : V} {u : Value} {A : Around} {E : Value → Shared → Prop}
end
end L2
namespace Att
open PySem PySem.W PySem.Calls PyProof.Rows
theorem ints_of_wellAll {P : Params} {h : Heap} : ∀ (ns : List Int) (vs : List Value), WellAll P h vs (ns.map WData.int) → IntsAre vs ns := by
  intro ns
  induction ns with
  | nil =>
    intro vs w
    rw [List.map_nil] at w
    cases w
    exact .nil
  | cons n ns ih =>
    intro vs w
    rw [List.map_cons] at w
    cases w with
    | cons a b =>
      cases a
      exact .cons _ _ (ih _ b)
theorem script_of {l : OpenLaw} {n : Nat} (hn : l.most = some n) {P : Params} {h : Heap} {args : List WData} {vals : List Value}
    (hpre : l.row.toRowW.claim.pre args = true) (hwl : WellAll P h vals args) :
    ∃ a vs ns, vals = [Value.ref a] ∧ args = [WData.list (ns.map WData.int)] ∧ h.get? a = some { cls := .type "list", data := .seq vs.toArray } ∧ IntsAre vs ns ∧ ns.length ≤ n := by
  have hsh : WShape.hasAll [] args [.list .int] = true := (pre_splitW hpre).1
  have hc : l.pre.holds [] { args := args } = true := (pre_splitW hpre).2
  obtain ⟨d, r, rfl, h1, h2⟩ := hasAllW_cons hsh
  obtain rfl := hasAllW_nil h2
  obtain ⟨xs, rfl, h3⟩ := hasW_list h1
  obtain ⟨ns, rfl⟩ := items_int h3
  have hlen : ns.length ≤ n := by
    unfold OpenLaw.pre at hc
    have h4 : (WTm.not (.lt (.lit (.int (n : Int))) (.len (.arg 0)))).holds [] { args := [.list (ns.map .int)] } = true := by
      have h4 := (holds_andW hc).1
      rw [hn] at h4
      exact h4
    have h5 := condW_of h4 (w_not (w_lt w_lit (w_len_list (w_arg rfl))))
    rw [List.length_map] at h5
    refine Nat.le_of_not_lt fun q => ?_
    have q' : (n : Int) < ((ns.length : Nat) : Int) := by omega
    first
      | (rw [decide_eq_true q'] at h5; exact absurd h5 (by decide))
      | (simp at h5; omega)
  cases hwl with
  | cons w1 w2 =>
    cases w2
    cases w1 with
    | list ho hall => exact ⟨_, _, ns, rfl, rfl, ho, ints_of_wellAll ns _ hall, hlen⟩
theorem post_true (l : OpenLaw) (args : List WData) : l.row.toRowW.claim.post args (.bool true) args = true :=
  postW_of (r := l.row.toRowW) (X := (true == true))
    (show WShape.has [] (.bool true) .bool = true by first | rfl | decide | simp [WShape.has, WShape.arms, WShape.armsAll])
    (show (WTm.eq .res (.lit (.bool true))).value [] { args := args, res := some (.bool true), after := args } = some (.bool (true == true)) from w_eq_bool (w_res rfl) w_lit) rfl
theorem attach_call {l : OpenLaw} {n : Nat} {q : Program} {loose : List Str} {XP : (Str → Option Value) → Heap → Prop} {YP : World → Heap → Prop} {d : DefRec}
    (hn : l.most = some n) (hdf : d.params.defaults = [])
    (call : ∀ (w : World) (s₀ s₁ : Shared) (mg mb : Str → Option Value) (fa : Addr) (o : Obj) (pm cd doc : Value) (a : Addr) (vs : List Value) (ns : List Int),
      Ground q loose [] XP w s₀ mg mb s₁.heap → YP w s₁.heap →
      s₁.heap.get? fa = some o → o.data = .func (docDef d.name d.params d.body d.scope pm cd doc) → s₁.heap.CodeRec cd d.name → mg d.name = some (.ref fa) →
      s₁.heap.get? a = some { cls := .type "list", data := .seq vs.toArray } → IntsAre vs ns → ns.length ≤ n → s₁.gens = #[] →
      codeAny (model l.prog w) callerA (.call (.ref fa) ⟨[.ref a], []⟩) (fun r s' => r = .ok (.ret (.bool true)) ∧ OldK s₁.heap s'.heap ∧ s'.os = s₁.os ∧ AllBare s'.gens) s₁) :
    WalkO q loose XP YP l.row.toRowW d [] (fun f vs => PySem.call f vs) := by
  intro w s₀ s₁ mg mb G Y fa o pm cd doc dV kV ho hd hcd hD hmg hg args vals as hpre hlay hrd hwl hlo
  obtain rfl : dV = .none := Dflts.none hD hdf
  obtain rfl : kV = .none := Dflts.noKw hD
  obtain ⟨a, vs, ns, rfl, rfl, hobj, hints, hlen⟩ := script_of hn hpre hwl
  refine enter_call (codeAny_mono (call w s₀ s₁ mg mb fa o pm cd doc a vs ns G Y ho (fd_plain hd) hcd hmg hobj hints hlen hg) fun r s' hq => ?_)
  obtain ⟨rfl, h2, h3, h4⟩ := hq
  exact ⟨.inl ⟨.bool true, .bool true, [], rfl, fun _ => rfl, .bool true, post_true l _, fun _ => ⟨List.Pairwise.nil, fun _ hm => (nomatch hm)⟩⟩, h2, h3, h4⟩
section
variable {prog : Program} {w : World} {A : Around} {E : Value → Shared → Prop} {s : Shared} {K : Frag}
end
end Att
namespace L2
open PySem PySem.Spec PyProof.Rows
theorem vals_ints : ∀ {vs : List Value} {ns : List Int}, IntsAre vs ns → Vals (ns.map V.int) vs
  | _, _, .nil => .nil
  | _, _, .cons n t h => .cons ⟨t, rfl⟩ (vals_ints h)
def Only (H : Hp) : Prop := ∀ b, H b = none ∨ ∃ o xs, H b = some (.frz o (.lst xs))
theorem law_call {P : Program} {w : World} {K : PySem.W.Frag} {mg mb : Str → Option Value} {CX : CXT} {k : Nat} {fa a : Addr} {fd : FuncData} {x : Str} {sp : Sp} {s₁ : Shared} {vs : List Value} {ns : List Int}
    (KX : K.In s₁.heap) (hns : s₁.heap.Ns mainGlobals mg) (hb : s₁.heap.Ns builtinsNs mb) (hbb : ∀ x : Str, x ≠ "__name__" → mb x = bootBuiltins x) (hlim : s₁.heap.NoLimit) (hg : s₁.gens = #[])
    (ha : s₁.heap.get? a = some { cls := .type "list", data := .seq vs.toArray }) (hi : IntsAre vs ns) (hl : ns.length ≤ sizeLine) (hr : Room k callerA)
    (F : ∀ base : Heap, K.In base → base.Ns mainGlobals mg → FnOk P w K mg base CX k fa fd [x] sp) (hbind : ∀ (s : Shared) (u : Value), BindsTo s fd ⟨[u], []⟩ [(x, u)])
    (hsp : ∀ H : Hp, Only H → SqL K H a (ns.map V.int) → sp [.ref a] H (fun v _ => v = .bl true) fun _ _ _ => False)
    (hCX : ∀ H e s', CX [] H s₁ (fun _ _ _ => False) e s' → False) :
    codeAny (model P w) callerA (.call (.ref fa) ⟨[.ref a], []⟩) (fun r s' => r = .ok (.ret (.bool true)) ∧ OldK s₁.heap s'.heap ∧ s'.os = s₁.os ∧ AllBare s'.gens) s₁ := by
  have rv := vals_ints hi
  have lenV := hi.length
  have core : ∀ H : Hp, Only H → SqL K H a (ns.map V.int) → HOk P w H s₁.heap → (∀ b, H b ≠ none → b = a) → (H a ≠ none → K.lookup a = none) →
      codeAny (model P w) callerA (.call (.ref fa) ⟨[.ref a], []⟩) (fun r s' => r = .ok (.ret (.bool true)) ∧ OldK s₁.heap s'.heap ∧ s'.os = s₁.os ∧ AllBare s'.gens) s₁ := by
    intro H hO hS hok hA hK
    have base_of : ∀ {b : Addr} {o : Obj}, s₁.heap.get? b = some o → H b = none → (hidT s₁.heap H).get? b = some o := fun e n => hidT_get e n
    have noA : ∀ {b : Addr} {o : Obj} {es : Array DictEntry} {ep : Nat}, s₁.heap.get? b = some o → o.data = .dict es ep → H b = none := fun {b o es ep} e d => by
      cases q : H b with
      | none => rfl
      | some u =>
        have e' : b = a := hA b (by rw [q]; simp)
        subst e'
        rw [ha] at e; cases e
        have d' : Data.seq vs.toArray _ = Data.dict es ep := d
        cases d'
    have nsK : ∀ {b : Addr} {m : Str → Option Value}, s₁.heap.Ns b m → (hidT s₁.heap H).Ns b m := fun {b m} ⟨o, es, ep, e, d, r⟩ => ⟨o, es, ep, base_of e (noA e d), d, r⟩
    have hKb : K.In (hidT s₁.heap H) := fun b o e => base_of (KX b o e) (by
      cases q : H b with
      | none => rfl
      | some u =>
        have e' : b = a := hA b (by rw [q]; simp)
        subst e'
        rw [hK (by rw [q]; simp)] at e; cases e)
    have hM : Mod K mg (hidT s₁.heap H) := ⟨hKb, nsK hns, ⟨mb, nsK hb, hbb⟩, let ⟨mc, h1, h2⟩ := hlim; ⟨mc, nsK h1, h2⟩⟩
    have e0 : Env0 P w K mg (hidT s₁.heap H) callerA [] s₁ H := ⟨rfl, hM, fun b o e => of_hidT e, Nat.le_of_eq (hidT_size _ _), trivial, fun b hb => absurd (show b ∈ ([] : List Addr) from hb) (by simp), hok, .of_eq hg⟩
    refine codeAny_mono ((F _ hKb (nsK hns)).run callerA [] s₁ H ⟨[.ref a], []⟩ [.ref a] [.ref a] _ _ hr e0 (hbind s₁ (.ref a)) (.cons rfl .nil) (hsp H hO hS)) fun r s' h => ?_
    cases r with
    | error e => exact (hCX H e s' h).elim
    | ok fl =>
      cases fl with
      | next => exact False.elim h
      | brk => exact False.elim h
      | cont => exact False.elim h
      | ret u =>
        obtain ⟨v, H', os, bare, un, hok', r', q⟩ := h
        have q' : v = .bl true := q
        subst q'
        obtain rfl : u = Value.bool true := r'
        refine ⟨rfl, OldK.of_keep fun b o e => ?_, os, bare⟩
        cases q : H b with
        | none => exact un.keep b o e q (by intro z; exact absurd (show b ∈ ([] : List Addr) from z) (by simp)) (by simp)
        | some u =>
          rcases hO b with z | ⟨ob, xs, z⟩
          · rw [q] at z; cases z
          · have z2 := un.frzs b ob _ z
            obtain ⟨e1, _⟩ := hok b _ z
            obtain ⟨e2, _⟩ := hok' b _ z2
            rw [e] at e1; cases e1
            exact e2
  cases hk : K.lookup a with
  | some o =>
    have e := KX a o hk
    rw [ha] at e
    cases e
    refine core (fun _ => none) (fun _ => .inl rfl) (.inr ⟨_, vs.toArray, _, hk, rfl, rfl, rfl, by rw [List.size_toArray, lenV]; exact hl, by simpa using rv⟩) (fun b u z => by have z' : (none : Option HO) = some u := z; cases z') (fun b z => absurd rfl z) fun z => absurd rfl z
  | none =>
    refine core (fun b => if b = a then some (.frz { cls := .type "list", data := .seq vs.toArray } (.lst (ns.map V.int))) else none) (fun b => ?_) (.inl (.inr ⟨{ cls := .type "list", data := .seq vs.toArray }, if_pos rfl⟩)) (fun b u z => ?_) (fun b z => ?_) fun _ => hk
    · by_cases hb : b = a
      · exact .inr ⟨_, _, if_pos hb⟩
      · exact .inl (if_neg hb)
    · by_cases hb : b = a
      · have z' := (if_pos hb).symm.trans z
        cases z'
        subst hb
        exact ⟨ha, by rw [List.length_map]; exact hl, vs, _, rv, ha⟩
      · have z' := (if_neg hb).symm.trans z
        cases z'
    · by_cases hb : b = a
      · exact hb
      · exact absurd (if_neg hb) z
end L2
namespace L2
open PySem PySem.Spec PyProof.Rows
abbrev KOf {K : PySem.W.Frag} {h : Heap} (_ : K.In h) : PySem.W.Frag := K
theorem walk_of {l : PySem.W.OpenLaw} {n k : Nat} {q : Program} {loose : List Str} {XP : (Str → Option Value) → Heap → Prop} {YP : World → Heap → Prop} {d : DefRec} {K : Params → PySem.W.Frag} {CX : World → CXT} {sp : World → Sp} {x : Str}
    (hn : l.most = some n) (hn2 : n ≤ sizeLine) (hdf : d.params.defaults = []) (hr : Room k callerA)
    (hY : ∀ (w : World) (h : Heap), YP w h → (K w.params).In h)
    (F : ∀ (w : World) (mg : Str → Option Value) (fa : Addr) (h : Heap), (K w.params).In h → h.Ns mainGlobals mg → mg d.name = some (.ref fa) →
      ∃ fd : FuncData, (∀ (s : Shared) (u : Value), BindsTo s fd ⟨[u], []⟩ [(x, u)]) ∧
        ∀ base : Heap, (K w.params).In base → base.Ns mainGlobals mg → FnOk l.prog w (K w.params) mg base (CX w) k fa fd [x] (sp w))
    (hsp : ∀ (w : World) (H : Hp) (a : Addr) (ns : List Int), ns.length ≤ n → Only H → SqL (K w.params) H a (ns.map V.int) → sp w [.ref a] H (fun v _ => v = .bl true) fun _ _ _ => False)
    (hCX : ∀ (w : World) (H : Hp) (s : Shared) (e : Value) (s' : Shared), CX w [] H s (fun _ _ _ => False) e s' → False) :
    PySem.W.WalkO q loose XP YP l.row.toRowW d [] (fun f vs => PySem.call f vs) := by
  refine Att.attach_call hn hdf fun w s₀ s₁ mg mb fa o pm cd doc a vs ns G Y ho hd hcd hmg hobj hints hlen hg => ?_
  have KX := hY w _ Y
  obtain ⟨fd, hb, hF⟩ := F w mg fa _ KX G.T.g hmg
  exact law_call KX G.T.g G.T.b G.T.builtins G.T.nolimit hg hobj hints (Nat.le_trans hlen hn2) hr hF hb (fun H hO hS => hsp w H a ns hlen hO hS) fun H e s' => hCX w H s₁ e s'
theorem walk_ofK {l : PySem.W.OpenLaw} {n k : Nat} {q : Program} {loose : List Str} {XP : (Str → Option Value) → Heap → Prop} {YP : World → Heap → Prop} {d : DefRec} {K : Params → PySem.W.Frag} {CX : CXT} {sp : PySem.W.Frag → Sp} {x : Str}
    (hn : l.most = some n) (hn2 : n ≤ sizeLine) (hdf : d.params.defaults = []) (hr : Room k callerA)
    (hY : ∀ (w : World) (h : Heap), YP w h → (K w.params).In h)
    (F : ∀ (w : World) (mg : Str → Option Value) (fa : Addr) (h : Heap), (K w.params).In h → h.Ns mainGlobals mg → mg d.name = some (.ref fa) →
      ∃ fd : FuncData, (∀ (s : Shared) (u : Value), BindsTo s fd ⟨[u], []⟩ [(x, u)]) ∧
        ∀ base : Heap, (K w.params).In base → base.Ns mainGlobals mg → FnOk l.prog w (K w.params) mg base CX k fa fd [x] (sp (K w.params)))
    (hsp : ∀ (K : PySem.W.Frag) (H : Hp) (a : Addr) (ns : List Int), ns.length ≤ n → Only H → SqL K H a (ns.map V.int) → sp K [.ref a] H (fun v _ => v = .bl true) fun _ _ _ => False)
    (hCX : ∀ (H : Hp) (s : Shared) (e : Value) (s' : Shared), CX [] H s (fun _ _ _ => False) e s' → False) :
    PySem.W.WalkO q loose XP YP l.row.toRowW d [] (fun f vs => PySem.call f vs) :=
  walk_of (K := K) (CX := fun _ => CX) (sp := fun w => sp (K w.params)) hn hn2 hdf hr hY F (fun w H a ns h1 h2 h3 => hsp (K w.params) H a ns h1 h2 h3) fun _ H s e s' => hCX H s e s'
end L2
/- THE LAST THEOREM (shape; LID, My.* are yours):
   My.Adr: a structure of the addresses that your layer names (classes, functions); My.Txt K t: a structure (Prop) of the equations over K;
   My.txt_mk : {K} {implicit addresses ..} (e1 : nsIn K mainGlobals "law" = some (some (.ref f))) (e2 : K.lookup f = some ⟨oc, od, .func (fnOf "law" "law" params body scope dV kV doc pm an cdv ct), sl⟩) (e3 : codeIn K cdv "law" = true) .. : ∃ t, My.Txt K t
set_option maxRecDepth 100000 in
set_option maxHeartbeats 0 in
theorem PySem.Challenge.cw_LID_holds : PySem.Challenge.rw_LID.Holds := by
  w_on; o_law; k_head; (case hw => w_witness2)
  k_fill
  refine L2.walk_of (l := PySem.Challenge.rw_LID) (n := 63) (k := 40) (x := "script") (CX := fun w => ..) (sp := fun _ => My.sp_law) rfl (by decide) rfl ⟨rfl, by decide, by decide⟩ (fun w h Y => PySem.W.kIn_of Y) ?F ?S ?C
  case F =>
    intro w mg fa h KX G hmg
    have T : ∃ t, My.Txt (L2.KOf KX) t := by
      dsimp only [L2.KOf]                          -- K must stand as «<heap const> w.params» for k_is
      refine' My.txt_mk ?e1 ?e2 ?e3 ..
      (case e1 => PySem.W.k_is)                    -- in the order: a name -> its address -> its object -> its parts
      (case e2 => PySem.W.k_is)
      ..
    obtain ⟨t, T⟩ := T
    have e0 := hmg.symm.trans (PySem.W.mg_of KX G T.law)
    cases e0                                       -- fa is the law's own address
    exact ⟨_, fun s u => .of_eq rfl, fun base kb nb => My.law_fn T kb nb⟩     -- if «.of_eq rfl» comes too early: refine' ⟨_, ?b, fun base kb nb => My.law_fn T kb nb⟩; exact fun s u => .of_eq rfl
  case S => exact fun w H a ns hl hO hS => ..
  case C => exact ..
(the tactic k_is has no namespace: write k_is) -/
namespace L2
open PySem PySem.Spec PyProof.Rows
def inClass (s : Stmt) (j : Nat) : Stmt := match s with
  | .ClassDef _ _ _ body _ _ _ _ _ _ _ => body.getD j (.Pass ⟨0, 0, 0, 0⟩)
  | _ => .Pass ⟨0, 0, 0, 0⟩
def defArgs (s : Stmt) : Arguments := match s with
  | .FunctionDef _ a _ _ _ _ _ _ _ _ => a
  | _ => { posonlyargs := [], args := [], vararg := none, kwonlyargs := [], kw_defaults := [], kwarg := none, defaults := [] }
def defBody (s : Stmt) : List Stmt := match s with
  | .FunctionDef _ _ b _ _ _ _ _ _ _ => b
  | _ => []
def defScope (s : Stmt) : Scope := match s with
  | .FunctionDef _ _ _ _ _ _ sc _ _ _ => sc
  | _ => { kind := .function, names := [], isGenerator := false, isCoroutine := false }
abbrev CX0 : CXT := fun _ _ _ _ _ _ => False
abbrev E0 : XK := fun _ _ _ => False
theorem pass0 {X : Cx} : Passes CX0 X E0 := fun _ _ _ _ _ _ _ h => h.elim
structure Fun (K : PySem.W.Frag) (x qual : Str) (st : Stmt) (f : Addr) (fd : FuncData) : Prop where
  ex : ∃ (oc : Value) (od : Option Addr) (kV doc pm : Value) (an : Option Addr) (cdv ct : Value) (osl : Array (Option Value)),
    fd = PySem.W.fnOf x qual (defArgs st) (defBody st) (defScope st) .none kV doc pm an cdv ct ∧ K.lookup f = some ⟨oc, od, .func fd, osl⟩ ∧ PySem.W.codeIn K cdv qual = true
  kp : PySem.W.keepIn K (.ref f) = true
section
variable {P : Program} {w : World} {K : PySem.W.Frag} {mg : Str → Option Value} {base : Heap}
theorem Fun.ok {x qual : Str} {st : Stmt} {f : Addr} {fd : FuncData} {N ps : List Str} {k : Nat} {sp : Sp} (F : Fun K x qual st f fd) (S : FnScope N ps (defScope st)) (len : ∀ vs H Q E, sp vs H Q E → vs.length = ps.length)
    (hbody : ∀ (cdv : Value) (A : Around) (outer : List Env) (s : Shared) (H : Hp) (vs : List V) (Q : VK) (E : XK), Room k (A.deeper (envOfC qual (defScope st) s.heap.objs.size f cdv)) → sp vs H Q E →
      ∃ t, PSs (cxOf CX0 P w K mg base N qual (defScope st) f cdv A outer s H E).nox (defBody st) t ∧ t { nx := fun _ H' => Q .non H', rt := Q } (start N vs) H) : FnOk P w K mg base CX0 (k + 1) f fd ps sp := by
  obtain ⟨oc, od, kV, doc, pm, an, cdv, ct, osl, rfl, lk, hcd⟩ := F.ex
  refine fn_of lk hcd S len fun A outer s H vs Q E hr hsp => ?_
  obtain ⟨t, h, q⟩ := hbody cdv A outer s H vs Q E hr hsp
  exact ⟨t, h.nox, q⟩
theorem fun_mk {x qual : Str} {st : Stmt} {f : Addr} {oc : Value} {od an : Option Addr} {osl : Array (Option Value)} {kV doc pm cdv ct : Value} (l : K.lookup f = some ⟨oc, od, .func (PySem.W.fnOf x qual (defArgs st) (defBody st) (defScope st) .none kV doc pm an cdv ct), osl⟩)
    (c : PySem.W.codeIn K cdv qual = true) (k : PySem.W.keepIn K (.ref f) = true) : Fun K x qual st f (PySem.W.fnOf x qual (defArgs st) (defBody st) (defScope st) .none kV doc pm an cdv ct) := ⟨⟨oc, od, kV, doc, pm, an, cdv, ct, osl, rfl, l, c⟩, k⟩
end
theorem hu_of {A : Around} {k : Nat} (hr : Room k A) : A.units + 1 < cLine := Nat.lt_of_le_of_lt (Nat.add_le_add_left (by decide : 1 ≤ 64) _) hr.units
theorem small1000 {n : Nat} (h : n ≤ 1000) : n < sizeLine := Nat.lt_of_le_of_lt h (by decide)
section
variable {X : Cx}
theorem pv (i : Nat) {x : Str} {pos : Pos} (hN : X.N[i]? = some x := by rfl) (hv : Vis X.env.scope x := by first | exact Or.inl rfl | exact Or.inr (Or.inl rfl) | exact Or.inr (Or.inr rfl)) (hd : (x == ("__debug__" : Str)) = false := by decide)
    (hcd : (x == ("__classdict__" : Str)) = false := by decide) : PE X (.Name x pos) (tVar i) := pe_var hN hv hd hcd
end
theorem iteF {A B : Prop} (h : B) : if false = true then A else B := by
  rw [if_neg Bool.false_ne_true]
  exact h
theorem iteT {A B : Prop} (h : A) : if true = true then A else B := by
  rw [if_pos rfl]
  exact h
theorem ite2 {c A B : Prop} [Decidable c] (h1 : c → A) (h2 : ¬ c → B) : if c then A else B := by
  by_cases h : c
  · rw [if_pos h]
    exact h1 h
  · rw [if_neg h]
    exact h2 h
def Same (H H' : Hp) : Prop := ∀ b o, H b = some o → H' b = some o
theorem Same.refl (H : Hp) : Same H H := fun _ _ h => h
theorem Same.trans {H H1 H2 : Hp} (a : Same H H1) (b : Same H1 H2) : Same H H2 := fun c o h => b c o (a c o h)
theorem Same.free {H H' : Hp} (e : Same H H') {l : Addr} (h : H' l = Option.none) : H l = Option.none := by
  cases q : H l with
  | none => rfl
  | some o =>
    rw [e l o q] at h
    cases h
theorem Same.seq {K : PySem.W.Frag} {H H' : Hp} {a : Addr} {xs : List V} (e : Same H H') (h : SqL K H a xs) : SqL K H' a xs := by
  rcases h with (h | ⟨o, h⟩) | h
  · exact .inl (.inl (e _ _ h))
  · exact .inl (.inr ⟨o, e _ _ h⟩)
  · exact .inr h
section
variable {X : Cx}
end
section
variable {κ : Type} [DecidableEq κ]
theorem valV_not {kvs : List (κ × V)} {k : κ} (h : valV kvs k = none) : ¬ k ∈ kvs.map (·.1) := by
  intro m
  obtain ⟨p, hp, e⟩ := List.mem_map.mp m
  have q : (kvs.any fun kv => decide (kv.1 = k)) = true := List.any_eq_true.mpr ⟨p, hp, decide_eq_true e⟩
  rw [valV_any, h] at q
  exact absurd q (by simp)
theorem nd_snoc : ∀ {l : List κ} {k : κ}, l.Nodup → ¬ k ∈ l → (l ++ [k]).Nodup
  | [], k, _, _ => by simp
  | a :: r, k, h, hk => by
    obtain ⟨h1, h2⟩ := List.nodup_cons.mp h
    show (a :: (r ++ [k])).Nodup
    refine List.nodup_cons.mpr ⟨fun m => ?_, nd_snoc h2 fun m => hk (List.mem_cons.mpr (Or.inr m))⟩
    rcases List.mem_append.mp m with q | q
    · exact h1 q
    · exact hk (List.mem_cons.mpr (Or.inl (List.mem_singleton.mp q).symm))
theorem nd_putK {kvs : List (κ × V)} {k : κ} (v : V) (hn : (kvs.map (·.1)).Nodup) (h : valV kvs k = none) : ((putK kvs k v).map (·.1)).Nodup := by
  rw [putK_new v h, List.map_append]
  exact nd_snoc hn (valV_not h)
end
end L2
namespace L2
open PySem PySem.Spec PyProof.Rows
theorem lookup_cons_or {β : Type} {x n : Str} {b c : β} {l : List (Str × β)} (h : ((n, b) :: l).lookup x = some c) : (x = n ∧ b = c) ∨ l.lookup x = some c := by
  rw [List.lookup_cons] at h
  cases e : x == n with
  | true =>
    rw [e] at h
    exact .inl ⟨eq_of_beq e, Option.some.inj h⟩
  | false =>
    rw [e] at h
    exact .inr h
theorem lookup_cons_some {β : Type} {x n : Str} {b : β} {l : List (Str × β)} (h : x = n ∨ ∃ c, l.lookup x = some c) : ∃ c, ((n, b) :: l).lookup x = some c := by
  rw [List.lookup_cons]
  cases e : x == n with
  | true => exact ⟨b, rfl⟩
  | false =>
    rcases h with h | h
    · subst h
      simp at e
    · exact h
theorem closFor_go {env : Env} : ∀ (names : List (Str × NameKind)) (acc : List (Str × Addr)), (∀ y ∈ names, y.2 = .free → ∃ c, env.cells.lookup y.1 = some c) →
    (∀ x c, acc.lookup x = some c → env.cells.lookup x = some c) →
    ∃ cl, (forIn names acc (fun x r => if (x.2 == NameKind.free) = true then (cellOf env x.1 >>= fun c => pure (ForInStep.yield ((x.1, c) :: r))) else pure (ForInStep.yield r)) : Sem (List (Str × Addr))) = pure cl ∧
      (∀ x c, cl.lookup x = some c → env.cells.lookup x = some c) ∧ (∀ y ∈ names, y.2 = .free → ∃ c, cl.lookup y.1 = some c) ∧ (∀ x c, acc.lookup x = some c → ∃ c', cl.lookup x = some c')
  | [], acc, _, h => ⟨acc, rfl, h, (fun _ z => nomatch z), fun x c e => ⟨c, e⟩⟩
  | (n, k) :: r, acc, hn, h => by
    rw [List.forIn_cons]
    by_cases hk : k = .free
    · subst hk
      obtain ⟨c, hc⟩ := hn (n, .free) List.mem_cons_self rfl
      have e1 : (cellOf env n : Sem Addr) = pure c := by
        have hc' : env.cells.lookup n = some c := hc
        unfold cellOf
        rw [hc']
      obtain ⟨cl, e, h1, h2, h3⟩ := closFor_go r ((n, c) :: acc) (fun y hy => hn y (List.mem_cons_of_mem _ hy)) (fun x c' e => by
        rcases lookup_cons_or e with ⟨e1, e2⟩ | e
        · subst e1; subst e2; exact hc
        · exact h x c' e)
      refine ⟨cl, ?_, h1, ?_, fun x c' e => ?_⟩
      · show ((if ((n, NameKind.free).2 == NameKind.free) = true then (cellOf env n >>= fun c => pure (ForInStep.yield ((n, c) :: acc))) else pure (ForInStep.yield acc)) >>= _) = _
        rw [if_pos (show ((n, NameKind.free).2 == NameKind.free) = true from rfl), e1]
        exact e
      · intro y hy hf
        rcases List.mem_cons.mp hy with rfl | hy
        · exact h3 n c (by simp)
        · exact h2 y hy hf
      · obtain ⟨c2, e2⟩ := lookup_cons_some (n := n) (b := c) (.inr ⟨c', e⟩)
        exact h3 x c2 e2
    · obtain ⟨cl, e, h1, h2, h3⟩ := closFor_go r acc (fun y hy => hn y (List.mem_cons_of_mem _ hy)) h
      refine ⟨cl, ?_, h1, ?_, h3⟩
      · show ((if ((n, k).2 == NameKind.free) = true then (cellOf env n >>= fun c => pure (ForInStep.yield ((n, c) :: acc))) else pure (ForInStep.yield acc)) >>= _) = _
        rw [if_neg (by simpa using hk)]
        exact e
      · intro y hy hf
        rcases List.mem_cons.mp hy with rfl | hy
        · exact absurd hf hk
        · exact h2 y hy hf
theorem closFor {scope : Scope} {env : Env} (h : ∀ y ∈ scope.names, y.2 = .free → ∃ c, env.cells.lookup y.1 = some c) :
    ∃ cl, closureFor scope env = pure cl ∧ (∀ x c, cl.lookup x = some c → env.cells.lookup x = some c) ∧ (∀ y ∈ scope.names, y.2 = .free → ∃ c, cl.lookup y.1 = some c) := by
  obtain ⟨cl, e, h1, h2, _⟩ := closFor_go scope.names [] h (fun x c e => by simp at e)
  refine ⟨cl, ?_, h1, h2⟩
  unfold closureFor
  show ((forIn scope.names [] (fun x r => if (x.2 == NameKind.free) = true then (cellOf env x.1 >>= fun c => pure (ForInStep.yield ((x.1, c) :: r))) else pure (ForInStep.yield r)) : Sem (List (Str × Addr))) >>= fun r => pure r) = _
  rw [e]
  rfl
def relK (env : Env) (x : Str) (k : NameKind) : NameKind := if (k == .free && env.scope.kind == .function && env.kindOf x == some .cell) = true then .cell else k
theorem lookup_relabel {env : Env} {x : Str} : ∀ (names : List (Str × NameKind)),
    (names.map fun (n, k) => if (k == NameKind.free && env.scope.kind == .function && env.kindOf n == some .cell) = true then (n, NameKind.cell) else (n, k)).lookup x = (names.lookup x).map (relK env x)
  | [] => rfl
  | (n, k) :: r => by
    have ih := lookup_relabel (env := env) (x := x) r
    have e : (if (k == NameKind.free && env.scope.kind == .function && env.kindOf n == some .cell) = true then (n, NameKind.cell) else (n, k)) = (n, relK env n k) := by
      unfold relK
      split <;> rfl
    show List.lookup x ((if (k == NameKind.free && env.scope.kind == .function && env.kindOf n == some .cell) = true then (n, NameKind.cell) else (n, k)) :: _) = _
    rw [e, List.lookup_cons, List.lookup_cons]
    cases hx : x == n with
    | true =>
      have := eq_of_beq hx
      subst this
      rfl
    | false => exact ih
theorem kindOf_comp {scope : Scope} {cl : List (Str × Addr)} {C : Addr} {env : Env} {x : Str} : (compEnvC scope cl C env).kindOf x = (scope.names.lookup x).map (relK env x) := lookup_relabel (env := env) (x := x) scope.names
theorem relK_free {env : Env} {x : Str} : relK env x .free = .cell ∨ relK env x .free = .free := by
  unfold relK
  split
  · exact .inl rfl
  · exact .inr rfl
theorem relK_of {env : Env} {x : Str} {k : NameKind} (h : relK env x k = .cell ∨ relK env x k = .free) : k = .cell ∨ k = .free := by
  unfold relK at h
  split at h
  · rename_i z
    simp only [Bool.and_eq_true, beq_iff_eq] at z
    exact .inr z.1.1
  · exact h
def capt (caps : List (Option Nat)) (σ : St) : St := caps.map fun o => match o with
  | none => none
  | some j => (σ[j]?).join
def compOk (oN : List Str) (osc : Scope) (N : List Str) (caps : List (Option Nat)) (sc : Scope) : Bool :=
  (sc.kind == .function) && decide N.Nodup && (N.length == caps.length) && sc.names.all (fun y => !(y.2 == .cell)) &&
  sc.names.all (fun y => !(y.2 == .local) || sc.names.lookup y.1 == some .local) &&
  sc.names.all (fun y => !(y.2 == .free) || (osc.names.lookup y.1 == some .cell || osc.names.lookup y.1 == some .free)) &&
  (N.zip caps).all (fun p => match p.2 with
    | none => true
    | some j => oN[j]? == some p.1 && sc.names.lookup p.1 == some .free)
structure CompOk (oN : List Str) (osc : Scope) (N : List Str) (caps : List (Option Nat)) (sc : Scope) : Prop where
  kind : sc.kind = .function
  nd : N.Nodup
  len : N.length = caps.length
  nocell : ∀ y ∈ sc.names, y.2 ≠ .cell
  loc : ∀ y ∈ sc.names, y.2 = .local → sc.names.lookup y.1 = some .local
  fr : ∀ y ∈ sc.names, y.2 = .free → osc.names.lookup y.1 = some .cell ∨ osc.names.lookup y.1 = some .free
  cap : ∀ (i j : Nat) (x : Str), N[i]? = some x → caps[i]? = some (some j) → oN[j]? = some x ∧ sc.names.lookup x = some .free
theorem compOk_of {oN : List Str} {osc : Scope} {N : List Str} {caps : List (Option Nat)} {sc : Scope} (h : compOk oN osc N caps sc = true) : CompOk oN osc N caps sc := by
  unfold compOk at h
  simp only [Bool.and_eq_true, List.all_eq_true, decide_eq_true_eq, beq_iff_eq, Bool.or_eq_true, Bool.not_eq_true', beq_eq_false_iff_ne, ne_eq] at h
  obtain ⟨⟨⟨⟨⟨⟨h1, h2⟩, h3⟩, h4⟩, h5⟩, h6⟩, h7⟩ := h
  refine ⟨h1, h2, h3, h4, fun y hy e => ?_, fun y hy e => ?_, fun i j x hi hj => ?_⟩
  · rcases h5 y hy with z | z
    · exact absurd e z
    · exact z
  · rcases h6 y hy with z | z
    · exact absurd e z
    · exact z
  · have hm : (x, some j) ∈ N.zip caps := by
      refine List.mem_of_getElem? (i := i) ?_
      rw [List.getElem?_zip_eq_some]
      exact ⟨hi, hj⟩
    have := h7 _ hm
    simpa using this
def cxComp (X : Cx) (N : List Str) (scope : Scope) (cl : List (Str × Addr)) (C : Addr) (fp : List Addr) (s : Shared) (H : Hp) : Cx :=
  { X with N := N, s₀ := s, H₀ := H, env := compEnvC scope cl C X.env, outer := X.stack, ex := fp, fn := fun _ => false, pn := [], xe := fun _ _ => False }
section
variable {X : Cx} {pins : List (Addr × Obj)} {σ : St} {H : Hp} {s : Shared} {N : List Str} {caps : List (Option Nat)} {scope : Scope} {cl : List (Str × Addr)} {fp : List Addr}
theorem inv_comp (I : Inv X pins σ H s) (hf : ∀ b ∈ fp, FpOk X pins H b) (ho : ∀ b ∈ fp, ∃ o, s.heap.get? b = some o) (S : CompOk X.N X.env.scope N caps scope)
    (c1 : ∀ x c, cl.lookup x = some c → X.env.cells.lookup x = some c) (c2 : ∀ y ∈ scope.names, y.2 = .free → ∃ c, cl.lookup y.1 = some c)
    {h' : Heap} {m : Str → Option Value} {tk : Nat} (hn : h'.Ns s.heap.objs.size m) (hk : ∀ b u, s.heap.get? b = some u → h'.get? b = some u) :
    Inv (cxComp X N scope cl s.heap.objs.size fp s H) [] (capt caps σ) H { s with heap := h', toks := tk } := by
  have noS : ∀ b ∈ fp, b ∉ frs X.stack := fun b hb z => by
    obtain ⟨_, f1, f2, _⟩ := hf b hb
    rcases List.mem_cons.mp (I.stkSub b z) with e | e
    · exact f1 e
    · exact f2 e
  have frOf : ∀ x, scope.names.lookup x = some .free → ∃ c, cl.lookup x = some c := fun x e => c2 (x, .free) (PySem.mem_of_lookup e) rfl
  refine ⟨⟨I.ok.mod, S.kind, I.ok.glob, I.ok.blt, Nat.le_refl _, fun x y c e1 e2 => I.ok.inj x y c (c1 x c e1) (c1 y c e2), fun x hx => ?_, fun x c z _ => absurd (show false = true from z) (by decide), I.ok.hd, I.ok.frames, .inl rfl,
    fun b hb => ⟨?_, fun x c e => (hf b hb).2.2.2.2.1 x c (c1 x c e)⟩, I.bs, Nat.le_trans I.ok.bsz I.sz, fun b o e hb => ?_, noS, I.stack, I.stkFree⟩,
    rfl, I.bare, Un.kept hk, ⟨m, hn, fun i x v e1 e2 e3 => ?_⟩, fun x c e => ?_, I.hok.fresh (Nat.le_refl _), fun x c e => I.freeC x c (c1 x c e), fun p hp => absurd (show p ∈ ([] : List (Addr × Obj)) from hp) (by simp), I.hok.kept hk, ?_⟩
  · have hx' : (scope.names.lookup x).map (relK X.env x) = some .cell ∨ (scope.names.lookup x).map (relK X.env x) = some .free := by
      rw [← kindOf_comp (cl := cl) (C := s.heap.objs.size)]
      exact hx
    cases e : scope.names.lookup x with
    | none =>
      rw [e] at hx'
      rcases hx' with z | z <;> cases z
    | some k =>
      rw [e] at hx'
      have z : relK X.env x k = .cell ∨ relK X.env x k = .free := by
        rcases hx' with z | z
        · exact .inl (Option.some.inj z)
        · exact .inr (Option.some.inj z)
      rcases relK_of z with z | z
      · subst z
        exact absurd rfl (S.nocell _ (PySem.mem_of_lookup e))
      · subst z
        exact frOf x e
  · obtain ⟨o, e⟩ := ho b hb
    exact Nat.ne_of_lt (Heap.lt_size e)
  · obtain ⟨_, _, _, f3, _⟩ := hf b hb
    rcases f3 with z | z
    · exact I.ok.noex b o e z
    · exact absurd (Nat.lt_of_lt_of_le (Heap.lt_size e) (Nat.le_trans I.ok.bsz z)) (Nat.lt_irrefl _)
  · have hi : i < caps.length := by
      unfold capt at e2
      obtain ⟨h1, _⟩ := List.getElem?_eq_some_iff.mp e2
      simpa using h1
    have ec : (capt caps σ)[i]? = (caps[i]?).map fun o => match o with
        | none => none
        | some j => (σ[j]?).join := by
      unfold capt
      rw [List.getElem?_map]
    rw [e2] at ec
    cases q : caps[i]? with
    | none =>
      rw [q] at ec
      cases ec
    | some o =>
      rw [q] at ec
      cases o with
      | none =>
        cases (Option.some.inj ec)
      | some j =>
        have ej : σ[j]? = some (some v) := by
          have z : some v = (σ[j]?).join := Option.some.inj ec
          cases q2 : σ[j]? with
          | none => rw [q2] at z; cases z
          | some w => rw [q2] at z; exact congrArg some z.symm
        obtain ⟨n1, n2⟩ := S.cap i j x e1 q
        have vis : X.env.kindOf x = some .cell ∨ X.env.kindOf x = some .free := S.fr (x, .free) (PySem.mem_of_lookup n2) rfl
        obtain ⟨m0, _, hl⟩ := I.loc
        obtain ⟨u, r, l⟩ := hl j x v n1 ej (.inr vis)
        refine ⟨u, r, ?_⟩
        rcases l with ⟨k, _⟩ | ⟨_, c, ec, z⟩
        · rw [k] at vis
          rcases vis with z | z <;> cases z
        · obtain ⟨c', e'⟩ := frOf x n2
          have : c' = c := Option.some.inj ((c1 x c' e').symm.trans ec)
          subst this
          refine .inr ⟨?_, c', e', ?_⟩
          · have kk : (compEnvC scope cl s.heap.objs.size X.env).kindOf x = some (relK X.env x .free) := by rw [kindOf_comp, n2]; rfl
            rcases relK_free (env := X.env) (x := x) with z | z
            · rw [z] at kk; exact .inl kk
            · rw [z] at kk; exact .inr kk
          · obtain ⟨o, ho1, ho2⟩ := z
            exact ⟨o, hk _ _ ho1, ho2⟩
  · obtain ⟨v, o, ho1, ho2⟩ := I.cell x c (c1 x c e)
    exact ⟨v, o, hk _ _ ho1, ho2⟩
  · show (capt caps σ).length = N.length
    unfold capt
    rw [List.length_map]
    exact S.len.symm
end
end L2
namespace L2
open PySem PySem.Spec PyProof.Rows
def PF (X : Cx) (ifs : List Expr) (t : TT) : Prop :=
  ∀ (pins : List (Addr × Obj)) (s : Shared) (σ : St) (H : Hp) (Q : Bool → Hp → Prop), Inv X pins σ H s → t σ H Q →
    wpAny (model X.prog X.w) X.A (forIn ifs true fun c r => if r = true then do let ok ← isTrue c X.env (eval c X.env); pure (ForInStep.yield ok) else pure (ForInStep.yield r)) (TP X pins σ Q) X.xe s
def tYes : TT := fun _ H Q => Q true H
section
variable {X : Cx}
theorem pf_nil : PF X [] tYes := fun _ _ _ H _ I h => wpAny_pure ⟨H, I, h⟩
theorem pf_one {c : Expr} {t : TT} (hc : PT X c t) : PF X [c] t := by
  intro pins s σ H Q I h
  rw [List.forIn_cons]
  refine wpAny_bind ?_
  rw [if_pos rfl]
  refine wpAny_bind (thn (hc pins s σ H Q I h) fun ok s1 q => wpAny_pure ?_)
  exact wpAny_pure q
end
theorem compLoop_any {prog : Program} {w : World} {A : Around} {R : Result → Shared → Prop} {s : Shared} {elt target iter : Expr} {ifs : List Expr} {scope : Scope} {pos : Pos} {it acc : Value} {env : Env} (I : Nat → Shared → Prop)
    (turn : ∀ n s, I n s → wpAny (model prog w) A (pyNext it) (fun r s₁ => match r with
      | none => R (.ok .next) s₁
      | some v => wpAny (model prog w) A (letOwnedTupleGo target it v) (fun _ s₁' => wpAny (model prog w) A (assign target env v) (fun _ s₂ =>
          wpAny (model prog w) A (forIn ifs true fun c r => if r = true then do let ok ← isTrue c env (eval c env); pure (ForInStep.yield ok) else pure (ForInStep.yield r)) (fun ok s₃ =>
            if ok = true then wpAny (model prog w) A (eval elt env) (fun x s₄ =>
              wpAny (model prog w) A (call (.builtin "list.append") [acc, x]) (fun _ s₅ => ∃ m, m < n ∧ I m s₅) (fun _ _ => False) s₄) (fun _ _ => False) s₃
            else ∃ m, m < n ∧ I m s₃) (fun _ _ => False) s₂) (fun _ _ => False) s₁') (fun _ _ => False) s₁) (fun _ _ => False) s)
    (n : Nat) (h : I n s) :
    codeAny (model prog w) A (.compLoop (.ListComp elt [⟨target, iter, ifs, 0⟩] scope pos) 0 it acc env) R s := by
  refine codeAny_loop rfl I (fun n s hI => ?_) n h
  show wpAny _ A ((compTurn (.ListComp elt [⟨target, iter, ifs, 0⟩] scope pos) 0 it acc env).onRaise (fun x => do noteFrame x env; theTreesLotGoes x)) _ _ s
  refine wpAny_noted ?_
  rw [compTurn_list]
  refine wpAny_bind (wpAny_standAt (wpAny_bind (wpAny_mono (turn n s hI) (fun r s₁ h₁ => ?_) fun _ _ z => False.elim z)))
  cases r with
  | none => exact wpAny_pure h₁
  | some v =>
    refine wpAny_bind (wpAny_mono h₁ (fun _ s₁' h₁' => ?_) fun _ _ z => False.elim z)
    refine wpAny_bind (wpAny_mono h₁' (fun _ s₂ h₂ => wpAny_bind (wpAny_mono h₂ (fun ok s₃ h₃ => ?_) fun _ _ z => False.elim z)) fun _ _ z => False.elim z)
    cases ok with
    | false => exact wpAny_pure ⟨rfl, h₃⟩
    | true =>
      exact wpAny_bind (wpAny_bind (wpAny_mono h₃ (fun x s₄ h₄ => wpAny_bind (wpAny_mono h₄ (fun _ s₅ h₅ => wpAny_pure (wpAny_pure ⟨rfl, h₅⟩)) fun _ _ z => False.elim z)) fun _ _ z => False.elim z))
def CompW (J : It) (g : TG) (tf : TT) (te : TE) (D : Addr) (QE : Hp → Prop) (W : Nat → Nat → St → Hp → Prop) : Prop := ∀ i m σ H, W i m σ H →
  (J.stop i H ∧ QE H) ∨ (J.go i H ∧ ∃ N : St → Hp → Prop, (∀ σ' H', N σ' H' → ∃ m', m' < m ∧ W (i + 1) m' σ' H') ∧ ∀ x H', J.yld i H x H' → g x σ H' fun σ2 H2 => tf σ2 H2 fun b H3 =>
    if b = true then te σ2 H3 fun v H4 => ∃ xs, H4 D = some (.lst xs) ∧ xs.length < sizeLine ∧ N σ2 (upd H4 D (.lst (xs ++ [v]))) else N σ2 H3)
def tComp (caps : List (Option Nat)) (wi : TI) (g : TG) (tf : TT) (te : TE) : TE := fun σ H Q => wi σ H fun J H1 => ∀ D, H1 D = none →
  ∃ W : Nat → Nat → St → Hp → Prop, (∃ m, W 0 m (capt caps σ) (upd H1 D (.lst []))) ∧ CompW J g tf te D (fun H' => Q (.ref D) H') W
section
variable {X : Cx} {pins : List (Addr × Obj)} {σ : St} {H : Hp} {s : Shared} {N : List Str} {caps : List (Option Nat)} {scope : Scope} {elt tg iter : Expr} {ifs : List Expr} {wi : TI} {g : TG} {tf : TT} {te : TE} {pos : Pos}
theorem comp_core {RR : Value → Addr → Result → Shared → Prop} {cl : List (Str × Addr)} {Q : VK} (hc : X.calm = true) (S : CompOk X.N X.env.scope N caps scope) (hi : PI X tg iter wi)
    (hg : ∀ cl C fp s H, PG (cxComp X N scope cl C fp s H) tg g) (hf : ∀ cl C fp s H, PF (cxComp X N scope cl C fp s H) ifs tf) (he : ∀ cl C fp s H, PE (cxComp X N scope cl C fp s H) elt te)
    (c1 : ∀ x c, cl.lookup x = some c → X.env.cells.lookup x = some c) (c2 : ∀ y ∈ scope.names, y.2 = .free → ∃ c, cl.lookup y.1 = some c)
    (I : Inv X pins σ H s) (h : tComp caps wi g tf te σ H Q)
    (fin : ∀ (D C : Addr) (m : Str → Option Value) (H5 : Hp) (s5 : Shared), Inv X pins σ H5 s5 → s5.heap.Ns C m → FpOk X pins H5 C → Q (.ref D) H5 → RR (.ref D) C (.ok .next) s5) :
    wpAny (model X.prog X.w) X.A (eval iter X.env) (fun x s₁ => wpAny (model X.prog X.w) X.A (pyIter x) (fun it s₂ => wpAny (model X.prog X.w) X.A (newList []) (fun acc s₃ =>
      wpAny (model X.prog X.w) X.A (newFunctionEnv scope X.env.globals cl [] X.env.qual none .none (some X.env)) (fun cenv s₄ =>
        codeAny (model X.prog X.w) X.A (.compStart (.ListComp elt [⟨tg, iter, ifs, 0⟩] scope pos) 0 it acc { cenv with scope := relabel scope X.env }) (RR acc cenv.locals) s₄) X.xe s₃) X.xe s₂) X.xe s₁) X.xe s := by
  refine thn (hi pins s σ H _ I h) fun v s1 h1 => thn h1 fun itv s2 h2 => ?_
  obtain ⟨it, fp, tn, J, H2, e, I2, T, st2, f2, q⟩ := h2
  subst e
  have nD : H2 s2.heap.objs.size = none := I2.hok.fresh (Nat.le_refl _)
  obtain ⟨W, ⟨m0, w0⟩, turn⟩ := q s2.heap.objs.size nD
  refine wpAny_newObj_type ?_
  have I3 : Inv X pins σ (upd H2 s2.heap.objs.size (.lst [])) { s2 with heap := s2.heap.push { cls := .type "list", data := .seq ([] : List Value).toArray } } :=
    I2.laid (t' := s2.toks) (o := .lst []) (fun b ob e => Heap.get?_push_of_some _ e) (Nat.le_refl _) ⟨Nat.zero_le _, [], 0, .nil, Heap.get?_push_size _ rfl⟩
  have ob2 : ∀ b ∈ fp, ∃ o, s2.heap.get? b = some o := fun b hb => let ⟨o, e, _⟩ := T.obj 0 s2.heap st2 b hb; ⟨o, e⟩
  have nfD : ∀ b ∈ fp, b ≠ s2.heap.objs.size := fun b hb => let ⟨o, e⟩ := ob2 b hb; Nat.ne_of_lt (Heap.lt_size e)
  generalize hs3 : ({ s2 with heap := s2.heap.push { cls := .type "list", data := .seq ([] : List Value).toArray } } : Shared) = s3 at I3
  have eh : s3.heap = s2.heap.push { cls := .type "list", data := .seq ([] : List Value).toArray } := by rw [← hs3]
  generalize hD : s2.heap.objs.size = D at *
  generalize hH3 : upd H2 D (.lst []) = H3 at I3 w0
  have f3 : ∀ b ∈ fp, FpOk X pins H3 b := fun b hb => ⟨by rw [← hH3, upd_ne (nfD b hb)]; exact (f2 b hb).1, (f2 b hb).2⟩
  have ob3 : ∀ b ∈ fp, ∃ o, s3.heap.get? b = some o := fun b hb => let ⟨o, e⟩ := ob2 b hb; ⟨o, by rw [eh]; exact Heap.get?_push_of_some _ e⟩
  have st3 : tn 0 s3.heap := T.keep 0 _ _ st2 fun b hb o e => by rw [eh]; exact Heap.get?_push_of_some _ e
  show wpAny (model X.prog X.w) X.A (newFunctionEnv scope X.env.globals cl [] X.env.qual none .none (some X.env)) _ X.xe s3
  refine wpAny_newFunctionEnv S.nocell (by intro y hy; simp at hy) (fun h₁ hns₁ hsb₁ => ?_) S.kind
  have k1 : ∀ b u, s3.heap.get? b = some u → h₁.get? b = some u := fun b u e => hsb₁.extBut b u (Nat.ne_of_lt (Heap.lt_size e)) (Heap.get?_push_of_some _ e)
  have J0 := inv_comp (tk := s3.toks + ([] : List (Str × Value)).length) I3 f3 ob3 S c1 c2 hns₁ k1
  generalize hC : s3.heap.objs.size = C at *
  generalize hX' : cxComp X N scope cl C fp s3 H3 = X' at J0
  have st4 : tn 0 h₁ := T.keep 0 _ _ st3 fun b hb o e => k1 b o e
  have stat : ∀ {H' : Hp}, (∀ b ∈ fp, H' b = none) → ∀ b ∈ fp, FpOk X' [] H' b := fun {H'} hn b hb => by
    subst hX'
    exact ⟨hn b hb, (J0.ok.exf b hb).1, J0.ok.exfs b hb, .inl hb, (J0.ok.exf b hb).2, fun p hp => absurd (show p ∈ ([] : List (Addr × Obj)) from hp) (by simp)⟩
  have loop : ∀ s4 : Shared, s4 = { s3 with heap := h₁, toks := s3.toks + ([] : List (Str × Value)).length } →
      codeAny (model X.prog X.w) X.A (.compLoop (.ListComp elt [⟨tg, iter, ifs, 0⟩] scope pos) 0 (.ref it) (.ref D) (compEnvC scope cl C X.env)) (RR (.ref D) C) s4 := by
    rintro s4 rfl
    refine compLoop_any (fun n s' => ∃ i σ' H', Inv X' [] σ' H' s' ∧ tn i s'.heap ∧ (∀ b ∈ fp, H' b = none) ∧ W i n σ' H') ?_ m0 ⟨0, _, H3, J0, st4, fun b hb => (f3 b hb).1, w0⟩
    rintro n s4 ⟨i, σ4, H4, J4, st4, fr4, w4⟩
    rcases turn i n σ4 H4 w4 with ⟨stop, qn⟩ | ⟨go, Nn, hNn, step⟩
    · have d := T.done X' (by subst hX'; rfl) (by subst hX'; rfl) (by subst hX'; rfl) (by subst hX'; exact hc) i [] s4 σ4 H4 (fun _ _ => False) J4 (stat fr4) st4 stop
      have eA : X'.A = X.A := by subst hX'; rfl
      rw [eA] at d
      refine wpAny_mono d (fun r s5 hr => ?_) fun _ _ z => z
      obtain ⟨hr, J5⟩ := hr
      subst hr
      have I5 : Inv X pins σ H4 s5 := by
        subst hX'
        exact I3.call' J5.os J5.base J5.hok J5.bare fun b hb => ⟨(f3 b hb).2.2.2.1, (f3 b hb).2.1, (f3 b hb).2.2.2.2.1, (f3 b hb).2.2.2.2.2⟩
      obtain ⟨m, hn, _⟩ := J5.loc
      have fr := J5.free
      subst hX'
      exact fin D C m H4 s5 I5 hn (I3.fpOk (b := C) (Nat.le_of_eq hC) fr) qn
    · have d := T.item X' (by subst hX'; rfl) (by subst hX'; rfl) (by subst hX'; rfl) (by subst hX'; exact hc) i [] s4 σ4 H4 (fun _ _ => False) J4 (stat fr4) st4 go
      have eA : X'.A = X.A := by subst hX'; rfl
      rw [eA] at d
      refine wpAny_mono d (fun r s5 hr => ?_) fun _ _ z => z
      obtain ⟨u, hr, h5⟩ := hr
      subst hr
      refine wpAny_mono h5 (fun _ s6 q6 => ?_) fun _ _ z => z
      obtain ⟨x, H6, J6, r6, y6, st6, fr6⟩ := q6
      have J6' := J6.pinned (stat fr6) (T.obj _ _ st6)
      have again : ∀ {H9 : Hp} {s9 : Shared} {σ9 : St}, Inv X' ([] ++ pinsAt fp s6.heap) σ9 H9 s9 → Nn σ9 H9 → ∃ m, m < n ∧ ∃ i σ' H', Inv X' [] σ' H' s9 ∧ tn i s9.heap ∧ (∀ b ∈ fp, H' b = none) ∧ W i m σ' H' := fun {H9 s9 σ9} J9 q9 => by
        obtain ⟨m', hm, w9⟩ := hNn σ9 H9 q9
        refine ⟨m', hm, i + 1, σ9, H9, J9.unpinned, T.keep _ _ _ st6 fun b hb o e => (J9.pin (b, o) (List.mem_append_right _ (List.mem_append_right _ (mem_pinsAt hb e)))).1, fun b hb => ?_, w9⟩
        obtain ⟨o, e, d⟩ := T.obj _ _ st6 b hb
        exact (J9.pin (b, o) (List.mem_append_right _ (List.mem_append_right _ (mem_pinsAt hb e)))).2.1
      subst hX'
      refine wpAny_mono (hg cl C fp s3 H3 _ s6 σ4 H6 x u _ J6' r6 (step x H6 y6)) (fun _ s7 q7 => ?_) fun _ _ z => z
      obtain ⟨σ7, H7, J7, q7⟩ := q7
      refine wpAny_mono (hf cl C fp s3 H3 _ s7 σ7 H7 _ J7 q7) (fun ok s8 q8 => ?_) fun _ _ z => z
      obtain ⟨H8, J8, q8⟩ := q8
      cases ok with
      | false =>
        rw [if_neg (by decide)] at q8
        rw [if_neg (by decide)]
        exact again J8 q8
      | true =>
        rw [if_pos rfl] at q8
        rw [if_pos rfl]
        refine wpAny_mono (he cl C fp s3 H3 _ s8 σ7 H8 _ J8 q8) (fun v9 s9 q9 => ?_) fun _ _ z => z
        obtain ⟨y, H9, J9, r9, xs, hD9, hz, q9⟩ := q9
        refine wpAny_mono (mt_append (X := cxComp X N scope cl C fp s3 H3) _ s9 σ7 H9 (.ref D) [y] (.ref D) [v9] (fun _ H' => Nn σ7 H') J9 rfl (.cons r9 .nil) ⟨D, xs, y, rfl, rfl, hD9, hz, q9⟩) (fun _ s10 q10 => ?_) fun _ _ z => z
        obtain ⟨_, H10, J10, _, q10⟩ := q10
        exact again J10 q10
  exact codeAny_compStart_list (loop _ rfl) (T.self _ 0 _ _ _ st4 (loop _ rfl))
theorem pe_comp (hc : X.calm = true) (ho : compOk X.N X.env.scope N caps scope = true) (hi : PI X tg iter wi)
    (hg : ∀ cl C fp s H, PG (cxComp X N scope cl C fp s H) tg g) (hf : ∀ cl C fp s H, PF (cxComp X N scope cl C fp s H) ifs tf) (he : ∀ cl C fp s H, PE (cxComp X N scope cl C fp s H) elt te)
    (hs : ∀ x, foldedSetIterable iter X.env x = pure x := by intro _; rfl) : PE X (.ListComp elt [⟨tg, iter, ifs, 0⟩] scope pos) (tComp caps wi g tf te) := by
  intro pins s σ H Q I h
  have S := compOk_of ho
  obtain ⟨cl, hcl, c1, c2⟩ := closFor (scope := scope) (env := X.env) (fun y hy e => I.ok.has y.1 (S.fr y hy e))
  rw [eval_ListComp]
  refine wpAny_comprehension_free (use := none) rfl hs hcl S.kind S.loc (comp_core (RR := fun acc C => compPost (model X.prog X.w) X.A X.xe none (EP X pins σ Q) acc C) hc S hi hg hf he c1 c2 I h ?_)
  intro D C m H5 s5 I5 hn fC q
  exact ⟨m, hn, fun h' sb => ⟨.ref D, H5, I5.turned (t' := s5.toks) (fun b o hb e => (sb.2 b hb).trans e) fC.1 fC.2.1 fC.2.2.2.1 fC.2.2.2.2.1 fC.2.2.2.2.2, rfl, q⟩⟩
end
end L2
namespace L2
open PySem PySem.Spec PyProof.Rows
theorem comp_by {J : It} {g : TG} {tf : TT} {te : TE} {D : Addr} {QE : Hp → Prop} {σ : St} {H : Hp} (n : Nat) (Pv : Nat → St → Hp → Prop) (h0 : Pv 0 σ H) (hgo : ∀ i σ H, i < n → Pv i σ H → J.go i H) (hst : ∀ σ H, Pv n σ H → J.stop n H ∧ QE H)
    (hs : ∀ i σ H, i < n → Pv i σ H → ∀ x H', J.yld i H x H' → g x σ H' fun σ2 H2 => tf σ2 H2 fun b H3 => if b = true then te σ2 H3 fun v H4 => ∃ xs, H4 D = some (.lst xs) ∧ xs.length < sizeLine ∧ Pv (i + 1) σ2 (upd H4 D (.lst (xs ++ [v]))) else Pv (i + 1) σ2 H3) :
    ∃ W : Nat → Nat → St → Hp → Prop, (∃ m, W 0 m σ H) ∧ CompW J g tf te D QE W := by
  refine ⟨fun i m σ H => m = n - i ∧ i ≤ n ∧ Pv i σ H, ⟨n, by simp, Nat.zero_le _, h0⟩, ?_⟩
  rintro i m σ H ⟨rfl, hi, p⟩
  by_cases hlt : i < n
  · exact .inr ⟨hgo i σ H hlt p, Pv (i + 1), fun σ' H' p' => ⟨n - (i + 1), by omega, rfl, hlt, p'⟩, hs i σ H hlt p⟩
  · have e : i = n := by omega
    subst e
    exact .inl (hst σ H p)
theorem for_by {J : It} {g : TG} {tb : TS} {D : Ends} {σ : St} {H : Hp} (n : Nat) (Pv : Nat → St → Hp → Prop) (h0 : Pv 0 σ H) (hgo : ∀ i σ H, i < n → Pv i σ H → J.go i H) (hst : ∀ σ H, Pv n σ H → J.stop n H ∧ D.nx σ H)
    (hs : ∀ i σ H, i < n → Pv i σ H → ∀ x H', J.yld i H x H' → g x σ H' fun σ2 H2 => tb { D with nx := Pv (i + 1), ct := Pv (i + 1), bk := D.nx } σ2 H2) :
    ∃ W : Nat → Nat → St → Hp → Prop, (∃ m, W 0 m σ H) ∧ ∀ i m σ H, W i m σ H →
      (J.stop i H ∧ D.nx σ H) ∨ (J.go i H ∧ ∃ N : St → Hp → Prop, (∀ σ' H', N σ' H' → ∃ m', m' < m ∧ W (i + 1) m' σ' H') ∧ ∀ x H', J.yld i H x H' → g x σ H' fun σ2 H2 => tb { D with nx := N, ct := N, bk := D.nx } σ2 H2) := by
  refine ⟨fun i m σ H => m = n - i ∧ i ≤ n ∧ Pv i σ H, ⟨n, by simp, Nat.zero_le _, h0⟩, ?_⟩
  rintro i m σ H ⟨rfl, hi, p⟩
  by_cases hlt : i < n
  · exact .inr ⟨hgo i σ H hlt p, Pv (i + 1), fun σ' H' p' => ⟨n - (i + 1), by omega, rfl, hlt, p'⟩, hs i σ H hlt p⟩
  · have e : i = n := by omega
    subst e
    exact .inl (hst σ H p)
def Its (z : Str) : It := ⟨fun i _ => i < z.cps.size, fun i H x H' => H' = H ∧ ∃ c, z.cps[i]? = some c ∧ x = .str ⟨#[c]⟩, fun i _ => i = z.cps.size⟩
theorem go_str {M : Model} {A : Around} {E : Value → Shared → Prop} {s : Shared} {tg : Expr} {it : Addr} {x : Str} {t : Tok} {Q : Unit → Shared → Prop} (hQ : Q () s) : wpAny M A (letOwnedTupleGo tg (.ref it) (.str x t)) Q E s := by
  unfold letOwnedTupleGo
  cases tg <;> exact wpAny_pure hQ
theorem turn_str {P : Program} {w : World} {K : PySem.W.Frag} {tg : Expr} (it : Addr) (z : Str) (t : Tok) (ty : String) (hty : ty = "str_ascii_iterator" ∨ ty = "str_iterator") :
    Turn P w K tg (Its z) [it] it (fun i h => h.IsStrIter it ty z t i) where
  mem := by simp
  obj := fun i h st b hb => by
    have e : b = it := by simpa using hb
    subst e
    obtain ⟨o, e, c, d⟩ := st
    exact ⟨o, e, fun v z => by rw [d] at z; cases z⟩
  keep := fun i h h' st k => let ⟨o, ho, r⟩ := st; ⟨o, k it (by simp) o ho, r⟩
  item := by
    intro X hP hw hK hc i pins s σ H E I hf st hg
    subst hP hw hK
    obtain ⟨f0, f1, f2, f3, f4, f5⟩ := hf it (by simp)
    have W : Walks X.prog X.w X.A it [it] [it] z.cps.size (SignAt z) (fun i h => h.IsStrIter it ty z t i) := by
      rcases hty with rfl | rfl
      · exact Walks.strAscii (I.ok.hd hc) it z t
      · exact Walks.strWide (I.ok.hd hc) it z t
    refine W.item i s _ _ hg st fun v h' tk hv st' kk => ?_
    obtain ⟨c, u, hx, rfl⟩ := hv
    have I1 : Inv X pins σ H { s with heap := h', toks := tk } := I.turned (fun b o hb e => kk b o (by simpa using hb) e) f0 f1 f3 f4 f5
    exact ⟨_, rfl, go_str ⟨.str ⟨#[c]⟩, H, I1, ⟨u, rfl⟩, ⟨rfl, c, hx, rfl⟩, st', fun b hb => (hf b hb).1⟩⟩
  done := by
    intro X hP hw hK hc i pins s σ H E I hf st hg
    subst hP hw hK
    obtain ⟨f0, f1, f2, f3, f4, f5⟩ := hf it (by simp)
    have W : Walks X.prog X.w X.A it [it] [it] z.cps.size (SignAt z) (fun i h => h.IsStrIter it ty z t i) := by
      rcases hty with rfl | rfl
      · exact Walks.strAscii (I.ok.hd hc) it z t
      · exact Walks.strWide (I.ok.hd hc) it z t
    have e : i = z.cps.size := hg
    subst e
    exact W.done s _ _ st fun h' tk kk => ⟨rfl, I.turned (fun b o hb e => kk b o (by simpa using hb) e) f0 f1 f3 f4 f5⟩
  self := fun _ _ _ _ _ st h => by
    rcases hty with rfl | rfl
    · exact wpAny_pyIter_striter_ascii st h
    · exact wpAny_pyIter_striter_wide st h
section
variable {X : Cx} {tg : Expr}
def iStr (tl : TE) : TI := fun σ H R => tl σ H fun x H1 => ∃ z, x = .str z ∧ R (Its z) H1
theorem pi_str {l : Expr} {tl : TE} (hl : PE X l tl) : PI X tg l (iStr tl) := by
  intro pins s σ H R I h
  refine thn (hl pins s σ H _ I h) fun v s1 ⟨x, H1, I1, r1, q1⟩ => ?_
  obtain ⟨z, e, q⟩ := q1
  subst e
  obtain ⟨t, rfl⟩ := r1
  have fin : ∀ ty, (ty = "str_ascii_iterator" ∨ ty = "str_iterator") → PIE X pins σ tg R (.ref s1.heap.objs.size) { s1 with heap := s1.heap.push { cls := .type ty, data := .fields #[.str z t, .int 0 0] } } := fun ty hty => by
    refine ⟨s1.heap.objs.size, [s1.heap.objs.size], _, _, H1, rfl, I1.kept (t' := s1.toks) fun b o e => Heap.get?_push_of_some _ e, turn_str _ z t ty hty, ⟨_, Heap.get?_push_size _ rfl, rfl, rfl⟩, fun b hb => ?_, q⟩
    have e : b = s1.heap.objs.size := by simpa using hb
    subst e
    exact I1.fpOk (Nat.le_refl _) (I1.hok.fresh (Nat.le_refl _))
  cases ha : z.cps.all (· < 128)
  · exact wpAny_pyIter_wide ha (fin _ (.inr rfl))
  · exact wpAny_pyIter_ascii ha (fin _ (.inl rfl))
end
def cutS (z : Str) (lo hi : Option Int) : Str := ⟨((z.cps.toList.drop (HT.sIx z.length 0 lo)).take (HT.sIx z.length z.length hi - HT.sIx z.length 0 lo)).toArray⟩
theorem strSlice_pick (lo hi : Option Int) (n : Nat) : Builtin.Str.strSliceIndices lo hi 1 n = (List.range (HT.sIx n n hi - HT.sIx n 0 lo)).map (HT.sIx n 0 lo + ·) := by
  have h : Builtin.Str.strSliceIndices lo hi 1 n = sliceRange ((HT.sIx n 0 lo : Nat) : Int) ((HT.sIx n n hi : Nat) : Int) 1 := by
    unfold Builtin.Str.strSliceIndices
    simp only [show (1 : Int) > 0 by decide, if_true]
    congr 1
    · cases lo with
      | none => rfl
      | some i =>
        rw [← HT.clip_eq i n 0]
        show max 0 (min (if i < 0 then i + (n : Int) else i) (n : Int)) = _
        split <;> omega
    · cases hi with
      | none => rfl
      | some i =>
        rw [← HT.clip_eq i n n]
        show max 0 (min (if i < 0 then i + (n : Int) else i) (n : Int)) = _
        split <;> omega
  rw [h]
  unfold sliceRange
  simp only [show (1 : Int) > 0 by decide, if_true]
  have e2 : (if ((HT.sIx n 0 lo : Nat) : Int) < ((HT.sIx n n hi : Nat) : Int) then (((HT.sIx n n hi : Nat) : Int) - ((HT.sIx n 0 lo : Nat) : Int) + 1 - 1) / 1 else 0).toNat = HT.sIx n n hi - HT.sIx n 0 lo := by
    split
    · rw [Int.ediv_one]; omega
    · omega
  rw [e2]
  apply List.map_congr_left
  intro k _
  omega
theorem pick_signs (xs : Array Nat) (i k : Nat) : (((List.range k).map (i + ·)).filterMap (xs[·]?)) = (xs.toList.drop i).take k := by
  induction k with
  | zero => simp
  | succ k ih =>
    rw [List.range_succ, List.map_append, List.filterMap_append, ih, List.take_succ]
    congr 1
    simp only [List.map_cons, List.map_nil, List.getElem?_drop, Array.getElem?_toList]
    cases h : xs[i + k]? <;> simp [h]
theorem cutS_length (z : Str) (lo hi : Option Int) : (cutS z lo hi).length ≤ z.length := by
  show ((z.cps.toList.drop _).take _).toArray.size ≤ z.length
  rw [List.size_toArray, List.length_take, List.length_drop]
  have : z.cps.toList.length = z.length := by simp [Str.length]
  omega
section
variable {X : Cx}
def rSlS : V → Option Int → Option Int → Hp → VK → Prop := fun x lo hi H Q => ∃ z, x = .str z ∧ z.length ≤ sizeLine ∧ Q (.str (cutS z lo hi)) H
theorem sl_str : SlR X rSlS := by
  intro pins s σ H x v vl vu lo hi sl Q I rx hs pl pu h
  obtain ⟨z, rfl, hzl, q⟩ := h
  obtain ⟨t, rfl⟩ := rx
  refine ⟨"str", _, F.slot_str_getitem.lookup, typeIs_str s z t, ?_⟩
  obtain ⟨l, rfl, el⟩ : ∃ l : Option (Int × Tok), vl = partValue l ∧ l.map (·.1) = lo := by
    cases pl with
    | none => exact ⟨none, rfl, rfl⟩
    | int i t => exact ⟨some (i, t), rfl, rfl⟩
  obtain ⟨u, rfl, eu⟩ : ∃ u : Option (Int × Tok), vu = partValue u ∧ u.map (·.1) = hi := by
    cases pu with
    | none => exact ⟨none, rfl, rfl⟩
    | int i t => exact ⟨some (i, t), rfl, rfl⟩
  refine wpAny_getItem_str_slice (l := l) (u := u) (st := none) hs rfl ?_
  have ep : slicePicked z l u none = (List.range (HT.sIx z.length z.length hi - HT.sIx z.length 0 lo)).map (HT.sIx z.length 0 lo + ·) := by
    unfold slicePicked
    rw [el, eu]
    exact strSlice_pick lo hi z.length
  have ec : (slicePicked z l u none).filterMap (z.cps[·]?) = (z.cps.toList.drop (HT.sIx z.length 0 lo)).take (HT.sIx z.length z.length hi - HT.sIx z.length 0 lo) := by
    rw [ep, pick_signs]
  unfold sliceMade
  split
  · rename_i hw
    have hlen : (slicePicked z l u none).length = z.length := by simpa using hw
    have e : cutS z lo hi = z := by
      have hl : z.cps.toList.length = z.length := by simp [Str.length]
      rw [ep, List.length_map, List.length_range] at hlen
      have h1 := HT.sIx_le z.length z.length (Nat.le_refl _) hi
      have a0 : HT.sIx z.length 0 lo = 0 ∨ z.length = 0 := by omega
      unfold cutS
      rcases a0 with a0 | a0
      · rw [hlen, a0, List.drop_zero, List.take_of_length_le (by omega)]
      · have z0 : z.cps.toList = [] := List.eq_nil_of_length_eq_zero (by omega)
        rw [z0, List.drop_nil, List.take_nil]
        cases z with
        | mk cps =>
          congr 1
          exact (Array.toList_inj.mp z0).symm
    rw [e] at q
    exact ⟨.str z, H, I, ⟨t, rfl⟩, q⟩
  · have e : (⟨((slicePicked z l u none).filterMap (z.cps[·]?)).toArray⟩ : Str) = cutS z lo hi := by
      unfold cutS
      rw [ec]
    rw [e]
    exact ⟨Nat.le_trans (cutS_length z lo hi) hzl, .str (cutS z lo hi), H, I.tok _, ⟨_, rfl⟩, q⟩
end
end L2
namespace L2
open PySem PySem.Spec PyProof.Rows
theorem all_range (bs : List Bool) : (List.range bs.length).all (fun i => (bs[i]?).getD true) = bs.all id := by
  rw [Bool.eq_iff_iff, List.all_eq_true, List.all_eq_true]
  constructor
  · intro h b hb
    obtain ⟨i, hi, e⟩ := List.mem_iff_getElem.mp hb
    have := h i (List.mem_range.mpr hi)
    rw [List.getElem?_eq_getElem hi, e] at this
    exact this
  · intro h i hi
    have hi' := List.mem_range.mp hi
    rw [List.getElem?_eq_getElem hi']
    exact h _ (List.getElem_mem hi')
theorem vals_bl {bs : List Bool} {us : List Value} (r : Vals (bs.map V.bl) us) {i : Nat} {v : Value} (h : us[i]? = some v) : ∃ b, bs[i]? = some b ∧ v = .bool b := by
  have hl := r.length
  obtain ⟨hi, _⟩ := List.getElem?_eq_some_iff.mp h
  rw [← hl, List.length_map] at hi
  have e : (bs.map V.bl)[i]? = some (V.bl bs[i]) := by rw [List.getElem?_map, List.getElem?_eq_getElem hi]; rfl
  obtain ⟨u, hu, ru⟩ := r.get e
  rw [h] at hu
  cases hu
  exact ⟨bs[i], List.getElem?_eq_getElem hi, ru⟩
section
variable {X : Cx}
theorem call_allL (hc : X.calm = true) (K : PySem.W.Frag) (hK : X.K = K := by rfl) : CallR X (.builtin "all") (fun xs H Q => ∃ (p : Addr) (bs : List Bool), xs = [.ref p] ∧ SqL K H p (bs.map V.bl) ∧ Q (.bl (bs.all id)) H) := by
  subst hK
  intro pins s σ H xs us Q I r h
  obtain ⟨p, bs, rfl, hp, q⟩ := h
  obtain ⟨u, rfl, ru⟩ := vals1 r
  cases ru
  obtain ⟨its, rv, pl, hz⟩ := I.list hp
  have hl : its.toArray.size = bs.length := by
    have := rv.length
    rw [List.length_map] at this
    rw [List.size_toArray]
    exact this.symm
  have hh : X.A.in1.handled = none := I.ok.hd hc
  have hne : p ≠ s.heap.objs.size := fun e => by
    obtain ⟨o, n, e1, _⟩ := pl
    exact absurd (Heap.lt_size e1) (by rw [e]; exact Nat.lt_irrefl _)
  refine call_all_walk (wpAny_pyIter_list pl.isList ?_)
  refine ⟨s.heap.objs.size, _, _, _, _, _, fun i => (bs[i]?).getD true, rfl, Walks.list hh _ p hne its.toArray, ⟨⟨_, Heap.get?_push_size _ rfl, rfl, rfl⟩, pl.isList.at fun o e => Heap.get?_push_of_some _ e⟩, ?_, fun h' tk kk => ?_⟩
  · intro i v s' Q' E' hv hq
    have hv' : its[i]? = some v := by simpa using hv
    obtain ⟨b, e, rfl⟩ := vals_bl rv hv'
    have hq' : Q' ((bs[i]?).getD true) s' := hq
    rw [e] at hq'
    exact wpAny_truthy_bool hq'
  · rw [hl, all_range]
    exact ⟨.bl _, H, I.kept fun b o e => kk b o (by simp; exact Nat.ne_of_lt (Heap.lt_size e)) (Heap.get?_push_of_some _ e), rfl, q⟩
def tyTs : List String := ["NoneType", "bool", "int", "str", "list", "tuple", "dict"]
def tyNs : List String := ["bool", "int", "str", "list", "tuple", "dict"]
def tyIs (T n : String) : Bool := T == n || (T == "bool" && n == "int")
theorem kit_tab : ∀ T ∈ tyTs, ∀ n ∈ tyNs, PySem.W.kitMeta n = true ∧ (PySem.fastBuiltinMro T).map (·.contains (Value.type n)) = some (tyIs T n) := by decide +kernel
theorem kit_one {K : PySem.W.Frag} {T n : String} (hT : T ∈ tyTs) (hn : n ∈ tyNs) : PySem.W.kitOne K (.type T) (.type n) = some (tyIs T n) := by
  obtain ⟨h1, h2⟩ := kit_tab T hT n hn
  unfold PySem.W.kitOne
  split
  · rename_i e
    have e' := eq_of_beq e
    injection e' with e''
    subst e''
    simp [tyIs]
  · unfold PySem.W.kitCls
    show (if PySem.W.kitMeta n = true then PySem.W.subIn K (.type T) (.type n) else none) = _
    rw [if_pos h1]
    exact h2
theorem call_isi (K : PySem.W.Frag) (hK : X.K = K := by rfl) : CallR X (.builtin "isinstance") (fun xs H Q => ∃ x n T, xs = [x, .ty n] ∧ TyOf K H x (.type T) ∧ T ∈ tyTs ∧ n ∈ tyNs ∧ Q (.bl (tyIs T n)) H) := by
  subst hK
  intro pins s σ H xs us Q I r h
  obtain ⟨x, n, T, rfl, ty, hT, hn, q⟩ := h
  obtain ⟨u, c, rfl, ru, rc⟩ := vals2 r
  cases rc
  exact isinst_ok I ru ty (kit_one hT hn) fun tk => ⟨.bl _, H, I.tok tk, rfl, q⟩
theorem pe_gI {x : Str} {i : Int} {pos : Pos} (hg : Gl X x) (hm : ∃ t, X.mg x = some (.int i t)) (hd : (x == ("__debug__" : Str)) = false := by decide) : PE X (.Name x pos) (tC (.int i)) := by
  obtain ⟨t, e⟩ := hm
  exact pe_glob hg e ⟨t, rfl⟩ hd
theorem pe_gS {x z : Str} {pos : Pos} (hg : Gl X x) (hm : ∃ t, X.mg x = some (.str z t)) (hd : (x == ("__debug__" : Str)) = false := by decide) : PE X (.Name x pos) (tC (.str z)) := by
  obtain ⟨t, e⟩ := hm
  exact pe_glob hg e ⟨t, rfl⟩ hd
theorem pe_ty {x : Str} {n : String} {pos : Pos} (hg : Gl X x) (hm : X.mg x = none) (hv : bootBuiltins x = some (.type n)) (hn : x ≠ "__name__" := by decide) (hd : (x == ("__debug__" : Str)) = false := by decide) : PE X (.Name x pos) (tC (.ty n)) :=
  pe_bltn hg hm hv rfl hn hd
end
structure Top (K : PySem.W.Frag) (mg : Str → Option Value) (x : Str) (st : Stmt) (ps : List Str) : Prop where
  ex : ∃ f fd, Fun K x x st f fd ∧ mg x = some (.ref f) ∧ ∀ us : List Value, us.length = ps.length → bindArgs fd ⟨us, []⟩ = pure (ps.zip us)
theorem top_mk {K : PySem.W.Frag} {h : Heap} {mg : Str → Option Value} {x : Str} {st : Stmt} {ps : List Str} {f : Addr} {oc : Value} {od an : Option Addr} {osl : Array (Option Value)} {kV doc pm cdv ct : Value} (X : K.In h) (G : h.Ns mainGlobals mg)
    (b : ∀ (kV doc pm : Value) (an : Option Addr) (cdv ct : Value) (us : List Value), us.length = ps.length → bindArgs (PySem.W.fnOf x x (defArgs st) (defBody st) (defScope st) .none kV doc pm an cdv ct) ⟨us, []⟩ = pure (ps.zip us))
    (a : PySem.W.nsIn K mainGlobals x = some (some (.ref f)))
    (l : K.lookup f = some ⟨oc, od, .func (PySem.W.fnOf x x (defArgs st) (defBody st) (defScope st) .none kV doc pm an cdv ct), osl⟩) (c : PySem.W.codeIn K cdv x = true) (k : PySem.W.keepIn K (.ref f) = true) : Top K mg x st ps := by
  have F := fun_mk (st := st) l c k
  exact ⟨f, _, F, PySem.W.mg_of X G a, b kV doc pm an cdv ct⟩
structure Def (P : Program) (w : World) (K : PySem.W.Frag) (mg : Str → Option Value) (base : Heap) (k : Nat) (x : Str) (ps : List Str) (sp : Sp) : Prop where
  ex : ∃ f fd, FnOk P w K mg base CX0 k f fd ps sp ∧ mg x = some (.ref f) ∧ PySem.W.keepIn K (.ref f) = true ∧ Binds K fd ps []
theorem Top.ok {P : Program} {w : World} {K : PySem.W.Frag} {mg : Str → Option Value} {base : Heap} {x : Str} {st : Stmt} {N ps : List Str} {k : Nat} {sp : Sp} (T : Top K mg x st ps) (S : FnScope N ps (defScope st)) (len : ∀ vs H Q E, sp vs H Q E → vs.length = ps.length)
    (hbody : ∀ (f : Addr) (cdv : Value) (A : Around) (outer : List Env) (s : Shared) (H : Hp) (vs : List V) (Q : VK) (E : XK), Room k (A.deeper (envOfC x (defScope st) s.heap.objs.size f cdv)) → sp vs H Q E →
      ∃ t, PSs (cxOf CX0 P w K mg base N x (defScope st) f cdv A outer s H E).nox (defBody st) t ∧ t { nx := fun _ H' => Q .non H', rt := Q } (start N vs) H) : Def P w K mg base (k + 1) x ps sp := by
  obtain ⟨f, fd, F, hm, hb⟩ := T.ex
  exact ⟨f, fd, F.ok S len (hbody f), hm, F.kp, Binds.all hb⟩
theorem Top.fin {l : PySem.W.OpenLaw} {w : World} {K : PySem.W.Frag} {mg : Str → Option Value} {fa : Addr} {x : Str} {st : Stmt} {N : List Str} {k : Nat} {sp : Sp} (T : Top K mg "law" st [x]) (hfa : mg "law" = some (.ref fa)) (S : FnScope N [x] (defScope st))
    (len : ∀ vs H Q E, sp vs H Q E → vs.length = [x].length)
    (hbody : ∀ (base : Heap) (f : Addr) (cdv : Value) (A : Around) (outer : List Env) (s : Shared) (H : Hp) (vs : List V) (Q : VK) (E : XK), Room k (A.deeper (envOfC "law" (defScope st) s.heap.objs.size f cdv)) → sp vs H Q E →
      ∃ t, PSs (cxOf CX0 l.prog w K mg base N "law" (defScope st) f cdv A outer s H E).nox (defBody st) t ∧ t { nx := fun _ H' => Q .non H', rt := Q } (start N vs) H) :
    ∃ fd : FuncData, (∀ (s : Shared) (v : Value), BindsTo s fd ⟨[v], []⟩ [(x, v)]) ∧ ∀ base : Heap, K.In base → base.Ns mainGlobals mg → FnOk l.prog w K mg base CX0 (k + 1) fa fd [x] sp := by
  obtain ⟨f, fd, F, hm, hb⟩ := T.ex
  have e := hfa.symm.trans hm
  injection e with e
  injection e with e
  subst e
  exact ⟨fd, fun s v => .of_eq (hb [v] rfl), fun base _ _ => F.ok S len (hbody base fa)⟩
section
variable {X : Cx} {k k' : Nat} {x : Str} {ps : List Str} {sp : Sp} {p pos : Pos} {e : Expr} {es : List Expr} {t : TA}
theorem pe_def (D : Def X.prog X.w X.K X.mg X.base k x ps sp) (hr : Room k' X.A) (hg : Gl X x) (ha : PA X (e :: es) t) (hkk : k ≤ k' := by decide)
    (hdb : (x == ("__debug__" : Str)) = false := by decide) (he : starEach (e :: es) X.env = (false, eval e X.env) :: starEach es X.env := by rfl) (hpl : (backTo pos (starEach es X.env)).any (·.1) = false := by rfl) :
    PE X (.Call (.Name x p) (e :: es) [] pos) (tCall sp [] E0 t) := by
  obtain ⟨f, fd, F, hm, hk, hb⟩ := D.ex
  exact pe_call F (hr.mono hkk) hg hm hk hb .nil pass0 ha hdb he hpl
end
end L2
namespace L2
open PySem PySem.Spec PyProof.Rows
section
variable {X : Cx} {tg : Expr}
theorem call_lenK (K : PySem.W.Frag) (hK : X.K = K := by rfl) : CallR X (.builtin "len") (fun xs H Q => ∃ x n, xs = [x] ∧ LenV K x H n ∧ Q (.int n) H) := by subst hK; exact call_len
theorem ix_listK (K : PySem.W.Frag) (hK : X.K = K := by rfl) : IxR X (rIxL K) := by subst hK; exact ix_list
theorem ix_tupK (K : PySem.W.Frag) (hK : X.K = K := by rfl) : IxR X (rIxT K) := by subst hK; exact ix_tup
theorem sl_listK (K : PySem.W.Frag) (hK : X.K = K := by rfl) : SlR X (rSlL K) := by subst hK; exact sl_list
theorem sl_tupK (K : PySem.W.Frag) (hK : X.K = K := by rfl) : SlR X (rSlT K) := by subst hK; exact sl_tup
theorem pi_listK (K : PySem.W.Frag) {l : Expr} {tl : TE} (hl : PE X l tl) (hK : X.K = K := by rfl) : PI X tg l (iList K tl) := by subst hK; exact pi_list hl
theorem pi_tupK (K : PySem.W.Frag) {l : Expr} {tl : TE} (hl : PE X l tl) (hK : X.K = K := by rfl) : PI X tg l (iTup K tl) := by subst hK; exact pi_tup hl
theorem call_tupleK (K : PySem.W.Frag) (hK : X.K = K := by rfl) : CallR X (.type "tuple") (fun xs H Q => ∃ p ys, xs = [.ref p] ∧ ((SqL K H p ys ∧ ∀ l, H l = none → Q (.ref l) (upd H l (.tup ys))) ∨ (SqT K H p ys ∧ Q (.ref p) H))) := by subst hK; exact call_tuple_of
end
theorem atI_in {α : Type} {xs : List α} {i : Int} (h0 : 0 ≤ i) (h1 : i < xs.length) : ∃ v, atI xs i = some v ∧ v ∈ xs := by
  have hlt : i.toNat < xs.length := by omega
  refine ⟨xs[i.toNat], ?_, List.getElem_mem hlt⟩
  unfold atI ixN
  rw [if_pos h0, if_pos h1]
  show xs[i.toNat]? = _
  exact List.getElem?_eq_getElem hlt
theorem atI_lt {α : Type} {xs : List α} {i : Int} (h0 : 0 ≤ i) (h1 : i < xs.length) : atI xs i = xs[i.toNat]? := by
  unfold atI ixN
  rw [if_pos h0, if_pos h1]
  rfl
theorem same_upd {H : Hp} {a : Addr} {o : HO} (h : H a = none) : Same H (upd H a o) := fun b u e => by
  rw [upd_ne (ne_of_none e h)]
  exact e
theorem Same.set {H H' : Hp} {a : Addr} {o : HO} (h : Same H H') (n : H a = none) : Same H (upd H' a o) := fun b u e => by
  rw [upd_ne (ne_of_none e n)]
  exact h b u e
theorem Same.seqT {K : PySem.W.Frag} {H H' : Hp} {a : Addr} {xs : List V} (e : Same H H') (h : SqT K H a xs) : SqT K H' a xs := by
  rcases h with (h | ⟨o, h⟩) | h
  · exact .inl (.inl (e _ _ h))
  · exact .inl (.inr ⟨o, e _ _ h⟩)
  · exact .inr h
def notStar : Expr → Bool
  | .Starred _ _ => false
  | _ => true
theorem starEach_cons {e : Expr} {es : List Expr} {env : Env} (h : notStar e = true) : starEach (e :: es) env = (false, eval e env) :: starEach es env := by
  cases e <;> first
    | rfl
    | cases h
theorem pa_con {X : Cx} {e : Expr} {es : List Expr} {te : TE} {t : TA} (ha : PE X e te) (hr : PA X es t) (hs : notStar e = true := by rfl) : PA X (e :: es) (tCons te t) := pa_cons ha hr (starEach_cons hs)
theorem bt_len : bootBuiltins "len" = some (.builtin "len") := by decide +kernel
theorem bt_isinstance : bootBuiltins "isinstance" = some (.builtin "isinstance") := by decide +kernel
theorem bt_all : bootBuiltins "all" = some (.builtin "all") := by decide +kernel
theorem bt_sorted : bootBuiltins "sorted" = some (.builtin "sorted") := by decide +kernel
theorem bt_zip : bootBuiltins "zip" = some (.type "zip") := by decide +kernel
theorem bt_str : bootBuiltins "str" = some (.type "str") := by decide +kernel
theorem bt_int : bootBuiltins "int" = some (.type "int") := by decide +kernel
theorem bt_bool : bootBuiltins "bool" = some (.type "bool") := by decide +kernel
theorem bt_list : bootBuiltins "list" = some (.type "list") := by decide +kernel
theorem bt_tuple : bootBuiltins "tuple" = some (.type "tuple") := by decide +kernel
theorem bt_dict : bootBuiltins "dict" = some (.type "dict") := by decide +kernel
theorem bt_set : bootBuiltins "set" = some (.type "set") := by decide +kernel
theorem getD_lt {α : Type} {l : List α} {i : Nat} {d : α} (h : i < l.length) : l.getD i d = l[i] := by
  rw [List.getD_eq_getElem?_getD, List.getElem?_eq_getElem h]
  rfl
theorem getD_ge {α : Type} {l : List α} {i : Nat} {d : α} (h : l.length ≤ i) : l.getD i d = d := by
  rw [List.getD_eq_getElem?_getD, List.getElem?_eq_none_iff.mpr h]
  rfl
theorem pa_1 {X : Cx} {e0 : Expr} {t0 : TE} (h0 : PE X e0 t0) (hs0 : notStar e0 = true := by rfl) : PA X [e0] (tCons t0 tNil) := (pa_con h0 pa_nil hs0)
theorem pa_2 {X : Cx} {e0 e1 : Expr} {t0 t1 : TE} (h0 : PE X e0 t0) (h1 : PE X e1 t1) (hs0 : notStar e0 = true := by rfl) (hs1 : notStar e1 = true := by rfl) : PA X [e0, e1] (tCons t0 (tCons t1 tNil)) := (pa_con h0 (pa_con h1 pa_nil hs1) hs0)
theorem pa_3 {X : Cx} {e0 e1 e2 : Expr} {t0 t1 t2 : TE} (h0 : PE X e0 t0) (h1 : PE X e1 t1) (h2 : PE X e2 t2) (hs0 : notStar e0 = true := by rfl) (hs1 : notStar e1 = true := by rfl) (hs2 : notStar e2 = true := by rfl) : PA X [e0, e1, e2] (tCons t0 (tCons t1 (tCons t2 tNil))) := (pa_con h0 (pa_con h1 (pa_con h2 pa_nil hs2) hs1) hs0)
theorem pa_4 {X : Cx} {e0 e1 e2 e3 : Expr} {t0 t1 t2 t3 : TE} (h0 : PE X e0 t0) (h1 : PE X e1 t1) (h2 : PE X e2 t2) (h3 : PE X e3 t3) (hs0 : notStar e0 = true := by rfl) (hs1 : notStar e1 = true := by rfl) (hs2 : notStar e2 = true := by rfl) (hs3 : notStar e3 = true := by rfl) : PA X [e0, e1, e2, e3] (tCons t0 (tCons t1 (tCons t2 (tCons t3 tNil)))) := (pa_con h0 (pa_con h1 (pa_con h2 (pa_con h3 pa_nil hs3) hs2) hs1) hs0)
theorem pa_5 {X : Cx} {e0 e1 e2 e3 e4 : Expr} {t0 t1 t2 t3 t4 : TE} (h0 : PE X e0 t0) (h1 : PE X e1 t1) (h2 : PE X e2 t2) (h3 : PE X e3 t3) (h4 : PE X e4 t4) (hs0 : notStar e0 = true := by rfl) (hs1 : notStar e1 = true := by rfl) (hs2 : notStar e2 = true := by rfl) (hs3 : notStar e3 = true := by rfl) (hs4 : notStar e4 = true := by rfl) : PA X [e0, e1, e2, e3, e4] (tCons t0 (tCons t1 (tCons t2 (tCons t3 (tCons t4 tNil))))) := (pa_con h0 (pa_con h1 (pa_con h2 (pa_con h3 (pa_con h4 pa_nil hs4) hs3) hs2) hs1) hs0)
theorem pa_6 {X : Cx} {e0 e1 e2 e3 e4 e5 : Expr} {t0 t1 t2 t3 t4 t5 : TE} (h0 : PE X e0 t0) (h1 : PE X e1 t1) (h2 : PE X e2 t2) (h3 : PE X e3 t3) (h4 : PE X e4 t4) (h5 : PE X e5 t5) (hs0 : notStar e0 = true := by rfl) (hs1 : notStar e1 = true := by rfl) (hs2 : notStar e2 = true := by rfl) (hs3 : notStar e3 = true := by rfl) (hs4 : notStar e4 = true := by rfl) (hs5 : notStar e5 = true := by rfl) : PA X [e0, e1, e2, e3, e4, e5] (tCons t0 (tCons t1 (tCons t2 (tCons t3 (tCons t4 (tCons t5 tNil)))))) := (pa_con h0 (pa_con h1 (pa_con h2 (pa_con h3 (pa_con h4 (pa_con h5 pa_nil hs5) hs4) hs3) hs2) hs1) hs0)
theorem pa_7 {X : Cx} {e0 e1 e2 e3 e4 e5 e6 : Expr} {t0 t1 t2 t3 t4 t5 t6 : TE} (h0 : PE X e0 t0) (h1 : PE X e1 t1) (h2 : PE X e2 t2) (h3 : PE X e3 t3) (h4 : PE X e4 t4) (h5 : PE X e5 t5) (h6 : PE X e6 t6) (hs0 : notStar e0 = true := by rfl) (hs1 : notStar e1 = true := by rfl) (hs2 : notStar e2 = true := by rfl) (hs3 : notStar e3 = true := by rfl) (hs4 : notStar e4 = true := by rfl) (hs5 : notStar e5 = true := by rfl) (hs6 : notStar e6 = true := by rfl) : PA X [e0, e1, e2, e3, e4, e5, e6] (tCons t0 (tCons t1 (tCons t2 (tCons t3 (tCons t4 (tCons t5 (tCons t6 tNil))))))) := (pa_con h0 (pa_con h1 (pa_con h2 (pa_con h3 (pa_con h4 (pa_con h5 (pa_con h6 pa_nil hs6) hs5) hs4) hs3) hs2) hs1) hs0)
theorem pss_2 {X : Cx} {s0 s1 : Stmt} {t0 t1 : TS} (h0 : PS X s0 t0) (h1 : PS X s1 t1) : PSs X [s0, s1] (tSeq t0 t1) := (pss_cons h0 (pss_one h1))
theorem pss_3 {X : Cx} {s0 s1 s2 : Stmt} {t0 t1 t2 : TS} (h0 : PS X s0 t0) (h1 : PS X s1 t1) (h2 : PS X s2 t2) : PSs X [s0, s1, s2] (tSeq t0 (tSeq t1 t2)) := (pss_cons h0 (pss_cons h1 (pss_one h2)))
theorem pss_4 {X : Cx} {s0 s1 s2 s3 : Stmt} {t0 t1 t2 t3 : TS} (h0 : PS X s0 t0) (h1 : PS X s1 t1) (h2 : PS X s2 t2) (h3 : PS X s3 t3) : PSs X [s0, s1, s2, s3] (tSeq t0 (tSeq t1 (tSeq t2 t3))) := (pss_cons h0 (pss_cons h1 (pss_cons h2 (pss_one h3))))
theorem pss_5 {X : Cx} {s0 s1 s2 s3 s4 : Stmt} {t0 t1 t2 t3 t4 : TS} (h0 : PS X s0 t0) (h1 : PS X s1 t1) (h2 : PS X s2 t2) (h3 : PS X s3 t3) (h4 : PS X s4 t4) : PSs X [s0, s1, s2, s3, s4] (tSeq t0 (tSeq t1 (tSeq t2 (tSeq t3 t4)))) := (pss_cons h0 (pss_cons h1 (pss_cons h2 (pss_cons h3 (pss_one h4)))))
theorem pss_7 {X : Cx} {s0 s1 s2 s3 s4 s5 s6 : Stmt} {t0 t1 t2 t3 t4 t5 t6 : TS} (h0 : PS X s0 t0) (h1 : PS X s1 t1) (h2 : PS X s2 t2) (h3 : PS X s3 t3) (h4 : PS X s4 t4) (h5 : PS X s5 t5) (h6 : PS X s6 t6) : PSs X [s0, s1, s2, s3, s4, s5, s6] (tSeq t0 (tSeq t1 (tSeq t2 (tSeq t3 (tSeq t4 (tSeq t5 t6)))))) := (pss_cons h0 (pss_cons h1 (pss_cons h2 (pss_cons h3 (pss_cons h4 (pss_cons h5 (pss_one h6)))))))
theorem pss_9 {X : Cx} {s0 s1 s2 s3 s4 s5 s6 s7 s8 : Stmt} {t0 t1 t2 t3 t4 t5 t6 t7 t8 : TS} (h0 : PS X s0 t0) (h1 : PS X s1 t1) (h2 : PS X s2 t2) (h3 : PS X s3 t3) (h4 : PS X s4 t4) (h5 : PS X s5 t5) (h6 : PS X s6 t6) (h7 : PS X s7 t7) (h8 : PS X s8 t8) : PSs X [s0, s1, s2, s3, s4, s5, s6, s7, s8] (tSeq t0 (tSeq t1 (tSeq t2 (tSeq t3 (tSeq t4 (tSeq t5 (tSeq t6 (tSeq t7 t8)))))))) := (pss_cons h0 (pss_cons h1 (pss_cons h2 (pss_cons h3 (pss_cons h4 (pss_cons h5 (pss_cons h6 (pss_cons h7 (pss_one h8)))))))))
theorem psr_1 {X : Cx} {s0 : Stmt} {ss : List Stmt} {t0 u : TS} (h0 : PS X s0 t0) (hu : PSs X ss u) : PSs X (s0 :: ss) (tSeq t0 u) := (pss_cons h0 hu)
theorem psr_3 {X : Cx} {s0 s1 s2 : Stmt} {ss : List Stmt} {t0 t1 t2 u : TS} (h0 : PS X s0 t0) (h1 : PS X s1 t1) (h2 : PS X s2 t2) (hu : PSs X ss u) : PSs X (s0 :: s1 :: s2 :: ss) (tSeq t0 (tSeq t1 (tSeq t2 u))) := (pss_cons h0 (pss_cons h1 (pss_cons h2 hu)))
theorem psr_7 {X : Cx} {s0 s1 s2 s3 s4 s5 s6 : Stmt} {ss : List Stmt} {t0 t1 t2 t3 t4 t5 t6 u : TS} (h0 : PS X s0 t0) (h1 : PS X s1 t1) (h2 : PS X s2 t2) (h3 : PS X s3 t3) (h4 : PS X s4 t4) (h5 : PS X s5 t5) (h6 : PS X s6 t6) (hu : PSs X ss u) : PSs X (s0 :: s1 :: s2 :: s3 :: s4 :: s5 :: s6 :: ss) (tSeq t0 (tSeq t1 (tSeq t2 (tSeq t3 (tSeq t4 (tSeq t5 (tSeq t6 u))))))) := (pss_cons h0 (pss_cons h1 (pss_cons h2 (pss_cons h3 (pss_cons h4 (pss_cons h5 (pss_cons h6 hu)))))))
theorem join_at {X : Cx} {body : List Stmt} {D : Ends} {σ : St} {H : Hp} (n : Nat) (C : St → Hp → Prop) (rest : ∃ u, PSs X (body.drop n) u ∧ ∀ σ H, C σ H → u D σ H)
    (first : ∀ u, PSs X (body.drop n) u → (∀ σ H, C σ H → u D σ H) → ∃ t, PSs X body t ∧ t D σ H) : ∃ t, PSs X body t ∧ t D σ H :=
  let ⟨u, h1, h2⟩ := rest
  first u h1 h2
end L2
namespace L2
open PySem PySem.Spec PyProof.Rows
mutual
inductive Dat (K : PySem.W.Frag) (H : Hp) : PyData → V → Prop
  | non : Dat K H .none .non
  | bl (b : Bool) : Dat K H (.bool b) (.bl b)
  | int (i : Int) : Dat K H (.int i) (.int i)
  | str (x : Str) (h : PyData.strOk x = true) : Dat K H (.str x) (.str x)
  | lst {a : Addr} {xs : List V} {ds : List PyData} : SqL K H a xs → Dats K H ds xs → Dat K H (.list ds) (.ref a)
  | tup {a : Addr} {xs : List V} {ds : List PyData} : SqT K H a xs → Dats K H ds xs → Dat K H (.tuple ds) (.ref a)
inductive Dats (K : PySem.W.Frag) (H : Hp) : List PyData → List V → Prop
  | nil : Dats K H [] []
  | cons {d : PyData} {x : V} {ds : List PyData} {xs : List V} : Dat K H d x → Dats K H ds xs → Dats K H (d :: ds) (x :: xs)
end
section
variable {K : PySem.W.Frag} {H H' : Hp}
mutual
theorem Dat.same (s : Same H H') : ∀ (d : PyData) (x : V), Dat K H d x → Dat K H' d x
  | _, _, .non => .non
  | _, _, .bl b => .bl b
  | _, _, .int i => .int i
  | _, _, .str x h => .str x h
  | _, _, .lst h r => .lst (s.seq h) (Dats.same s _ _ r)
  | _, _, .tup h r => .tup (s.seqT h) (Dats.same s _ _ r)
theorem Dats.same (s : Same H H') : ∀ (ds : List PyData) (xs : List V), Dats K H ds xs → Dats K H' ds xs
  | _, _, .nil => .nil
  | _, _, .cons a b => .cons (Dat.same s _ _ a) (Dats.same s _ _ b)
end
mutual
theorem Dat.lay : ∀ (d : PyData) (x : V), Dat K H d x → d.canLay0 = true
  | _, _, .non => rfl
  | _, _, .bl _ => rfl
  | _, _, .int _ => rfl
  | _, _, .str _ h => h
  | _, _, .lst _ r => Dats.lay _ _ r
  | _, _, .tup _ r => Dats.lay _ _ r
theorem Dats.lay : ∀ (ds : List PyData) (xs : List V), Dats K H ds xs → PyData.canLayAll0 ds = true
  | _, _, .nil => rfl
  | _, _, .cons a b => by rw [PyData.canLayAll0, Dat.lay _ _ a, Dats.lay _ _ b]; rfl
end
end
section
variable {X : Cx} {pins : List (Addr × Obj)} {σ : St} {H : Hp} {s : Shared}
mutual
theorem Dat.reads (I : Inv X pins σ H s) : ∀ (d : PyData) (x : V) (u : Value), Dat X.K H d x → RelV x u → ∃ as, Reads s.heap u d as
  | _, _, _, .non, r => by cases r; exact ⟨_, .none⟩
  | _, _, _, .bl b, r => by cases r; exact ⟨_, .bool b⟩
  | _, _, _, .int i, r => by obtain ⟨t, rfl⟩ := r; exact ⟨_, .int i t⟩
  | _, _, _, .str x _, r => by obtain ⟨t, rfl⟩ := r; exact ⟨_, .str x t⟩
  | _, _, _, .lst h q, r => by
    cases r
    obtain ⟨its, rv, ⟨o, n, e, c, _, d⟩, _⟩ := I.list h
    obtain ⟨as, ra⟩ := Dats.reads I _ _ _ q rv
    exact ⟨_, .list e c d (by simpa using ra)⟩
  | _, _, _, .tup h q, r => by
    cases r
    obtain ⟨its, rv, ⟨o, e, c, n, d⟩, _⟩ := I.tuple h
    obtain ⟨as, ra⟩ := Dats.reads I _ _ _ q rv
    exact ⟨_, .tuple e c d (by simpa using ra)⟩
theorem Dats.reads (I : Inv X pins σ H s) : ∀ (ds : List PyData) (xs : List V) (us : List Value), Dats X.K H ds xs → Vals xs us → ∃ as, ReadsAll s.heap us ds as
  | _, _, _, .nil, r => by cases r; exact ⟨_, .nil⟩
  | _, _, _, .cons a b, r => by
    cases r with
    | cons r1 r2 =>
      obtain ⟨as, h1⟩ := Dat.reads I _ _ _ a r1
      obtain ⟨bs, h2⟩ := Dats.reads I _ _ _ b r2
      exact ⟨_, .cons h1 h2⟩
end
end
section
variable {X : Cx}
theorem units_of {u d e : Nat} (hu : u + 64 < cLine) (hd : d ≤ 60) : u + min d e < cLine := by
  have : min d e ≤ d := Nat.min_le_left _ _
  omega
end
def LtAt (A : Around) (s : Shared) (u v : Value) (r : Bool) : Prop :=
  ∀ (prog : Program) (w : World) (E : Value → Shared → Prop) (Q : Value → Shared → Prop), Q (.bool r) s → wpAny (model prog w) A (richCompare .Lt u v) Q E s
inductive LexAt (A : Around) (s : Shared) : List Value → List Value → Bool → Prop
  | nn : LexAt A s [] [] false
  | nc {v : Value} {vs : List Value} : LexAt A s [] (v :: vs) true
  | cn {u : Value} {us : List Value} : LexAt A s (u :: us) [] false
  | eq {u v : Value} {us vs : List Value} {r : Bool} : SeqAt.EqAt A s u v true → LexAt A s us vs r → LexAt A s (u :: us) (v :: vs) r
  | lt {u v : Value} {us vs : List Value} {r : Bool} : SeqAt.EqAt A s u v false → LtAt A s u v r → LexAt A s (u :: us) (v :: vs) r
section
open PySem.SeqAt
open PySem.AutoSeq1 (wpAny_loadPart')
open PySem.MeetsSeq PySem.MeetsSeq2 PySem.MeetsSeq3
theorem tuple_lt_any (l b : Addr) (items items2 : Array Value) (n n2 : Nat) (dd dd2 : Option Addr) (sl sl2 : Array (Option Value)) (r : Bool) :
    Meets (Builtin.«tuple.__lt__» ⟨[.ref l, .ref b], []⟩)
      (fun A R s => s.heap.get? l = some { cls := .type "tuple", dict := dd, data := .seq items n, slots := sl } ∧ s.heap.get? b = some { cls := .type "tuple", dict := dd2, data := .seq items2 n2, slots := sl2 } ∧
        LexAt A.in1 s items.toList items2.toList r ∧ R (.ok (.ret (.bool r))) s) :=
  .of_wp fun prog w A R s h => by
    obtain ⟨hp, g, d, tk, os⟩ := s; obtain ⟨hl, hb, hx, h⟩ := h
    have f2 := AutoSeq1.sub_tuple_tuple
    wp_walk using wpAny_loadPart' hl, wpAny_loadPart' hb, wpAny_forIn_list _ (fun rest b s' => b.1 = none ∧ s' = ⟨hp, g, d, tk, os⟩ ∧ ∃ (vs ws : List Value), rest = vs.zip ws ∧
      LexAt A.in1 ⟨hp, g, d, tk, os⟩ vs ws r ∧ vs.length + items2.size = ws.length + items.size) _
    case turn =>
      rintro ⟨y, x⟩ rest b s' ⟨hb', rfl, vs, ws, hz, hvi, hlen⟩
      cases hvi with
      | nn => rw [List.zip_nil_left] at hz; cases hz
      | nc => rw [List.zip_nil_left] at hz; cases hz
      | cn => rw [List.zip_nil_right] at hz; cases hz
      | eq he hr =>
        rw [List.zip_cons_cons] at hz
        injection hz with hyx hrest
        injection hyx with hy hx
        subst hy hx
        simp only [List.length_cons] at hlen
        refine wpAny_bind (he prog w _ _ ?_)
        wp_walk
        exact ⟨rfl, rfl, _, _, hrest, hr, by omega⟩
      | lt he hr =>
        rw [List.zip_cons_cons] at hz
        injection hz with hyx hrest
        injection hyx with hy hx
        subst hy hx
        refine wpAny_bind (he prog w _ _ ?_)
        have hri := hr prog w
        wp_walk using hri
        exact ⟨_, rfl, by simpa using h⟩
    case fin =>
      rintro ⟨b1, b2⟩ s' ⟨hb', rfl, vs, ws, hz, hvi, hlen⟩
      simp only at hb'
      subst hb'
      have hv : r = decide (items.size < items2.size) := by
        cases hvi with
        | nn =>
          simp only [List.length_nil] at hlen
          exact (decide_eq_false (by omega)).symm
        | nc =>
          simp only [List.length_nil, List.length_cons] at hlen
          exact (decide_eq_true (by omega)).symm
        | cn =>
          simp only [List.length_nil, List.length_cons] at hlen
          exact (decide_eq_false (by omega)).symm
        | eq _ _ => rw [List.zip_cons_cons] at hz; cases hz
        | lt _ _ => rw [List.zip_cons_cons] at hz; cases hz
      rw [hv] at h
      wp_walk
      exact ⟨_, rfl, by simpa [Builtin.Tuple.tupleCompareSizes] using h⟩
    case h =>
      exact ⟨rfl, rfl, items.toList, items2.toList, rfl, hx, by simp; omega⟩
end
theorem ltAt_tup {A : Around} {s : Shared} {l b : Addr} {items items2 : Array Value} {r : Bool} (hl : IsTup s.heap l items) (hb : IsTup s.heap b items2) (hx : LexAt A.in1 s items.toList items2.toList r) (hu : A.units < cLine) : LtAt A s (.ref l) (.ref b) r := by
  intro prog w E Q h
  obtain ⟨⟨cls, dd, data, sl⟩, ho, hc, n, hd⟩ := id hl
  obtain ⟨⟨cls2, dd2, data2, sl2⟩, ho2, hc2, n2, hd2⟩ := id hb
  simp only at hc hd hc2 hd2
  subst hc hd hc2 hd2
  exact richCompare_meets_room (op := .Lt) ⟨_, ho, rfl⟩ ⟨_, ho2, rfl⟩ PySem.F.slot_tuple_lt PySem.F.entry_tuple_lt (PySem.F.args_tuple_lt_2 _ _) (tuple_lt_any l b items items2 n n2 dd dd2 sl sl2 r)
    ⟨ho, ho2, hx, show Value.bool r ≠ Value.notImplemented ∧ Q (.bool r) s from ⟨(fun x => nomatch x), h⟩⟩ hu
mutual
def ltD? : PyData → PyData → Option Bool
  | .int a, .int b => some (decide (a < b))
  | .str a, .str b => some (decide (a.cps.toList < b.cps.toList))
  | .tuple as, .tuple bs => lexD? as bs
  | _, _ => none
def lexD? : List PyData → List PyData → Option Bool
  | [], [] => some false
  | [], _ :: _ => some true
  | _ :: _, [] => some false
  | a :: as, b :: bs => if PyData.eqv a b = true then lexD? as bs else ltD? a b
end
mutual
theorem ltAt_reads : ∀ (da db : PyData) (A : Around) (s : Shared) (a b : Value) (as bs : List Addr) (r : Bool), Reads s.heap a da as → Reads s.heap b db bs → da.canLay0 = true → db.canLay0 = true →
    A.units + min da.depth db.depth < cLine → ltD? da db = some r → LtAt A s a b r
  | .int x, db, A, s, _, _, _, _, r, ra, rb, ha, hb, hu, e => by
    cases ra
    cases rb <;> first
      | (cases e; intro prog w E Q h; exact (lt_int h : wpAny (model prog w) A (compareOp .Lt _ _) Q E s))
      | (exact nomatch e)
  | .str x, db, A, s, _, _, _, _, r, ra, rb, ha, hb, hu, e => by
    cases ra
    cases rb <;> first
      | (cases e; intro prog w E Q h; exact (lt_str h : wpAny (model prog w) A (compareOp .Lt _ _) Q E s))
      | (exact nomatch e)
  | .tuple xs, db, A, s, _, _, _, _, r, ra, rb, ha, hb, hu, e => by
    cases ra with
    | tuple h1 h2 h3 h4 =>
      cases rb with
      | tuple k1 k2 k3 k4 =>
        exact ltAt_tup ⟨_, h1, h2, _, h3⟩ ⟨_, k1, k2, _, k3⟩ (lexAt_reads xs _ A.in1 s _ _ _ _ r h4 k4 ha hb (SeqAt.room_in hu) e) (SeqAt.room_here hu)
      | none => exact nomatch e
      | bool => exact nomatch e
      | int => exact nomatch e
      | str => exact nomatch e
      | list => exact nomatch e
      | dict => exact nomatch hb
  | .none, _, _, _, _, _, _, _, _, _, _, _, _, _, e => by simp [ltD?] at e
  | .bool _, _, _, _, _, _, _, _, _, _, _, _, _, _, e => by simp [ltD?] at e
  | .list _, _, _, _, _, _, _, _, _, _, _, _, _, _, e => by simp [ltD?] at e
  | .dict _, _, _, _, _, _, _, _, _, _, _, ha, _, _, _ => nomatch ha
theorem lexAt_reads : ∀ (xs ys : List PyData) (A : Around) (s : Shared) (vs ws : List Value) (as bs : List Addr) (r : Bool), ReadsAll s.heap vs xs as → ReadsAll s.heap ws ys bs → PyData.canLayAll0 xs = true → PyData.canLayAll0 ys = true →
    A.units + min (PyData.depthAll xs) (PyData.depthAll ys) < cLine → lexD? xs ys = some r → LexAt A s vs ws r
  | [], [], _, _, _, _, _, _, r, ra, rb, _, _, _, e => by cases ra; cases rb; cases e; exact .nn
  | [], _ :: _, _, _, _, _, _, _, r, ra, rb, _, _, _, e => by cases ra; cases rb; cases e; exact .nc
  | _ :: _, [], _, _, _, _, _, _, r, ra, rb, _, _, _, e => by cases ra; cases rb; cases e; exact .cn
  | x :: xs, y :: ys, A, s, _, _, _, _, r, ra, rb, ha, hb, hu, e => by
    have ha' : x.canLay0 = true ∧ PyData.canLayAll0 xs = true := by simpa [PyData.canLayAll0] using ha
    have hb' : y.canLay0 = true ∧ PyData.canLayAll0 ys = true := by simpa [PyData.canLayAll0] using hb
    cases ra with
    | cons r1 rs =>
      cases rb with
      | cons r1' rs' =>
        have eq := SeqAt.eqAt_reads x y A s _ _ _ _ r1 r1' ha'.1 hb'.1 (SeqAt.room_head hu)
        rw [lexD?] at e
        cases q : PyData.eqv x y with
        | true =>
          rw [q] at eq
          rw [if_pos q] at e
          exact .eq eq (lexAt_reads xs ys A s _ _ _ _ r rs rs' ha'.2 hb'.2 (SeqAt.room_tail hu) e)
        | false =>
          rw [q] at eq
          rw [if_neg (by rw [q]; exact Bool.false_ne_true)] at e
          exact .lt eq (ltAt_reads x y A s _ _ _ _ r r1 r1' ha'.1 hb'.1 (SeqAt.room_head hu) e)
end
section
variable {X : Cx}
def rLtD (K : PySem.W.Frag) : R2 := fun x y H Q => ∃ d e r, Dat K H d x ∧ Dat K H e y ∧ d.depth ≤ 60 ∧ ltD? d e = some r ∧ Q (.bl r) H
theorem op_ltD (hu : X.A.units + 64 < cLine) (K : PySem.W.Frag) (hK : X.K = K := by rfl) : OpR X (compareOp .Lt) (rLtD K) := by
  subst hK
  intro pins s σ H x y v u Q I rx ry h
  obtain ⟨d, e, r, hd, he, hz, hr, q⟩ := h
  obtain ⟨as, ra⟩ := Dat.reads I _ _ _ hd rx
  obtain ⟨bs, rb⟩ := Dat.reads I _ _ _ he ry
  exact ltAt_reads d e X.A s v u _ _ r ra rb (Dat.lay _ _ hd) (Dat.lay _ _ he) (units_of hu hz) hr X.prog X.w X.xe _ (fin_bl I q rfl)
end
end L2
namespace L2
open PySem PySem.Spec PyProof.Rows
def tyD : PyData → String
  | .none => "NoneType"
  | .bool _ => "bool"
  | .int _ => "int"
  | .str _ => "str"
  | .list _ => "list"
  | .tuple _ => "tuple"
  | .dict _ => "dict"
theorem tyD_in (d : PyData) : tyD d ∈ tyTs := by
  cases d <;> simp [tyD, tyTs]
section
variable {X : Cx}
theorem call_isiD (K : PySem.W.Frag) (hK : X.K = K := by rfl) : CallR X (.builtin "isinstance") (fun xs H Q => ∃ x n d, xs = [x, .ty n] ∧ Dat K H d x ∧ n ∈ tyNs ∧ Q (.bl (tyIs (tyD d) n)) H) := by
  subst hK
  intro pins s σ H xs us Q I r h
  obtain ⟨x, n, d, rfl, hd, hn, q⟩ := h
  obtain ⟨u, c, rfl, ru, rc⟩ := vals2 r
  cases rc
  have e := kit_one (K := X.K) (tyD_in d) hn
  have fin : ∀ tk, EP X pins σ Q (.bool (tyIs (tyD d) n)) { s with toks := tk } := fun tk => ⟨.bl _, H, I.tok tk, rfl, q⟩
  cases hd with
  | non => cases ru; exact PySem.W.kia_one PySem.W.kitx_none I.kIn True.intro e (fun z => nomatch z) fin
  | bl b => cases ru; exact PySem.W.kia_one PySem.W.kitx_bool I.kIn True.intro e (fun z => nomatch z) fin
  | int i => obtain ⟨t, rfl⟩ := ru; exact PySem.W.kia_one PySem.W.kitx_int I.kIn True.intro e (fun z => nomatch z) fin
  | str z h => obtain ⟨t, rfl⟩ := ru; exact PySem.W.kia_one PySem.W.kitx_str I.kIn True.intro e (fun z => nomatch z) fin
  | lst hq _ =>
    cases ru
    obtain ⟨its, _, ⟨o, m, e1, c, _, _⟩, _⟩ := I.list hq
    exact PySem.W.kia_one PySem.W.kitx_list I.kIn ⟨o, e1, c⟩ e (fun z => nomatch z) fin
  | tup hq _ =>
    cases ru
    obtain ⟨its, _, ⟨o, e1, c, _⟩, _⟩ := I.tuple hq
    exact PySem.W.kia_one PySem.W.kitx_tuple I.kIn ⟨o, e1, c⟩ e (fun z => nomatch z) fin
def rNeD (K : PySem.W.Frag) : R2 := fun x y H Q => ∃ d e, Dat K H d x ∧ Dat K H e y ∧ d.depth ≤ 60 ∧ Q (.bl (!PyData.eqv d e)) H
theorem op_neD (hu : X.A.units + 64 < cLine) (K : PySem.W.Frag) (hK : X.K = K := by rfl) : OpR X (compareOp .NotEq) (rNeD K) := by
  subst hK
  intro pins s σ H x y v u Q I rx ry h
  obtain ⟨d, e, hd, he, hz, q⟩ := h
  obtain ⟨as, ra⟩ := Dat.reads I _ _ _ hd rx
  obtain ⟨bs, rb⟩ := Dat.reads I _ _ _ he ry
  exact SeqAt.compareNe_reads ra rb (Dat.lay _ _ hd) (Dat.lay _ _ he) (units_of hu hz) (fin_bl I q rfl)
end
end L2
namespace L2
open PySem PySem.Spec PyProof.Rows PySem.W
section
variable {prog : Program} {w : World} {A : Around} {E : Value → Shared → Prop} {s : Shared} {d it : Addr} {es : Array DictEntry} {ep i : Nat}
theorem collect_sq {T : String} {o : Obj} {items : Array Value} {n : Nat} {l : Addr} {R : List Value → Shared → Prop} (hT : T = "list" ∨ T = "tuple") (ho : s.heap.get? l = some o) (hc : o.cls = .type T) (hd : o.data = .seq items n) (hz : items.size ≤ sizeLine)
    (h : ∀ (h' : Heap) (tk : Nat), (∀ b o, s.heap.get? b = some o → h'.get? b = some o) → s.heap.objs.size ≤ h'.objs.size → R items.toList { s with heap := h', toks := tk }) : wpAny (model prog w) A (collect (.ref l)) R E s := by
  unfold collect
  refine wpAny_bind (wpAny_runValue (codeAny_builtin entry_proto_collect' ?_))
  show wpAny _ _ (do again (.builtin "list.__iadd__" ⟨[← newList [], .ref l], []⟩)) _ _ s
  refine wpAny_bind (wpAny_newList (wpAny_pure ⟨Code.quiet_builtin _ (by decide +kernel), codeAny_builtin entry_list_iadd' ?_⟩))
  show wpAny _ _ (Builtin.List.listExtendWith (.ref s.heap.objs.size) (.ref l) (.ref s.heap.objs.size)) _ _ { s with heap := s.heap.push (seqObj "list" #[] 0) }
  unfold Builtin.List.listExtendWith
  have ho' : (s.heap.push (seqObj "list" #[] 0)).get? l = some o := Heap.get?_push_of_some _ ho
  refine wpAny_bind (wpAny_typeOf (T := T) ⟨o, ho', hc⟩ ?_)
  have ht : ((Value.type T == Value.type "list") || (Value.type T == Value.type "tuple")) = true := by rcases hT with rfl | rfl <;> rfl
  rw [if_pos (by rw [Bool.or_assoc, ht]; simp)]
  refine wpAny_bind (listItems_at ho' hd ?_)
  refine wpAny_bind (listItems_at (xs := #[]) (n := 0) (Heap.get?_push_size _ rfl) rfl ?_)
  rw [if_neg (by simp)]
  refine wpAny_bind (listUpdate_at (xs := #[]) (n := 0) (Heap.get?_push_size _ rfl) rfl ?_ (Nat.zero_le _) (by rw [Array.size_append]; simp; omega))
  refine wpAny_pure ?_
  show wpAny (model prog w) A (load s.heap.objs.size >>= fun o => match o.data with
      | .seq xs _ => pure xs.toList
      | _ => unsupported "internal:collect") R E { s with heap := (s.heap.push (seqObj "list" #[] 0)).update s.heap.objs.size (Obj.mapSeq (· ++ items)) }
  refine wpAny_bind (wpAny_load (get?_update_seq (Heap.get?_push_size _ rfl) _) ?_)
  show wpAny _ _ (pure ((#[] : Array Value) ++ items).toList) R E _
  rw [show ((#[] : Array Value) ++ items).toList = items.toList by simp]
  refine wpAny_pure (h _ s.toks (fun b o e => ?_) (by rw [Heap.size_update, size_push']; omega))
  exact (Heap.get?_update_other _ _ (Nat.ne_of_gt (Heap.lt_size e))).trans (Heap.get?_push_of_some _ e)
end
end L2
namespace Tim
section
variable {α : Type}
def srt (lt : α → α → Bool) (l : List α) : List α := l.mergeSort fun a b => !lt b a
theorem srt_perm (lt : α → α → Bool) (l : List α) : (srt lt l).Perm l := List.mergeSort_perm _ _
theorem srt_asc {lt : α → α → Bool} (h : STO lt) (l : List α) : (srt lt l).Pairwise fun a b => lt b a = false := by
  have := List.pairwise_mergeSort (le := fun a b => !lt b a) (fun a b c h1 h2 => by
    cases e : lt c a with
    | false => rfl
    | true =>
      rcases h.nt b e with q | q
      · rw [q] at h2
        cases h2
      · rw [q] at h1
        cases h1) (fun a b => by
    cases e : lt b a with
    | false => rfl
    | true =>
      rw [h.asym e]
      rfl) l
  exact List.Pairwise.imp (fun {a b} (z : (!lt b a) = true) => by simpa using z) this
theorem srt_eq {lt : α → α → Bool} (h : STO lt) {l k : List α} (p : k.Perm l) (a : k.Pairwise fun a b => lt b a = false) : k = srt lt l := h.uniq (p.trans (srt_perm lt l).symm) a (srt_asc h l)
end
section
open PySem
theorem sorted_data {α : Type} {lt : α → α → Bool} (h : STO lt) (dec : Value → α) {vs out : List Value} (so : Sorted (fun v => rank lt (vs.map dec) (dec v)) vs out) : out.map dec = srt lt (vs.map dec) := by
  refine srt_eq h (so.perm.map dec) ?_
  rw [List.pairwise_map]
  refine List.Pairwise.imp_of_mem (fun {x y} hx hy hr => ?_) so.asc
  have mx : dec x ∈ vs.map dec := List.mem_map.mpr ⟨x, so.perm.mem_iff.mp hx, rfl⟩
  have my : dec y ∈ vs.map dec := List.mem_map.mpr ⟨y, so.perm.mem_iff.mp hy, rfl⟩
  rw [rank_lt (fun a _ => h.irr a) (fun a _ b _ c _ => h.tr a b c) (fun a _ b _ c _ z => h.nt b z) my mx]
  exact decide_eq_false (by omega)
theorem rank_dec {α : Type} {lt : α → α → Bool} (h : STO lt) (dec : Value → α) {vs : List Value} {x y : Value} (hx : x ∈ vs) (hy : y ∈ vs) : lt (dec x) (dec y) = decide (rank lt (vs.map dec) (dec x) < rank lt (vs.map dec) (dec y)) :=
  rank_lt (fun a _ => h.irr a) (fun a _ b _ c _ => h.tr a b c) (fun a _ b _ c _ z => h.nt b z) (List.mem_map.mpr ⟨x, hx, rfl⟩) (List.mem_map.mpr ⟨y, hy, rfl⟩)
end
end Tim
namespace L2
open PySem PySem.Spec PyProof.Rows PySem.W
def strLt (x y : Str) : Bool := decide (x.cps.toList < y.cps.toList)
theorem sto_str : Tim.STO strLt := by
  have h := (Tim.sto_nat.lex).map (fun z : Str => z.cps.toList) (fun a b e => by
    cases a
    cases b
    congr
    exact Array.toList_inj.mp e)
  have e : strLt = fun a b : Str => Tim.lexB (fun x y : Nat => decide (x < y)) a.cps.toList b.cps.toList := by
    funext a b
    exact Tim.lex_nat _ _
  rw [e]
  exact h
def sOf : Value → Str
  | .str x _ => x
  | _ => ""
theorem vals_str {ws : List Str} : ∀ {us : List Value}, Vals (ws.map V.str) us → us.map sOf = ws ∧ (∀ u ∈ us, ∃ x t, u = .str x t) ∧ StrsAre us ws := by
  induction ws with
  | nil =>
    intro us r
    cases r
    exact ⟨rfl, (fun _ z => nomatch z), .nil⟩
  | cons x ws ih =>
    intro us r
    cases r with
    | cons r1 rr =>
      obtain ⟨t, rfl⟩ := r1
      obtain ⟨a, b, c⟩ := ih rr
      refine ⟨by rw [List.map_cons, a]; rfl, fun u hu => ?_, .cons x t c⟩
      rcases List.mem_cons.mp hu with rfl | hu
      · exact ⟨x, t, rfl⟩
      · exact b u hu
theorem vals_of_strs : ∀ {us : List Value}, (∀ u ∈ us, ∃ x t, u = .str x t) → Vals ((us.map sOf).map V.str) us
  | [], _ => .nil
  | u :: us, h => by
    obtain ⟨x, t, rfl⟩ := h u (List.mem_cons_self ..)
    exact .cons ⟨t, rfl⟩ (vals_of_strs fun v hv => h v (List.mem_cons_of_mem _ hv))
section
variable {prog : Program} {w : World} {A : Around} {s : Shared} {a : Addr}
theorem keys_strs {ws : List Str} {vs : List Value} (r : Vals (ws.map V.str) vs) : Tim.Keys prog w A s a vs (fun v => Tim.rank strLt (vs.map sOf) (sOf v)) := by
  intro h2 s' _
  obtain ⟨e1, e2, e3⟩ := vals_str r
  refine ⟨oneType', fun E Q q => ?_, fun x hx y hy E Q q => ?_⟩
  · match vs, h2, e3 with
    | v1 :: v2 :: vr, _, e3 =>
      rw [keyKind_strs e3]
      exact wpAny_pure q
  · rw [← Tim.rank_dec sto_str sOf hx hy] at q
    obtain ⟨x', t, rfl⟩ := e2 x hx
    obtain ⟨y', u, rfl⟩ := e2 y hy
    rw [keyLt'_oneType]
    exact oneLt_str q
end
section
variable {X : Cx}
theorem Inv.sorted_list {pins : List (Addr × Obj)} {σ : St} {H : Hp} {s : Shared} {xs : List V} {out : Array Value} {l : Addr} {n tk : Nat} {h' : Heap} {Q : VK} (I : Inv X pins σ H s) (rv : Vals xs out.toList) (hz : xs.length ≤ sizeLine)
    (keep : ∀ b o, s.heap.get? b = some o → h'.get? b = some o) (hl : s.heap.objs.size ≤ l) (hg : h'.get? l = some (seqObj "list" out n)) (q : Q (.ref l) (upd H l (.lst xs))) : EP X pins σ Q (.ref l) { s with heap := h', toks := tk } := by
  refine ⟨.ref l, _, I.laid (a := l) (o := .lst xs) (t' := tk) keep hl ⟨hz, out.toList, n, rv, ?_⟩, rfl, q⟩
  rw [Array.toArray_toList]
  exact hg
end
section
variable {prog : Program} {w : World} {A : Around} {E : Value → Shared → Prop} {s : Shared} {a : Addr}
end
section
variable {X : Cx}
end
end L2
namespace L2
open PySem PySem.Spec PyProof.Rows
section
variable {X : Cx}
theorem pg_tupK (K : PySem.W.Frag) {es : List Expr} {k : Nat} {t : TGs} {n : Nat} {pos : Pos} (hc : X.calm = true) (h : PGs X es t) (hK : X.K = K := by rfl)
    (hn : (assignEach es X.env).length = n := by rfl) (hst : (assignEach es X.env).findIdx? (·.1) = none := by rfl) : PG X (.Tuple es k pos) (gTup K n t) := by
  subst hK
  exact pg_tup hc h hn hst
def rNotInD (K : PySem.W.Frag) : R2 := fun x y H Q => ∃ d ds, Dat K H d x ∧ Dat K H (.list ds) y ∧ PyData.depthAll ds ≤ 60 ∧ Q (.bl (!ds.any fun y => PyData.eqv y d)) H
theorem op_notInD (hu : X.A.units + 64 < cLine) (K : PySem.W.Frag) (hK : X.K = K := by rfl) : OpR X (compareOp .NotIn) (rNotInD K) := by
  subst hK
  intro pins s σ H x y v u Q I rx ry h
  obtain ⟨d, ds, hd, he, hz, q⟩ := h
  obtain ⟨as, ra⟩ := Dat.reads I _ _ _ hd rx
  obtain ⟨bs, rb⟩ := Dat.reads I _ _ _ he ry
  exact SeqAt.notIn_list_reads rb ra (Dat.lay _ _ he) (Dat.lay _ _ hd) (by have : min (PyData.depthAll ds) d.depth ≤ PyData.depthAll ds := Nat.min_le_left _ _; omega) (fin_bl I q rfl)
end
end L2
namespace L2
open PySem PySem.Spec PyProof.Rows
section
variable {X : Cx} {e : Expr} {lo hi : Option Expr} {se : Expr} {te : TE} {tl th ts : TO} {p2 pos : Pos}
end
end L2
namespace L2
open PySem PySem.Spec PyProof.Rows
section
variable {X : Cx}
end
end L2
namespace L2
open PySem PySem.Spec PyProof.Rows
section
variable {X : Cx}
end
section
variable {prog : Program} {w : World} {A : Around} {R : Result → Shared → Prop} {I : Addr} {fp wr : List Addr} {n : Nat} {P : Nat → Value → Prop} {St : Nat → Heap → Prop}
end
section
variable {X : Cx} {e d : Expr} {t tk : TA} {p pos kpos : Pos}
end
end L2
namespace L2
open PySem PySem.Spec PyProof.Rows
section
variable {prog : Program} {w : World} {A : Around} {E : Value → Shared → Prop} {s : Shared}
end
section
variable {prog : Program} {w : World} {A : Around} {R : Result → Shared → Prop} {I : Addr} {fp wr : List Addr} {n : Nat} {P : Nat → Value → Prop} {St : Nat → Heap → Prop}
end
section
variable {X : Cx}
end
end L2
namespace L2
open PySem PySem.Spec PyProof.Rows
section
variable {X : Cx} {tg : Expr}
theorem call_dictC : CallR X (.type "dict") (fun xs H Q => ∃ (a : Addr) (kvs : List (Key × V)), xs = [.ref a] ∧ Rd H a (.dK kvs) ∧ ∀ d, H d = none → Q (.ref d) (upd H d (.dK kvs))) := by
  intro pins s σ H xs us Q I r h
  obtain ⟨a, kvs, rfl, ha, q⟩ := h
  obtain ⟨u, rfl, ru⟩ := vals1 r
  cases ru
  obtain ⟨hz, hne, vs, rel, hd⟩ := ha.ok I.hok
  have hl : kvs.length = vs.length := Paired.length rel
  refine kt_call_dict hne hd (by omega) fun h' hd' hs => ?_
  exact ⟨.ref s.heap.objs.size, _, I.laid (a := s.heap.objs.size) (o := .dK kvs) (t' := s.toks) (fun b o e => (hs.2 b (Nat.ne_of_lt (Heap.lt_size e))).trans (Heap.get?_push_of_some _ e)) (Nat.le_refl _) ⟨hz, beq_eq_false_iff_ne.mpr (Ne.symm (Nat.ne_of_lt I.big)), vs, rel, hd'⟩, rfl, q _ (I.hok.fresh (Nat.le_refl _))⟩
end
section
variable {X : Cx} {e : Expr} {lo hi : Option Expr} {se : Expr} {te : TE} {tl th ts : TO} {p2 pos : Pos}
end
end L2
namespace L2
open PySem PySem.Spec PyProof.Rows
section
variable {prog : Program} {w : World} {A : Around} {E : Value → Shared → Prop} {s : Shared}
end
section
variable {X : Cx}
end
end L2
namespace L2
open PySem PySem.Spec PyProof.Rows
def cA (mg : Str → Option Value) (x : Str) : Addr := match mg x with
  | some (.ref a) => a
  | _ => 0
theorem cA_of {mg : Str → Option Value} {x : Str} {C : Addr} (h : mg x = some (.ref C)) : cA mg x = C := by
  unfold cA
  rw [h]
structure MTop (K : PySem.W.Frag) (C : Addr) (m qual : Str) (st : Stmt) (ps : List Str) : Prop where
  ex : ∃ f fd, Fun K m qual st f fd ∧ Meth K C m f ∧ ∀ us : List Value, us.length = ps.length → bindArgs fd ⟨us, []⟩ = pure (ps.zip us)
theorem mtop_mk {K : PySem.W.Frag} {C : Addr} {m qual : Str} {st : Stmt} {ps : List Str} {f : Addr} {oc : Value} {od an : Option Addr} {osl : Array (Option Value)} {kV doc pm cdv ct : Value}
    (b : ∀ (kV doc pm : Value) (an : Option Addr) (cdv ct : Value) (us : List Value), us.length = ps.length → bindArgs (PySem.W.fnOf m qual (defArgs st) (defBody st) (defScope st) .none kV doc pm an cdv ct) ⟨us, []⟩ = pure (ps.zip us))
    (a : PySem.W.findIn K (.ref C) m = some (some (.ref f))) (i : PySem.W.isFn K (.ref f) = true)
    (l : K.lookup f = some ⟨oc, od, .func (PySem.W.fnOf m qual (defArgs st) (defBody st) (defScope st) .none kV doc pm an cdv ct), osl⟩) (c : PySem.W.codeIn K cdv qual = true) (k : PySem.W.keepIn K (.ref f) = true) : MTop K C m qual st ps :=
  ⟨f, _, fun_mk (st := st) l c k, ⟨a, i, k⟩, b kV doc pm an cdv ct⟩
structure MDef (P : Program) (w : World) (K : PySem.W.Frag) (mg : Str → Option Value) (base : Heap) (k : Nat) (C : Addr) (m : Str) (ps : List Str) (sp : Sp) : Prop where
  ex : ∃ f fd, FnOk P w K mg base CX0 k f fd ps sp ∧ Meth K C m f ∧ Binds K fd ps []
theorem MTop.ok {P : Program} {w : World} {K : PySem.W.Frag} {mg : Str → Option Value} {base : Heap} {C : Addr} {m qual : Str} {st : Stmt} {N ps : List Str} {k : Nat} {sp : Sp} (T : MTop K C m qual st ps) (S : FnScope N ps (defScope st)) (len : ∀ vs H Q E, sp vs H Q E → vs.length = ps.length)
    (hbody : ∀ (f : Addr) (cdv : Value) (A : Around) (outer : List Env) (s : Shared) (H : Hp) (vs : List V) (Q : VK) (E : XK), Room k (A.deeper (envOfC qual (defScope st) s.heap.objs.size f cdv)) → sp vs H Q E →
      ∃ t, PSs (cxOf CX0 P w K mg base N qual (defScope st) f cdv A outer s H E).nox (defBody st) t ∧ t { nx := fun _ H' => Q .non H', rt := Q } (start N vs) H) : MDef P w K mg base (k + 1) C m ps sp := by
  obtain ⟨f, fd, F, hm, hb⟩ := T.ex
  exact ⟨f, fd, F.ok S len (hbody f), hm, Binds.all hb⟩
section
variable {X : Cx} {k k' : Nat} {C : Addr} {ps ks : List Str} {sp : Sp} {x m : Str} {p pos apos : Pos} {e o : Expr} {es : List Expr} {ta : TE} {t tk : TA} {kws : List Keyword}
theorem pe_mdef {pl : Sem Bool} (D : MDef X.prog X.w X.K X.mg X.base k C m ps sp) (c : Cls X.K C) (hr : Room k' X.A) (he : PE X o ta) (ha : PA X (e :: es) t) (hkk : k ≤ k' := by decide)
    (hst : starEach (e :: es) X.env = (false, eval e X.env) :: starEach es X.env := by rfl) (hpl : (backTo pos (starEach es X.env)).any (·.1) = false := by rfl)
    (ht : eval (.Call (.Attribute o m apos) (e :: es) [] pos) X.env = (do
      let ov ← eval o X.env
      standAt apos.atName
      let (f, first) ← holding [ov] (getMethod ov m pl)
      callWith pos f first (backTo pos (starEach (e :: es) X.env)) (backToKw pos (keywordEach [] X.env))) := by rfl) :
    PE X (.Call (.Attribute o m apos) (e :: es) [] pos) (tMeth C m sp [] E0 ta t) := by
  obtain ⟨f, fd, F, hm, hb⟩ := D.ex
  exact pe_meth he c hm F (hr.mono hkk) hb .nil pass0 ha hst hpl ht
variable {y : Str} {dv : V}
end
end L2
namespace L2
open PySem PySem.Spec PyProof.Rows PySem.W
def intLt (x y : Int) : Bool := decide (x < y)
theorem sto_ints : Tim.STO intLt := Tim.sto_int
def iOf : Value → Int
  | .int x _ => x
  | _ => 0
theorem vals_int {ws : List Int} : ∀ {us : List Value}, Vals (ws.map V.int) us → us.map iOf = ws ∧ (∀ u ∈ us, ∃ x t, u = .int x t) ∧ IntsAre us ws := by
  induction ws with
  | nil =>
    intro us r
    cases r
    exact ⟨rfl, (fun _ z => nomatch z), .nil⟩
  | cons x ws ih =>
    intro us r
    cases r with
    | cons r1 rr =>
      obtain ⟨t, rfl⟩ := r1
      obtain ⟨a, b, c⟩ := ih rr
      refine ⟨by rw [List.map_cons, a]; rfl, fun u hu => ?_, .cons x t c⟩
      rcases List.mem_cons.mp hu with rfl | hu
      · exact ⟨x, t, rfl⟩
      · exact b u hu
theorem vals_of_ints2 : ∀ {us : List Value}, (∀ u ∈ us, ∃ x t, u = .int x t) → Vals ((us.map iOf).map V.int) us
  | [], _ => .nil
  | u :: us, h => by
    obtain ⟨x, t, rfl⟩ := h u (List.mem_cons_self ..)
    exact .cons ⟨t, rfl⟩ (vals_of_ints2 fun v hv => h v (List.mem_cons_of_mem _ hv))
section
variable {prog : Program} {w : World} {A : Around} {s : Shared} {a : Addr}
theorem keys_ints {ws : List Int} {vs : List Value} (r : Vals (ws.map V.int) vs) : Tim.Keys prog w A s a vs (fun v => Tim.rank intLt (vs.map iOf) (iOf v)) := by
  intro h2 s' _
  obtain ⟨e1, e2, e3⟩ := vals_int r
  refine ⟨oneType', fun E Q q => ?_, fun x hx y hy E Q q => ?_⟩
  · match vs, h2, e3 with
    | v1 :: v2 :: vr, _, e3 =>
      rw [keyKind_ints e3]
      exact wpAny_pure q
  · rw [← Tim.rank_dec sto_ints iOf hx hy] at q
    obtain ⟨x', t, rfl⟩ := e2 x hx
    obtain ⟨y', u, rfl⟩ := e2 y hy
    rw [keyLt'_oneType]
    exact oneLt_int q
end
section
variable {X : Cx}
end
end L2
namespace L2
open PySem PySem.Spec PyProof.Rows
section
variable {X : Cx} {pins : List (Addr × Obj)} {σ : St} {H : Hp} {s : Shared} {a : Addr} {kvs : List (Key × V)} {k : Key} {z : V} {u r : Value} {A : Around} {E : Value → Shared → Prop}
theorem d_setd {Q : Value → Shared → Prop} (I : Inv X pins σ H s) (e : H a = some (.dK kvs)) (hl : kvs.length < sizeLine) (ry : RelV (kV k) u) (rz : RelV z r)
    (h1 : ∀ v w' s', valV kvs k = some v → Inv X pins σ H s' → RelV v w' → Q w' s') (h2 : valV kvs k = none → ∀ s', Inv X pins σ (upd H a (.dK (putK kvs k z))) s' → Q r s') :
    wpAny (model X.prog X.w) A (call (.builtin "dict.setdefault") [.ref a, u, r]) Q E s := by
  obtain ⟨zl, hd, vs, rel, dd⟩ := dk_of I.hok e
  have rv := rel.val k
  refine call_meetsIn PySem.F.slot_dict_setdefault dd.typeIs PySem.F.entry_dict_setdefault (PySem.F.args_dict_setdefault_3 _ _ _) (kt_meets_setdefault (mixKind X.prog X.w) a (kV_is ry) hd r) ⟨vs, dd, by rw [← rel.length]; exact zl, fun w' hw => ?_, fun hn h' dd' hs => ?_⟩
  · cases ev : valV kvs k with
    | none =>
      rw [ev, hw] at rv
      exact rv.elim
    | some v =>
      rw [ev, hw] at rv
      exact h1 v w' _ ev (I.tok _) rv
  · have hp : (putK kvs k z).length ≤ sizeLine := by have := length_putK kvs k z; omega
    have he : ∃ q, h'.get? a = some q := let ⟨q, _, _, hq, _⟩ := dd'; ⟨q, hq⟩
    refine h2 ?_ _ (d_write I (by rw [e]; exact True.intro) hs he (dk_new hp hd (rel.put k rz) dd'))
    cases ev : valV kvs k with
    | none => rfl
    | some v =>
      rw [ev, hn] at rv
      exact rv.elim
end
def tDSetd (td ty tx : TE) : TE := fun σ H Q => td σ H fun x H1 => ∃ a, x = .ref a ∧ IsD H1 a ∧ ty σ H1 fun y H2 => tx σ H2 fun z H3 => ∃ kvs k, H3 a = some (.dK kvs) ∧ y = kV k ∧ kvs.length < sizeLine ∧
  (∀ v, valV kvs k = some v → Q v H3) ∧ (valV kvs k = none → Q z (upd H3 a (.dK (putK kvs k z))))
section
variable {X : Cx} {o e f : Expr} {apos cpos : Pos} {td ty tx : TE}
theorem pe_dsetd (ho : PE X o td) (he : PE X e ty) (hf : PE X f tx) (m : M2 X o "setdefault" apos e f cpos) : PE X (.Call (.Attribute o "setdefault" apos) [e, f] [] cpos) (tDSetd td ty tx) := by
  intro pins s σ H Q I h
  refine wpAny_Call_method m.base m.few m.line PySem.F.plainAttrs_dict PySem.F.slot_dict_setdefault PySem.F.type_dict_setdefault (thn (ho pins s σ H _ I h) fun u s1 ⟨x, H1, I1, rx, a, ex, d, q1⟩ => ?_)
  subst ex
  obtain rfl : u = Value.ref a := rx
  obtain ⟨t1, t2, _⟩ := isD_at I1 d
  refine ⟨t1, t2, ?_⟩
  rw [m.trees]
  refine Calls.callWith_builtin rfl (Calls.evalArgs_plain (Calls.spliced_cons (thn (he pins s1 σ H1 _ I1 q1) fun iv s2 ⟨y, H2, I2, ry, q2⟩ =>
    Calls.spliced_cons (thn (hf pins s2 σ H2 _ I2 q2) fun fv s3 ⟨z, H3, I3, rz, kvs, k, eH, ey, hl, q3, q4⟩ => Calls.spliced_nil ?_))))
  subst ey
  exact d_setd I3 eH hl ry rz (fun v w' s4 ev I4 rw' => ⟨_, H3, I4, rw', q3 v ev⟩) fun en s4 I4 => ⟨z, _, I4, rz, q4 en⟩
end
end L2
namespace L2
open PySem PySem.Spec PyProof.Rows PySem.W
def byTxt (w : World) : Bool := w.params.followText "set-order"
def TxS (P : Program) (w : World) (h : Heap) (a : Addr) (xs : List Str) : Prop :=
  ∃ o es ep t, h.get? a = some o ∧ o.ExactSet ∧ o.data = .set es ep t ∧ ElemsOf (strKind P w) es.toList ∧ es.toList.map (fun e => sOf e.2) = xs ∧ xs.Nodup ∧ es.size < scanBound ∧ t.fits es.size = true ∧ t.led = !byTxt w ∧ (0 < es.size → t.plain = false)
theorem put_led (t : SetTable) (j : Nat) : (t.put j).1.led = t.led ∧ (t.put j).1.plain = t.plain := ⟨rfl, rfl⟩
theorem orStand_led (t : SetTable) (n : Nat) : (t.orStandIn n).led = t.led := by
  unfold SetTable.orStandIn SetTable.standIn
  split <;> rfl
theorem layNew_led (t : SetTable) (es : Array (Int × Value)) (h : Int) (x : Value) : (layNew t es h x).2.1.led = t.led := by
  unfold layNew
  split
  · dsimp only
    rw [orStand_led]
    exact (put_led _ _).1
  · rfl
theorem relay_keeps (t : SetTable) (es : Array (Int × Value)) (n : Nat) : (relayAll t es n).2.1.led = t.led ∧ (t.plain = false → (relayAll t es n).2.1.plain = false) := by
  unfold relayAll
  split
  · rename_i t' order e
    have e2 : t'.led = t.led ∧ t'.plain = t.plain := by
      unfold SetTable.relaid SetTable.laid at e
      cases q : SetTable.layClean (SetTable.sizeAbove n - 1) (es.map (·.1)) with
      | none =>
        rw [q] at e
        cases e
      | some ow =>
        rw [q] at e
        cases e
        exact ⟨rfl, rfl⟩
    dsimp only
    split
    · exact ⟨e2.1, fun z => e2.2.trans z⟩
    · exact ⟨rfl, fun _ => rfl⟩
  · exact ⟨rfl, fun _ => rfl⟩
section
variable {P : Program} {w : World} {A : Around} {E : Value → Shared → Prop} {s : Shared} {a : Addr} {xs : List Str}
theorem isStr_key {x : Str} {v : Value} (h : (strKind P w).is x v = true) : sOf v = x ∧ ∃ t, v = .str x t := by
  obtain ⟨t, rfl⟩ := Value.isStrOf_shape (x := x) (v := v) h
  exact ⟨rfl, t, rfl⟩
theorem elem_mem {es : List (Int × Value)} (h : ElemsOf (strKind P w) es) (x : Str) : x ∈ es.map (fun e => sOf e.2) ↔ ∃ e ∈ es, (strKind P w).is x e.2 = true := by
  constructor
  · intro hx
    obtain ⟨e, he, rfl⟩ := List.mem_map.mp hx
    obtain ⟨⟨k, hk, _⟩, _⟩ := h e he
    exact ⟨e, he, by rw [(isStr_key hk).1]; exact hk⟩
  · rintro ⟨e, he, hk⟩
    exact List.mem_map.mpr ⟨e, he, (isStr_key hk).1⟩
theorem txs_store {h : Heap} {o : Obj} {es : Array (Int × Value)} {ep : Nat} {t : SetTable} (ho : h.get? a = some o) (hex : o.ExactSet) (hd : o.data = .set es ep t)
    {es' : Array (Int × Value)} {t' : SetTable} (hel : ElemsOf (strKind P w) es'.toList) (hnd : (es'.toList.map fun e => sOf e.2).Nodup) (hb : es'.size < scanBound) (hf : t'.fits es'.size = true) (hl : t'.led = !byTxt w) (hp : t'.plain = false) :
    (h.update a (Obj.putSet es' t')).get? a = some { o with data := .set es' (ep + 1) t' } ∧ TxS P w (h.update a (Obj.putSet es' t')) a (es'.toList.map fun e => sOf e.2) := by
  have hg : (h.update a (Obj.putSet es' t')).get? a = some { o with data := .set es' (ep + 1) t' } := by
    have := Heap.get?_update_self (Obj.putSet es' t') ho (by rw [putSet_of es' t' hd]; rfl)
    rw [putSet_of es' t' hd] at this
    exact this
  exact ⟨hg, _, es', ep + 1, t', hg, hex, rfl, hel, rfl, hnd, hb, hf, hl, fun _ => hp⟩
theorem add_text {x : Str} {t0 : Tok} {Q : Bool → Shared → Prop} (hS : TxS P w s.heap a xs) (hroom : xs.length + 1 < scanBound)
    (h : ∀ b h' ys, Heap.SameBut a s.heap h' → TxS P w h' a ys → (if x ∈ xs then ys = xs else ys.Perm (xs ++ [x])) → Q b { s with heap := h' }) :
    wpAny (model P w) A (setAddHashed a (.str x t0) ((strKind P w).hash x)) Q E s := by
  obtain ⟨o, es, ep, t, ho, hex, hd, hel, exs, hnd, hb, hf, hled, hpl⟩ := id hS
  have hkey : (strKind P w).is x (.str x t0) = true := strKind_is P w x t0
  have hsc : (Value.str x t0).scannable = true := rfl
  have hn : es.size = xs.length := by rw [← exs, List.length_map, Array.length_toList]
  have hb1 : es.size + 1 < scanBound := by rw [hn]; exact hroom
  unfold setAddHashed setAddHashedIn
  refine wpAny_holding (wpAny_bind (wpAny_setState_of ho hd hf ?_))
  dsimp only
  rw [byScan_of hsc hb hel]
  simp only [↓reduceIte]
  unfold setAddByScan
  refine wpAny_bind ?_
  refine wpAny_bind (wpAny_rule ?_)
  refine wpAny_bind (wpAny_setScan_of hkey ho hd hf hel ?_)
  cases hr : List.findIdx? (fun e => (strKind P w).is x e.2) es.toList with
  | some j =>
    dsimp only
    obtain ⟨hj, hpj, _⟩ := List.findIdx?_eq_some_iff_getElem.mp hr
    have hm : x ∈ xs := by rw [← exs]; exact (elem_mem hel x).mpr ⟨_, List.getElem_mem hj, hpj⟩
    refine wpAny_pure (wpAny_pure ?_)
    have e : s = { s with heap := s.heap } := by cases s; rfl
    have := h false s.heap xs (Heap.SameBut.refl a s.heap) hS (by rw [if_pos hm])
    rw [e]
    exact this
  | none =>
    dsimp only
    have hm : ¬ x ∈ xs := fun hx => by
      rw [← exs] at hx
      obtain ⟨e, he, hp⟩ := (elem_mem hel x).mp hx
      have := List.findIdx?_eq_none_iff.mp hr e he
      rw [hp] at this
      cases this
    have hgw : ∀ (b : Bool) {s₁ : Shared} {Q' : Unit → Shared → Prop}, Q' () s₁ → wpAny (model P w) A (match b with | true => rule "set.scan.the-table-gave-way" | false => pure ()) Q' E s₁ :=
      fun b s₁ Q' hq => by cases b <;> first | exact wpAny_pure hq | exact wpAny_rule hq
    have hperm := layNew_perm t es ((strKind P w).hash x) (.str x t0)
    have hfits := layNew_fits t es ((strKind P w).hash x) (.str x t0)
    have hld := layNew_led t es ((strKind P w).hash x) (.str x t0)
    generalize hL : layNew t es ((strKind P w).hash x) (.str x t0) = L at hperm hfits hld ⊢
    obtain ⟨es1, t1, wasDummy, gave⟩ := L
    dsimp only at hperm hfits hld ⊢
    rw [Array.toList_push] at hperm
    have hel1 : ElemsOf (strKind P w) es1.toList := (hel.push hkey hsc).perm hperm
    have hp1 : (es1.toList.map fun e => sOf e.2).Perm (xs ++ [x]) := by
      have := hperm.map fun e : Int × Value => sOf e.2
      rw [List.map_append, exs] at this
      exact this
    have hnd0 : (xs ++ [x]).Nodup := List.nodup_append.mpr ⟨hnd, by simp, fun u hu v hv e => hm (by rw [List.mem_singleton.mp hv] at e; exact e ▸ hu)⟩
    have hb1' : es1.size < scanBound := by rw [← Array.length_toList, hperm.length_eq, List.length_append, Array.length_toList]; simpa using hb1
    refine wpAny_bind (hgw _ ?_)
    have tail : ∀ t2 : SetTable, t2.fits es1.size = true → t2.led = t1.led → t2.plain = false → wpAny (model P w) A (do
        storeSet a es1 t2
        if (!wasDummy && t2.tooFull) = true then do
            (match (relayAll t2 es1 (SetTable.grown es1.size)).2.2 with | true => rule "set.scan.the-table-gave-way" | false => pure ())
            storeSet a (relayAll t2 es1 (SetTable.grown es1.size)).1 (relayAll t2 es1 (SetTable.grown es1.size)).2.1
            pure (some true)
          else pure (some true)) (fun r s' => ∃ h' ys, r = some true ∧ s' = { s with heap := h' } ∧ Heap.SameBut a s.heap h' ∧ TxS P w h' a ys ∧ ys.Perm (xs ++ [x])) E s := fun t2 hf2 hl2 hp2 => by
      refine wpAny_bind (wpAny_storeSet_of ho hd ?_ (fits_of_scanBound hb1'))
      obtain ⟨hg1, hS1⟩ := txs_store (P := P) (w := w) ho hex hd hel1 (hp1.nodup_iff.mpr hnd0) hb1' hf2 (by rw [hl2, hld, hled]) hp2
      have hsb1 := Heap.SameBut.update s.heap a (Obj.putSet es1 t2)
      split
      · have hp := relayAll_perm t2 es1 (SetTable.grown es1.size)
        have hfr := relayAll_fits t2 es1 (SetTable.grown es1.size)
        have hkp := relay_keeps t2 es1 (SetTable.grown es1.size)
        generalize hRl : relayAll t2 es1 (SetTable.grown es1.size) = Rl at hp hfr hkp ⊢
        obtain ⟨es2, t3, gave2⟩ := Rl
        dsimp only at hp hfr hkp ⊢
        have hel2 : ElemsOf (strKind P w) es2.toList := hel1.perm hp
        have hsz : es2.size = es1.size := by rw [← Array.length_toList, hp.length_eq, Array.length_toList]
        have hb2 : es2.size < scanBound := by rw [hsz]; exact hb1'
        have hp3 : (es2.toList.map fun e => sOf e.2).Perm (xs ++ [x]) := (hp.map _).trans hp1
        refine wpAny_bind (hgw _ ?_)
        refine wpAny_bind (wpAny_storeSet_of hg1 rfl ?_ (fits_of_scanBound hb2))
        obtain ⟨_, hS2⟩ := txs_store (P := P) (w := w) hg1 hex rfl hel2 (hp3.nodup_iff.mpr hnd0) hb2 hfr (by rw [hkp.1, hl2, hld, hled]) (hkp.2 hp2)
        exact wpAny_pure ⟨_, _, rfl, rfl, hsb1.trans (Heap.SameBut.update _ a _), hS2, hp3⟩
      · exact wpAny_pure ⟨_, _, rfl, rfl, hsb1, hS1, hp1⟩
    split
    · rename_i hpl1
      refine wpAny_bind ?_
      rw [hashByValue_scannable 8 hsc]
      refine wpAny_pure ?_
      refine wpAny_mono (tail _ (SetTable.fits_plain_off hfits) rfl rfl) (fun r s' z => ?_) fun e s' z => z
      obtain ⟨h', ys, rfl, rfl, h1, h2, h3⟩ := z
      exact wpAny_pure (h true h' ys h1 h2 (by rw [if_neg hm]; exact h3))
    · rename_i hpl1
      refine wpAny_bind (wpAny_pure ?_)
      simp only [↓reduceIte]
      refine wpAny_mono (tail t1 hfits rfl (by simpa using hpl1)) (fun r s' z => ?_) fun e s' z => z
      obtain ⟨h', ys, rfl, rfl, h1, h2, h3⟩ := z
      exact wpAny_pure (h true h' ys h1 h2 (by rw [if_neg hm]; exact h3))
end
theorem TxS.keep {P : Program} {w : World} {h h' : Heap} {a : Addr} {xs : List Str} (x : TxS P w h a xs) (k : ∀ o, h.get? a = some o → h'.get? a = some o) : TxS P w h' a xs := by
  obtain ⟨o, es, ep, t, ho, r⟩ := x
  exact ⟨o, es, ep, t, k o ho, r⟩
section
variable {prog : Program} {w : World} {A : Around} {R : Result → Shared → Prop} {I : Addr} {fp wr : List Addr} {G : Array GenState → Array GenState → Prop} {n : Nat} {P : Nat → Value → Prop} {St : Nat → Shared → Prop}
def InS (val : Nat → Str) (i : Nat) (ys : List Str) : Prop := (∀ x, x ∈ ys ↔ ∃ j, j < i ∧ val j = x) ∧ ys.length ≤ i
theorem InS.next {val : Nat → Str} {i : Nat} {ys zs : List Str} (h : InS val i ys) (e : if val i ∈ ys then zs = ys else zs.Perm (ys ++ [val i])) : InS val (i + 1) zs := by
  have step : ∀ x, (∃ j, j < i + 1 ∧ val j = x) ↔ (∃ j, j < i ∧ val j = x) ∨ x = val i := fun x => by
    constructor
    · rintro ⟨j, hj, rfl⟩
      rcases Nat.lt_or_ge j i with h1 | h1
      · exact .inl ⟨j, h1, rfl⟩
      · exact .inr (by rw [show j = i by omega])
    · rintro (⟨j, hj, rfl⟩ | rfl)
      · exact ⟨j, by omega, rfl⟩
      · exact ⟨i, Nat.lt_succ_self _, rfl⟩
  by_cases c : val i ∈ ys
  · rw [if_pos c] at e
    subst e
    refine ⟨fun x => ?_, Nat.le_succ_of_le h.2⟩
    rw [step, ← h.1 x]
    exact ⟨.inl, fun z => z.elim id fun q => q ▸ c⟩
  · rw [if_neg c] at e
    refine ⟨fun x => ?_, ?_⟩
    · rw [step, e.mem_iff, List.mem_append, List.mem_singleton, h.1 x]
    · rw [e.length_eq, List.length_append]
      exact Nat.succ_le_succ h.2
theorem set_loop (W : WalksS prog w A.in1 I fp wr G n P St) (S : Addr) (hSf : S ∉ fp) (val : Nat → Str) (hval : ∀ i v, P i v → ∃ t, v = .str (val i) t) (hb : n + 1 < scanBound) :
    ∀ (k i : Nat) (s : Shared) (ys : List Str), n - i = k → i ≤ n → St i s → TxS prog w s.heap S ys → InS val i ys →
      (∀ s' zs, Moved (S :: wr) G s s' → TxS prog w s'.heap S zs → InS val n zs → R (.ok (.ret .none)) s') →
      codeAny (model prog w) A (.builtin "set.update.loop" ⟨[.ref S, .ref I], []⟩) R s := by
  have hSw : S ∉ wr := fun h => hSf (W.sub _ h)
  have hsub : ∀ b ∈ wr, b ∈ S :: wr := fun b hb => List.mem_cons_of_mem _ hb
  intro k
  induction k with
  | zero =>
    intro i s ys hk hi hst hS hin hR
    have e : i = n := by omega
    subst e
    refine codeAny_builtin F.entry_set_update_loop ?_
    rw [Around.under_plainId F.plain_set_update_loop _]
    show wpAny _ A.in1 (pyNext (.ref I) >>= _) _ _ s
    refine wpAny_bind (W.done s _ _ hst fun s' hm => ?_)
    show wpAny _ A.in1 (ret Value.none) _ _ s'
    exact wpAny_pure (hR s' ys (hm.mono hsub) (hS.keep fun o e => hm.heap S o hSw e) hin)
  | succ k ih =>
    intro i s ys hk hi hst hS hin hR
    have hlt : i < n := by omega
    refine codeAny_builtin F.entry_set_update_loop ?_
    rw [Around.under_plainId F.plain_set_update_loop _]
    show wpAny _ A.in1 (pyNext (.ref I) >>= _) _ _ s
    refine wpAny_bind (W.item i s _ _ hlt hst fun v s' hP hst' hm => ?_)
    obtain ⟨t, rfl⟩ := hval i v hP
    have hS' : TxS prog w s'.heap S ys := hS.keep fun o e => hm.heap S o hSw e
    show wpAny _ A.in1 (holding [Value.str (val i) t] (setAdd S (.str (val i) t)) >>= _) _ _ s'
    refine wpAny_bind (wpAny_holding ?_)
    unfold setAdd
    refine wpAny_holding ?_
    refine wpAny_bind ((strKind prog w).pyHash (k := val i) (strKind_is _ _ _ _) ?_)
    refine add_text (s := { s' with toks := s'.toks + 1 }) hS' (by have := hin.2; omega) fun b h' zs hsb hS2 hz => ?_
    refine wpAny_pure ⟨plainId_quiet F.plain_set_update_loop _, ih (i + 1) _ zs (by omega) hlt (W.frame _ s' _ _ hst' (Nat.le_succ _) fun b hb o e => ?_) hS2 (hin.next hz) fun s'' us hm'' hS'' hu => ?_⟩
    · rw [hsb.2 b (fun h : b = S => hSf (by rw [← h]; exact hb))]
      exact e
    · refine hR s'' us (Moved.trans W.gtrans ((hm.mono hsub).then_heap (Nat.le_succ _) fun b o hb e => ?_) hm'') hS'' hu
      rw [hsb.2 b (fun h : b = S => hb (by rw [h]; exact List.mem_cons_self))]
      exact e
end
theorem code_set_newT {prog : Program} {w : World} {A : Around} {E : Value → Shared → Prop} {s : Shared} (a : Value) {Q₁ : Value → Shared → Prop}
    (h : Q₁ (.ref s.heap.objs.size) { s with heap := s.heap.push { cls := .type "set", dict := none, data := .set #[] 0 (.fresh 0 0 (!byTxt w)) } }) :
    codeAny (model prog w) A (.call (.builtin "set.__new__") ⟨[.type "set", a], []⟩) (wants Q₁ E) s := by
  refine codeAny_of_tree ?_
  show wpAny _ A.in1 (do checkBuiltinCall "set.__new__" ⟨[.type "set", a], []⟩; again (.builtin "set.__new__" ⟨[.type "set", a], []⟩)) _ _ s
  refine wpAny_bind (wpAny_of_eq (PySem.F.newCall_set_1 a) (wpAny_pure ⟨plainId_quiet F.plain_set_new _, codeAny_builtin F.entry_set_new ?_⟩))
  rw [Around.under_plainId F.plain_set_new _]
  unfold Builtin.«set.__new__» Builtin.Frozenset.newClass
  have hsub := sub_set_self
  obtain ⟨hp, g, d, tk, os⟩ := s
  dsimp only
  wp_walk
  refine wpAny_askSetting (wpAny_pure ?_)
  dsimp only
  simp only [newObj]
  refine wpAny_bind (wpAny_alloc (wpAny_pure ?_))
  exact wpAny_pure h
theorem txs_fresh {P : Program} {w : World} {h : Heap} {a : Addr} (e : h.get? a = some { cls := .type "set", dict := none, data := .set #[] 0 (.fresh 0 0 (!byTxt w)) }) : TxS P w h a [] :=
  ⟨_, #[], 0, _, e, ⟨rfl, rfl, rfl⟩, rfl, fun e he => by simp at he, rfl, List.nodup_nil, by decide, by rfl, rfl, fun z => absurd z (by decide)⟩
theorem str_at {vs : List Value} {ws : List Str} (h : StrsAre vs ws) (i : Nat) (v : Value) (e : vs[i]? = some v) : ∃ t, v = .str (ws.getD i "") t := by
  induction h generalizing i with
  | nil => simp at e
  | cons x t hr ih =>
    cases i with
    | zero =>
      simp at e
      exact ⟨t, e.symm⟩
    | succ i => exact ih i (by simpa using e)
theorem sub_list_set' : isSubtype (.type "list") (.type "set") = pure false := by rw [isSubtype_type]; kernel_rfl
theorem sub_list_frozenset' : isSubtype (.type "list") (.type "frozenset") = pure false := by rw [isSubtype_type]; kernel_rfl
section
variable {prog : Program} {w : World} {A : Around} {E : Value → Shared → Prop} {s : Shared}
set_option maxHeartbeats 3200000 in
theorem setT_list {l : Addr} {items : Array Value} {ws : List Str} {Q : Value → Shared → Prop} (hh : A.handled = none) (hl : s.heap.IsList l items) (hi : StrsAre items.toList ws) (hb : items.size + 1 < scanBound)
    (h : ∀ (h' : Heap) (tk : Nat) (ys : List Str), TxS prog w h' s.heap.objs.size ys → InS (fun i => ws.getD i "") items.size ys → (∀ b o, b < s.heap.objs.size → s.heap.get? b = some o → h'.get? b = some o) → Q (.ref s.heap.objs.size) { s with heap := h', toks := tk }) :
    wpAny (model prog w) A (call (.type "set") [.ref l]) Q E s := by
  obtain ⟨c, tl, hmro⟩ := PySem.F.called_set.mro
  have hmade := PySem.F.called_set.made
  have hsub := PySem.F.called_set.sub
  refine wpAny_call (codeAny_of_tree ?_)
  show wpAny _ _ (callAny (.type "set") _) _ _ _
  refine wpAny_pure ⟨Code.quiet_builtin _ (by decide +kernel), codeAny_builtin PySem.F.entry_type_call ?_⟩
  rw [Around.under_plain (weight_type_call_type "set" [.ref l] []) rfl]
  have h1 := PySem.F.called_set.notType
  have h2 := PySem.F.called_set.canCreate
  have hct := PySem.F.typeCall_set_1 (.ref l)
  repeat (any_goals (first | assumption | wp_step))
  refine codeAny_mono (code_set_newT (.ref l) (E := E) (Q₁ := fun obj s₁ => obj = .ref s.heap.objs.size ∧ s₁ = { s with heap := s.heap.push { cls := .type "set", dict := none, data := .set #[] 0 (.fresh 0 0 (!byTxt w)) } }) ⟨rfl, rfl⟩) fun r s₁ hr => ?_
  cases r with
  | error e => exact hr
  | ok fl =>
    cases fl with
    | ret obj =>
      obtain ⟨rfl, rfl⟩ := hr
      have hS : (s.heap.push { cls := .type "set", dict := none, data := .set #[] 0 (.fresh 0 0 (!byTxt w)) }).get? s.heap.objs.size = some { cls := .type "set", dict := none, data := .set #[] 0 (.fresh 0 0 (!byTxt w)) } := Heap.get?_push_size _ rfl
      have hT : Shared.TypeIs { s with heap := s.heap.push { cls := .type "set", dict := none, data := .set #[] 0 (.fresh 0 0 (!byTxt w)) } } (.ref s.heap.objs.size) "set" := ⟨_, hS, rfl⟩
      have hli := PySem.F.called_set.init.lookup
      have hbi := PySem.F.called_set.init.bind (.ref s.heap.objs.size)
      repeat (any_goals (first | assumption | wp_step))
      refine codeAny_mono (codeAny_call_builtin (R := wants (fun r s₂ => r = .none ∧ ∃ h' tk ys, s₂ = { s with heap := h', toks := tk } ∧ TxS prog w h' s.heap.objs.size ys ∧ InS (fun i => ws.getD i "") items.size ys ∧
          (∀ b o, b < s.heap.objs.size → s.heap.get? b = some o → h'.get? b = some o)) E) PySem.F.called_set.init.plain PySem.F.entry_set_init (check_set_init_1 hT ?_)) fun r₂ s₂ hr₂ => ?_
      · obtain ⟨ol, hol, hcl, nl, hdl⟩ := hl
        obtain ⟨ocls, odict, odata, oslots⟩ := ol
        simp only at hcl hdl
        subst hcl; subst hdl
        have hol' : (s.heap.push { cls := .type "set", dict := none, data := .set #[] 0 (.fresh 0 0 (!byTxt w)) }).get? l = some { cls := .type "list", dict := odict, data := .seq items nl, slots := oslots } := Heap.get?_push_of_some _ hol
        have hsls := sub_list_set'
        have hslf := sub_list_frozenset'
        have hne : (Value.type "list" == Value.type "dict") = false := by decide
        have hl1 : (s.heap.push { cls := .type "set", dict := none, data := .set #[] 0 (.fresh 0 0 (!byTxt w)) }).IsList l items := ⟨_, hol', rfl, nl, rfl⟩
        unfold Builtin.«set.__init__» noKeywords Builtin.Frozenset.updateFrom
        generalize hPI : pyIter = PI
        wp_walk
        subst hPI
        refine wpAny_pyIter_list hl1 ?_
        refine wpAny_bind (wpAny_runValue ?_)
        have hlS : l < s.heap.objs.size := Heap.lt_size hol
        have hh3 : A.in1.in1.in1.handled = none := by simp [hh]
        have hneI : l ≠ (s.heap.push { cls := .type "set", dict := none, data := .set #[] 0 (.fresh 0 0 (!byTxt w)) }).objs.size := by
          rw [Heap.size_push]; exact Nat.ne_of_lt (Nat.lt_succ_of_lt hlS)
        have hSf : s.heap.objs.size ∉ [(s.heap.push { cls := .type "set", dict := none, data := .set #[] 0 (.fresh 0 0 (!byTxt w)) }).objs.size, l] := by
          rw [Heap.size_push]; simp only [List.mem_cons, List.mem_singleton, List.not_mem_nil, or_false, not_or]
          exact ⟨Nat.ne_of_lt (Nat.lt_succ_self _), Nat.ne_of_gt hlS⟩
        have hval : ∀ (i : Nat) (v : Value), items[i]? = some v → ∃ t, v = .str ((fun i => ws.getD i "") i) t := fun i v hv => str_at hi i v (by rw [Array.getElem?_toList]; exact hv)
        refine set_loop ((Walks.list hh3 _ l hneI items).toS) s.heap.objs.size hSf (fun i => ws.getD i "") hval hb (items.size - 0) 0 _ [] (by omega) (Nat.zero_le _)
          ⟨⟨_, Heap.get?_push_size _ rfl, rfl, rfl⟩, (hl1.push _)⟩ (txs_fresh (Heap.get?_push_of_some _ hS)) ⟨fun x => ⟨(fun z => nomatch z), fun ⟨j, z, _⟩ => absurd z (Nat.not_lt_zero _)⟩, Nat.le_refl _⟩ ?hR
        case hR =>
          intro s' zs hm hS' hz
          obtain ⟨h', g', d', tk', os'⟩ := s'
          have eg : g' = s.gens := hm.gens
          have ed : d' = s.drawn := hm.drawn
          have eo : os' = s.os := hm.os
          subst eg; subst ed; subst eo
          show wpAny _ _ _ _ _ _
          refine wpAny_pure ?_
          show wpAny _ _ (ret Value.none) _ _ _
          refine wpAny_pure ⟨rfl, h', tk', zs, rfl, hS', hz, fun b o hb e => ?_⟩
          have hb1 : b ≠ s.heap.objs.size := Nat.ne_of_lt hb
          have hb2 : b ≠ (s.heap.push { cls := .type "set", dict := none, data := .set #[] 0 (.fresh 0 0 (!byTxt w)) }).objs.size := by
            rw [Heap.size_push]; exact Nat.ne_of_lt (Nat.lt_succ_of_lt hb)
          exact hm.heap b o (by simp only [List.mem_cons, List.mem_singleton, List.not_mem_nil, or_false, not_or]; exact ⟨hb1, hb2⟩) (Heap.get?_push_of_some _ (Heap.get?_push_of_some _ e))
      · cases r₂ with
        | error e => exact hr₂
        | ok fl₂ =>
          cases fl₂ with
          | ret r =>
            obtain ⟨rfl, h', tk, ys, rfl, hS', hz, hk'⟩ := hr₂
            repeat (any_goals (first | assumption | wp_step))
            exact h _ _ _ hS' hz hk'
          | _ => exact hr₂.elim
    | _ => exact hr.elim
end
theorem sub_tuple_set' : isSubtype (.type "tuple") (.type "set") = pure false := by rw [isSubtype_type]; kernel_rfl
theorem sub_tuple_frozenset' : isSubtype (.type "tuple") (.type "frozenset") = pure false := by rw [isSubtype_type]; kernel_rfl
section
variable {prog : Program} {w : World} {A : Around} {E : Value → Shared → Prop} {s : Shared}
set_option maxHeartbeats 3200000 in
theorem setT_tuple {l : Addr} {items : Array Value} {ws : List Str} {Q : Value → Shared → Prop} (hh : A.handled = none) (hl : s.heap.IsTuple l items) (hi : StrsAre items.toList ws) (hb : items.size + 1 < scanBound)
    (h : ∀ (h' : Heap) (tk : Nat) (ys : List Str), TxS prog w h' s.heap.objs.size ys → InS (fun i => ws.getD i "") items.size ys → (∀ b o, b < s.heap.objs.size → s.heap.get? b = some o → h'.get? b = some o) → Q (.ref s.heap.objs.size) { s with heap := h', toks := tk }) :
    wpAny (model prog w) A (call (.type "set") [.ref l]) Q E s := by
  obtain ⟨c, tl, hmro⟩ := PySem.F.called_set.mro
  have hmade := PySem.F.called_set.made
  have hsub := PySem.F.called_set.sub
  refine wpAny_call (codeAny_of_tree ?_)
  show wpAny _ _ (callAny (.type "set") _) _ _ _
  refine wpAny_pure ⟨Code.quiet_builtin _ (by decide +kernel), codeAny_builtin PySem.F.entry_type_call ?_⟩
  rw [Around.under_plain (weight_type_call_type "set" [.ref l] []) rfl]
  have h1 := PySem.F.called_set.notType
  have h2 := PySem.F.called_set.canCreate
  have hct := PySem.F.typeCall_set_1 (.ref l)
  repeat (any_goals (first | assumption | wp_step))
  refine codeAny_mono (code_set_newT (.ref l) (E := E) (Q₁ := fun obj s₁ => obj = .ref s.heap.objs.size ∧ s₁ = { s with heap := s.heap.push { cls := .type "set", dict := none, data := .set #[] 0 (.fresh 0 0 (!byTxt w)) } }) ⟨rfl, rfl⟩) fun r s₁ hr => ?_
  cases r with
  | error e => exact hr
  | ok fl =>
    cases fl with
    | ret obj =>
      obtain ⟨rfl, rfl⟩ := hr
      have hS : (s.heap.push { cls := .type "set", dict := none, data := .set #[] 0 (.fresh 0 0 (!byTxt w)) }).get? s.heap.objs.size = some { cls := .type "set", dict := none, data := .set #[] 0 (.fresh 0 0 (!byTxt w)) } := Heap.get?_push_size _ rfl
      have hT : Shared.TypeIs { s with heap := s.heap.push { cls := .type "set", dict := none, data := .set #[] 0 (.fresh 0 0 (!byTxt w)) } } (.ref s.heap.objs.size) "set" := ⟨_, hS, rfl⟩
      have hli := PySem.F.called_set.init.lookup
      have hbi := PySem.F.called_set.init.bind (.ref s.heap.objs.size)
      repeat (any_goals (first | assumption | wp_step))
      refine codeAny_mono (codeAny_call_builtin (R := wants (fun r s₂ => r = .none ∧ ∃ h' tk ys, s₂ = { s with heap := h', toks := tk } ∧ TxS prog w h' s.heap.objs.size ys ∧ InS (fun i => ws.getD i "") items.size ys ∧
          (∀ b o, b < s.heap.objs.size → s.heap.get? b = some o → h'.get? b = some o)) E) PySem.F.called_set.init.plain PySem.F.entry_set_init (check_set_init_1 hT ?_)) fun r₂ s₂ hr₂ => ?_
      · obtain ⟨ol, hol, hcl, nl, hdl⟩ := hl
        obtain ⟨ocls, odict, odata, oslots⟩ := ol
        simp only at hcl hdl
        subst hcl; subst hdl
        have hol' : (s.heap.push { cls := .type "set", dict := none, data := .set #[] 0 (.fresh 0 0 (!byTxt w)) }).get? l = some { cls := .type "tuple", dict := odict, data := .seq items nl, slots := oslots } := Heap.get?_push_of_some _ hol
        have hsls := sub_tuple_set'
        have hslf := sub_tuple_frozenset'
        have hne : (Value.type "tuple" == Value.type "dict") = false := by decide
        have hl1 : (s.heap.push { cls := .type "set", dict := none, data := .set #[] 0 (.fresh 0 0 (!byTxt w)) }).IsTuple l items := ⟨_, hol', rfl, nl, rfl⟩
        unfold Builtin.«set.__init__» noKeywords Builtin.Frozenset.updateFrom
        generalize hPI : pyIter = PI
        wp_walk
        subst hPI
        refine wpAny_pyIter_tuple hl1 ?_
        refine wpAny_bind (wpAny_runValue ?_)
        have hlS : l < s.heap.objs.size := Heap.lt_size hol
        have hh3 : A.in1.in1.in1.handled = none := by simp [hh]
        have hneI : l ≠ (s.heap.push { cls := .type "set", dict := none, data := .set #[] 0 (.fresh 0 0 (!byTxt w)) }).objs.size := by
          rw [Heap.size_push]; exact Nat.ne_of_lt (Nat.lt_succ_of_lt hlS)
        have hSf : s.heap.objs.size ∉ [(s.heap.push { cls := .type "set", dict := none, data := .set #[] 0 (.fresh 0 0 (!byTxt w)) }).objs.size, l] := by
          rw [Heap.size_push]; simp only [List.mem_cons, List.mem_singleton, List.not_mem_nil, or_false, not_or]
          exact ⟨Nat.ne_of_lt (Nat.lt_succ_self _), Nat.ne_of_gt hlS⟩
        have hval : ∀ (i : Nat) (v : Value), items[i]? = some v → ∃ t, v = .str ((fun i => ws.getD i "") i) t := fun i v hv => str_at hi i v (by rw [Array.getElem?_toList]; exact hv)
        refine set_loop ((Walks.tuple hh3 _ l hneI items).toS) s.heap.objs.size hSf (fun i => ws.getD i "") hval hb (items.size - 0) 0 _ [] (by omega) (Nat.zero_le _)
          ⟨⟨_, Heap.get?_push_size _ rfl, rfl, rfl⟩, (hl1.push _)⟩ (txs_fresh (Heap.get?_push_of_some _ hS)) ⟨fun x => ⟨(fun z => nomatch z), fun ⟨j, z, _⟩ => absurd z (Nat.not_lt_zero _)⟩, Nat.le_refl _⟩ ?hR
        case hR =>
          intro s' zs hm hS' hz
          obtain ⟨h', g', d', tk', os'⟩ := s'
          have eg : g' = s.gens := hm.gens
          have ed : d' = s.drawn := hm.drawn
          have eo : os' = s.os := hm.os
          subst eg; subst ed; subst eo
          show wpAny _ _ _ _ _ _
          refine wpAny_pure ?_
          show wpAny _ _ (ret Value.none) _ _ _
          refine wpAny_pure ⟨rfl, h', tk', zs, rfl, hS', hz, fun b o hb e => ?_⟩
          have hb1 : b ≠ s.heap.objs.size := Nat.ne_of_lt hb
          have hb2 : b ≠ (s.heap.push { cls := .type "set", dict := none, data := .set #[] 0 (.fresh 0 0 (!byTxt w)) }).objs.size := by
            rw [Heap.size_push]; exact Nat.ne_of_lt (Nat.lt_succ_of_lt hb)
          exact hm.heap b o (by simp only [List.mem_cons, List.mem_singleton, List.not_mem_nil, or_false, not_or]; exact ⟨hb1, hb2⟩) (Heap.get?_push_of_some _ (Heap.get?_push_of_some _ e))
      · cases r₂ with
        | error e => exact hr₂
        | ok fl₂ =>
          cases fl₂ with
          | ret r =>
            obtain ⟨rfl, h', tk, ys, rfl, hS', hz, hk'⟩ := hr₂
            repeat (any_goals (first | assumption | wp_step))
            exact h _ _ _ hS' hz hk'
          | _ => exact hr₂.elim
    | _ => exact hr.elim
end
end L2
namespace L2
open PySem PySem.Spec PyProof.Rows PySem.W
theorem erase_perm {α : Type} : ∀ (l : List α) (i : Nat) (h : i < l.length), (l[i] :: l.eraseIdx i).Perm l
  | x :: r, 0, _ => .refl _
  | x :: r, i + 1, h => (List.Perm.swap x _ _).trans (List.Perm.cons x (erase_perm r i (Nat.lt_of_succ_lt_succ h)))
section
variable {M : Model} {A : Around} {E : Value → Shared → Prop}
theorem choose_any {s : Shared} {src : Source} {n : Nat} {Q : Nat → Shared → Prop} (hn : n ≠ 0) (h : ∀ i d, i < n → Q i { s with drawn := d }) : wpAny M A (choose src n) Q E s :=
  fun _ _ _ => ⟨hn, h _ _ (Nat.mod_lt _ (Nat.pos_of_ne_zero hn))⟩
theorem draw_any {α : Type} : ∀ (n : Nat) (xs : List α) (s : Shared) (Q : List α → Shared → Prop), n = xs.length → (∀ ys d, ys.Perm xs → Q ys { s with drawn := d }) → wpAny M A (drawOrder n xs) Q E s
  | 0, xs, s, Q, e, h => by
    have : xs = [] := List.length_eq_zero_iff.mp e.symm
    subst this
    exact wpAny_pure (h [] s.drawn (.refl _))
  | n + 1, [], s, Q, e, h => by cases e
  | n + 1, x :: r, s, Q, e, h => by
    unfold drawOrder
    refine wpAny_bind (choose_any (by simp) fun i d hi => ?_)
    have hx : (x :: r)[i]? = some (x :: r)[i] := List.getElem?_eq_getElem hi
    rw [hx]
    dsimp only
    refine wpAny_bind (draw_any n _ _ _ (by rw [List.length_eraseIdx, if_pos hi]; exact (Nat.succ.inj e)) fun ys d2 hp => wpAny_pure ?_)
    exact h _ d2 ((List.Perm.cons _ hp).trans (erase_perm _ _ hi))
end
theorem pick_go {α : Type} (next : Nat → Nat) : ∀ (n k : Nat) (left : List α) (out : Array α), n = left.length → (pickOrder.go next n k left out).toList.Perm (out.toList ++ left)
  | 0, k, left, out, e => by
    have : left = [] := List.length_eq_zero_iff.mp e.symm
    subst this
    unfold pickOrder.go
    rw [List.append_nil]
  | n + 1, k, left, out, e => by
    unfold pickOrder.go
    have hi : next k % left.length < left.length := Nat.mod_lt _ (by omega)
    rw [List.getElem?_eq_getElem hi]
    dsimp only
    refine (pick_go next n (k + 1) _ _ (by rw [List.length_eraseIdx, if_pos hi]; omega)).trans ?_
    rw [Array.toList_push, List.append_assoc]
    exact List.Perm.append_left _ (erase_perm _ _ hi)
theorem pick_perm {α : Type} (next : Nat → Nat) (xs : Array α) : (pickOrder next xs).toList.Perm xs.toList := by
  unfold pickOrder
  have := pick_go next xs.size 0 xs.toList #[] (by simp)
  simpa using this
section
variable {prog : Program} {w : World} {A : Around} {E : Value → Shared → Prop} {s : Shared} {a : Addr}
theorem wp_setDrawn {o : Obj} {es : Array (Int × Value)} {ep : Nat} {t : SetTable} {Q : Bool → Shared → Prop} (ho : s.heap.get? a = some o) (hd : o.data = .set es ep t) (hf : t.fits es.size = true) (h : Q (!byTxt w && (!t.plain && decide (es.size > 1))) s) :
    wpAny (model prog w) A (setDrawn a) Q E s := by
  unfold setDrawn setsByText
  refine wpAny_bind (wpAny_setState_of ho hd hf ?_)
  exact wpAny_bind (wpAny_bind (wpAny_askSetting (wpAny_pure (wpAny_pure h))))
end
end L2
namespace L2
open PySem PySem.Spec PyProof.Rows PySem.W
theorem slot_si_next : Slot "set_iterator" "__next__" "set_iterator.__next__" :=
  .of (owner := "set_iterator") (n := "__next__") (by rw [typeLookup_type, builtinLookup_eq_fast]; kernel_rfl) (by decide +kernel) (by decide +kernel) (by decide +kernel)
    (by first | exact .inl (by decide +kernel) | exact .inr (by decide +kernel)) (by rw [isSubtype_type]; kernel_rfl)
theorem entry_si_next : entryFor table "set_iterator.__next__" = some Builtin.«set_iterator.__next__» := entryFor_of_tree (by kernel_rfl)
theorem owner_si : Manifest.owners.lookup (String.ofList ['r', 'o', 't', 'a', 'r', 'e', 't', 'i', '_', 't', 'e', 's'].reverse) = some Manifest.sig_set_iterator := by kernel_rfl
theorem args_si_next (a : Value) : argsOk "set_iterator.__next__" ⟨[a], []⟩ := by
  unfold argsOk
  rw [signature?_of (id := "set_iterator.__next__") (n := ['_', '_', 't', 'x', 'e', 'n', '_', '_']) (o := ['r', 'o', 't', 'a', 'r', 'e', 't', 'i', '_', 't', 'e', 's']) (by kernel_rfl) owner_si]
  kernel_rfl
theorem entry_set_iter : entryFor table "set.__iter__" = some Builtin.«frozenset.__iter__» := entryFor_alias (id' := "frozenset.__iter__") (by kernel_rfl) rfl (by decide +kernel) (by kernel_rfl)
section
variable {prog : Program} {w : World} {A : Around} {E : Value → Shared → Prop} {s : Shared} {a I : Addr} {es : Array (Int × Value)} {ep : Nat} {t : SetTable}
def siObj (first : Value) (i : Nat) (a : Addr) (n ep : Nat) : Obj := { cls := .type "set_iterator", data := .fields #[first, .int i 0, .ref a, .int n 0, .int ep 0] }
def tupOf (ps : List Nat) : Obj := { cls := .type "tuple", data := .seq (ps.map fun (i : Nat) => rawInt i).toArray }
theorem txs_iter {o : Obj} {Q : Value → Shared → Prop} (ho : s.heap.get? a = some o) (hex : o.ExactSet) (hd : o.data = .set es ep t) (hf : t.fits es.size = true) (hsz : es.size ≤ sizeLine)
    (h1 : (!byTxt w && (!t.plain && decide (es.size > 1))) = true → ∀ (ps : List Nat) (d : Drawn), ps.Perm (List.range es.size) → Q (.ref (s.heap.objs.size + 1)) { s with heap := (s.heap.push (tupOf ps)).push (siObj (.ref s.heap.objs.size) 0 a es.size ep), drawn := d })
    (h0 : (!byTxt w && (!t.plain && decide (es.size > 1))) = false → Q (.ref s.heap.objs.size) { s with heap := s.heap.push (siObj (.int 0 0) 0 a es.size ep) }) : wpAny (model prog w) A (pyIter (.ref a)) Q E s := by
  have ty : s.TypeIs (.ref a) "set" := ⟨o, ho, hex.1⟩
  refine wpAny_pyIter_slot ty PySem.F.slot_set_iter (wpAny_call_entry PySem.F.slot_set_iter ty entry_set_iter ?_ (PySem.F.args_set_iter_1 _))
  unfold Builtin.«frozenset.__iter__» Builtin.Frozenset.slot0 Builtin.Frozenset.sizeOf
  refine wpAny_bind (wpAny_bind ?_)
  show wpAny _ _ (pure (Value.ref a, ([] : List Value))) _ _ s
  refine wpAny_pure ?_
  refine wpAny_pure ?_
  refine wpAny_bind (wpAny_bind (wpAny_setEntries_of ho hd hf (wpAny_pure ?_)))
  refine wpAny_bind (wp_setDrawn ho hd hf ?_)
  have fin : ∀ (first : Value) (s2 : Shared), (∀ oo, s.heap.get? a = some oo → s2.heap.get? a = some oo) → Q (.ref s2.heap.objs.size) { s2 with heap := s2.heap.push (siObj first 0 a es.size ep) } →
      wpAny (model prog w) A.in1 (do ret (← newFields "set_iterator" [first, rawInt 0, .ref a, rawInt es.size, rawInt (← setEpoch a)])) (fun fin s' => ∃ v, fin = Fin.done (Flow.ret v) ∧ ∃ T' r, s'.TypeIs v T' ∧ typeLookup (.type T') "__next__" = pure (some r) ∧ Q v s') E s2 := fun first s2 hk hq => by
    refine wpAny_bind (wpAny_setEpoch_of (hk _ ho) hd hf ?_)
    refine wpAny_bind (wpAny_newObj_type (wpAny_pure ⟨_, rfl, "set_iterator", _, ⟨_, Heap.get?_push_size _ rfl, rfl⟩, slot_si_next.lookup, ?_⟩))
    simpa [rawInt, siObj] using hq
  cases hc : (!byTxt w && (!t.plain && decide (es.size > 1))) with
  | true =>
    simp only [if_true]
    refine wpAny_bind (draw_any es.size _ _ _ (by simp) fun ps d hp => ?_)
    simp only [newTuple]
    refine wpAny_bind (wpAny_newObj_type ?_ ?_)
    · refine fin _ _ (fun oo e => Heap.get?_push_of_some _ e) ?_
      have := h1 hc ps d hp
      show Q (.ref (s.heap.push (tupOf ps)).objs.size) { s with heap := (s.heap.push (tupOf ps)).push (siObj (.ref s.heap.objs.size) 0 a es.size ep), drawn := d }
      rw [Heap.size_push]
      exact this
    · show (List.map (fun (i : Nat) => rawInt i) ps).toArray.size ≤ sizeLine
      rw [List.size_toArray, List.length_map, hp.length_eq, List.length_range]
      exact hsz
  | false =>
    simp only [Bool.false_eq_true, if_false]
    refine wpAny_bind (wpAny_pure ?_)
    exact fin _ s (fun _ e => e) (h0 hc)
end
end L2
namespace L2
open PySem PySem.Spec PyProof.Rows PySem.W
section
variable {prog : Program} {w : World} {A : Around} {E : Value → Shared → Prop} {s : Shared} {a I T : Addr} {es : Array (Int × Value)} {ep i : Nat} {t : SetTable} {o : Obj}
theorem si_item_drawn {ps : List Nat} {p : Nat} {h : Int} {x : Value} {Q : Option Value → Shared → Prop} (hI : s.heap.get? I = some (siObj (.ref T) i a es.size ep)) (hT : s.heap.get? T = some (tupOf ps)) (ho : s.heap.get? a = some o) (hd : o.data = .set es ep t) (hf : t.fits es.size = true)
    (hp : ps[i]? = some p) (hx : es[p]? = some (h, x))
    (q : ∀ h', h'.get? I = some (siObj (.ref T) (i + 1) a es.size ep) → Heap.SameBut I s.heap h' → Q (some x) { s with heap := h' }) : wpAny (model prog w) A (pyNext (.ref I)) Q E s := by
  have ty : s.TypeIs (.ref I) "set_iterator" := ⟨_, hI, rfl⟩
  unfold pyNext
  refine wpAny_bind (wpAny_attempt (wpAny_callSpecial?_slot (name := Str.ofString "__next__") ty slot_si_next (wpAny_call_entry slot_si_next ty entry_si_next ?_ (args_si_next _))))
  unfold Builtin.«set_iterator.__next__»
  refine wpAny_bind (wpAny_pure ?_)
  refine wpAny_bind (wpAny_fieldsOf hI rfl ?_)
  dsimp only [List.toList_toArray]
  refine wpAny_bind (wpAny_setEntries_of ho hd hf ?_)
  rw [if_neg (by simp)]
  have hps : ((ps.map fun (i : Nat) => rawInt i).toArray)[i]? = some (rawInt p) := by
    rw [List.getElem?_toArray, List.getElem?_map, hp]
    rfl
  refine wpAny_bind (wpAny_seqItems hT rfl ?_)
  dsimp only
  rw [Int.toNat_natCast, hps]
  show wpAny _ _ (setNextDrawn a ((p : Int)).toNat ((ep : Int)).toNat >>= _) _ _ s
  rw [Int.toNat_natCast, Int.toNat_natCast]
  unfold setNextDrawn
  refine wpAny_bind (wpAny_bind (wpAny_setState_of ho hd hf ?_))
  dsimp only
  rw [if_neg (by simp), hx]
  refine wpAny_pure ?_
  refine wpAny_bind (wpAny_setField hI rfl (by simp) ?_)
  refine wpAny_pure ⟨_, rfl, wpAny_pure (q _ ?_ (Heap.SameBut.update ..))⟩
  have := Heap.get?_update_self (Obj.mapFields (·.setIfInBounds 1 (rawInt ((i : Int) + 1)))) hI rfl
  exact this
theorem raise_stop {Q : Option Value → Shared → Prop} (hh : A.handled = none) (q : ∀ h', (∀ b o, s.heap.get? b = some o → h'.get? b = some o) → Q none { s with heap := h' }) :
    wpAny (model prog w) A.in1 (newExc (.type "StopIteration") [] >>= raiseNew (α := Fin)) (fun fin s' => ∃ v, fin = Fin.done (Flow.ret v) ∧ wpAny (model prog w) A (pure (some v)) Q E s')
      (fun e s' => wpAny (model prog w) A (do let d ← isInstance e (.type "StopIteration"); if d = true then pure none else throw e) Q E s') s := by
  refine wpAny_bind ?_
  simp only [newExc, newTuple]
  refine wpAny_bind (wpAny_newObj_type ?_ (by size_fits))
  refine wpAny_bind (m := firstArgMember _ _) (wpAny_of_eq (a := Value.none) (by first | rfl | (simp only [firstArgMember]; rfl)) ?_)
  refine wpAny_newObj_type ?_ (by size_fits)
  simp only [raiseNew]
  refine wpAny_bind (wpAny_handled ?_)
  rw [show A.in1.handled = none from hh]
  refine wpAny_bind (wpAny_pure (wpAny_throw ?_))
  refine wpAny_bind (wpAny_isInstance (T := "StopIteration") (b := true) ⟨_, Heap.get?_push_size _ rfl, rfl⟩ isSubtype_stop ?_)
  exact wpAny_pure (q _ fun b o e => Heap.get?_push_of_some _ (Heap.get?_push_of_some _ e))
theorem si_end_drawn {ps : List Nat} {Q : Option Value → Shared → Prop} (hh : A.handled = none) (hI : s.heap.get? I = some (siObj (.ref T) i a es.size ep)) (hT : s.heap.get? T = some (tupOf ps)) (ho : s.heap.get? a = some o) (hd : o.data = .set es ep t) (hf : t.fits es.size = true)
    (hp : ps[i]? = none) (q : ∀ h', (∀ b o, b ≠ I → s.heap.get? b = some o → h'.get? b = some o) → Q none { s with heap := h' }) : wpAny (model prog w) A (pyNext (.ref I)) Q E s := by
  have ty : s.TypeIs (.ref I) "set_iterator" := ⟨_, hI, rfl⟩
  unfold pyNext
  refine wpAny_bind (wpAny_attempt (wpAny_callSpecial?_slot (name := Str.ofString "__next__") ty slot_si_next (wpAny_call_entry slot_si_next ty entry_si_next ?_ (args_si_next _))))
  unfold Builtin.«set_iterator.__next__»
  refine wpAny_bind (wpAny_pure ?_)
  refine wpAny_bind (wpAny_fieldsOf hI rfl ?_)
  dsimp only [List.toList_toArray]
  refine wpAny_bind (wpAny_setEntries_of ho hd hf ?_)
  rw [if_neg (by simp)]
  have hps : ((ps.map fun (i : Nat) => rawInt i).toArray)[i]? = none := by
    rw [List.getElem?_toArray, List.getElem?_map, hp]
    rfl
  refine wpAny_bind (wpAny_seqItems hT rfl ?_)
  dsimp only
  rw [Int.toNat_natCast, hps]
  dsimp only
  have g1 := Heap.get?_update_self (Obj.mapFields (·.setIfInBounds 0 (rawInt 0))) hI rfl
  refine wpAny_bind (wpAny_setField hI rfl (by simp) ?_)
  refine wpAny_bind (wpAny_setField g1 rfl (by simp) ?_)
  refine raise_stop hh fun h' k => q h' fun b o hb e => k b o ?_
  exact (((Heap.SameBut.update ..).trans (Heap.SameBut.update ..)).2 b hb).trans e
def NextIs (w : World) (a : Addr) (es : Array (Int × Value)) (ep : Nat) (t : SetTable) (k i : Nat) (nx : Option (Value × Nat)) : Prop :=
  (byTxt w = true ∧ nx = ((pickOrder (w.params.setOrder a ep) es)[i]?).map fun e => (e.2, k)) ∨
  (byTxt w = false ∧ (!t.plain && decide (es.size > 1)) = false ∧ (!t.led && !es.isEmpty) = false ∧ nx = match es[SetTable.below t.place k]?, t.place[SetTable.below t.place k]? with
    | some (_, x), some j => some (x, j + 1)
    | _, _ => none)
theorem si_first {k : Nat} {nx : Option (Value × Nat)} {Q : Option Value → Shared → Prop} (hh : A.handled = none) (hI : s.heap.get? I = some (siObj (.int k 0) i a es.size ep)) (ho : s.heap.get? a = some o) (hd : o.data = .set es ep t) (hf : t.fits es.size = true) (hn : NextIs w a es ep t k i nx)
    (q1 : ∀ x j h', nx = some (x, j) → h'.get? I = some (siObj (.int j 0) (i + 1) a es.size ep) → Heap.SameBut I s.heap h' → Q (some x) { s with heap := h' })
    (q0 : nx = none → ∀ h', (∀ b o, b ≠ I → s.heap.get? b = some o → h'.get? b = some o) → Q none { s with heap := h' }) : wpAny (model prog w) A (pyNext (.ref I)) Q E s := by
  have ty : s.TypeIs (.ref I) "set_iterator" := ⟨_, hI, rfl⟩
  unfold pyNext
  refine wpAny_bind (wpAny_attempt (wpAny_callSpecial?_slot (name := Str.ofString "__next__") ty slot_si_next (wpAny_call_entry slot_si_next ty entry_si_next ?_ (args_si_next _))))
  unfold Builtin.«set_iterator.__next__»
  refine wpAny_bind (wpAny_pure ?_)
  refine wpAny_bind (wpAny_fieldsOf hI rfl ?_)
  dsimp only [List.toList_toArray]
  refine wpAny_bind (wpAny_setEntries_of ho hd hf ?_)
  rw [if_neg (by simp)]
  refine wpAny_bind ?_
  have fin1 : ∀ x (j : Nat), nx = some (x, j) → wpAny (model prog w) A.in1 (do
          setField (Value.ref I) 0 (rawInt j)
          setField (Value.ref I) 1 (rawInt ((i : Int) + 1))
          ret x) (fun fin s' => ∃ v, fin = Fin.done (Flow.ret v) ∧ wpAny (model prog w) A (pure (some v)) Q E s')
        (fun e s' => wpAny (model prog w) A (do let d ← isInstance e (.type "StopIteration"); if d = true then pure none else throw e) Q E s') s := fun x j en => by
    have g1 := Heap.get?_update_self (Obj.mapFields (·.setIfInBounds 0 (rawInt j))) hI rfl
    have g2 := Heap.get?_update_self (Obj.mapFields (·.setIfInBounds 1 (rawInt ((i : Int) + 1)))) g1 rfl
    refine wpAny_bind (wpAny_setField hI rfl (by simp) ?_)
    refine wpAny_bind (wpAny_setField g1 rfl (by simp) ?_)
    exact wpAny_pure ⟨_, rfl, wpAny_pure (q1 x j _ en g2 ((Heap.SameBut.update ..).trans (Heap.SameBut.update ..)))⟩
  have fin0 : nx = none → wpAny (model prog w) A.in1 (do
          setField (Value.ref I) 2 Value.none
          let d ← newExc (Value.type "StopIteration") []
          raiseNew d) (fun fin s' => ∃ v, fin = Fin.done (Flow.ret v) ∧ wpAny (model prog w) A (pure (some v)) Q E s')
        (fun e s' => wpAny (model prog w) A (do let d ← isInstance e (.type "StopIteration"); if d = true then pure none else throw e) Q E s') s := fun en => by
    refine wpAny_bind (wpAny_setField hI rfl (by simp) ?_)
    refine raise_stop hh fun h' k => q0 en h' fun b o hb e => k b o ?_
    exact ((Heap.SameBut.update ..).2 b hb).trans e
  unfold setNext
  refine wpAny_bind (wpAny_setState_of ho hd hf ?_)
  unfold setsByText
  refine wpAny_bind (wpAny_bind (wpAny_askSetting (wpAny_pure ?_)))
  rcases hn with ⟨hb, hnx⟩ | ⟨hb, h1, h2, hnx⟩
  · rw [if_pos (show ({ program := (model prog w).prog, params := (model prog w).w.params } : Setting).params.followText "set-order" = true from hb)]
    dsimp only
    rw [if_neg (by simp)]
    unfold setWalk
    refine wpAny_bind (wpAny_bind (wpAny_setState_of ho hd hf ?_))
    unfold setsByText
    refine wpAny_bind (wpAny_bind (wpAny_askSetting (wpAny_pure ?_)))
    rw [if_pos (show ({ program := (model prog w).prog, params := (model prog w).w.params } : Setting).params.followText "set-order" = true from hb)]
    refine wpAny_bind (wpAny_askSetting (wpAny_pure (wpAny_pure ?_)))
    dsimp only
    have e' : (pickOrder ((model prog w).w.params.setOrder a ep) es)[(i : Int).toNat]? = (pickOrder (w.params.setOrder a ep) es)[i]? := by
      rw [Int.toNat_natCast]
      rfl
    rw [e']
    cases e : (pickOrder (w.params.setOrder a ep) es)[i]? with
    | none =>
      rw [e] at hnx
      exact fin0 hnx
    | some y =>
      rw [e] at hnx
      exact fin1 y.2 _ hnx
  · rw [if_neg (show ¬ ({ program := (model prog w).prog, params := (model prog w).w.params } : Setting).params.followText "set-order" = true from by rw [show ({ program := (model prog w).prog, params := (model prog w).w.params } : Setting).params.followText "set-order" = false from hb]; exact Bool.false_ne_true)]
    dsimp only
    show wpAny _ _ (if (!t.plain && decide (es.size > 1)) = true then _ else _) _ _ s
    rw [if_neg (by rw [h1]; exact Bool.false_ne_true)]
    show wpAny _ _ ((if (!t.led && !es.isEmpty) = true then unsupported _ else pure ()) >>= _) _ _ s
    rw [if_neg (by rw [h2]; exact Bool.false_ne_true)]
    refine wpAny_bind (wpAny_pure (wpAny_pure ?_))
    rw [Int.toNat_natCast]
    cases e1 : es[SetTable.below t.place k]? with
    | none =>
      rw [e1] at hnx
      exact fin0 hnx
    | some y =>
      cases e2 : t.place[SetTable.below t.place k]? with
      | none =>
        rw [e1, e2] at hnx
        exact fin0 hnx
      | some j =>
        rw [e1, e2] at hnx
        exact fin1 y.2 _ hnx
end
end L2
namespace L2
open PySem PySem.Spec PyProof.Rows PySem.W
theorem slot_si_iter : Slot "set_iterator" "__iter__" "set_iterator.__iter__" :=
  .of (owner := "set_iterator") (n := "__iter__") (by rw [typeLookup_type, builtinLookup_eq_fast]; kernel_rfl) (by decide +kernel) (by decide +kernel) (by decide +kernel)
    (by first | exact .inl (by decide +kernel) | exact .inr (by decide +kernel)) (by rw [isSubtype_type]; kernel_rfl)
theorem entry_si_iter : entryFor table "set_iterator.__iter__" = some Builtin.«dict_keyiterator.__iter__» := entryFor_alias (id' := "dict_keyiterator.__iter__") (by kernel_rfl) rfl (by decide +kernel) (by kernel_rfl)
theorem args_si_iter (a : Value) : argsOk "set_iterator.__iter__" ⟨[a], []⟩ := by
  unfold argsOk
  rw [signature?_of (id := "set_iterator.__iter__") (n := ['_', '_', 'r', 'e', 't', 'i', '_', '_']) (o := ['r', 'o', 't', 'a', 'r', 'e', 't', 'i', '_', 't', 'e', 's']) (by kernel_rfl) owner_si]
  kernel_rfl
section
variable {prog : Program} {w : World} {A : Around} {E : Value → Shared → Prop} {s : Shared} {a I T : Addr} {es : Array (Int × Value)} {ep : Nat} {t : SetTable} {o : Obj}
theorem si_self {first : Value} {i n : Nat} {Q : Value → Shared → Prop} (hI : s.heap.get? I = some (siObj first i a n ep)) (h : Q (.ref I) s) : wpAny (model prog w) A (pyIter (.ref I)) Q E s := by
  have ty : s.TypeIs (.ref I) "set_iterator" := ⟨_, hI, rfl⟩
  refine wpAny_pyIter_slot ty slot_si_iter (wpAny_call_entry slot_si_iter ty entry_si_iter ?_ (args_si_iter _))
  show wpAny _ _ (ret (.ref I)) _ _ s
  exact wpAny_pure ⟨_, rfl, "set_iterator", _, ty, slot_si_next.lookup, h⟩
theorem drawn_walks {ps : List Nat} (hh : A.handled = none) (hT : T ≠ I) (ha : a ≠ I) (hd : o.data = .set es ep t) (hf : t.fits es.size = true) (hp : ps.Perm (List.range es.size)) :
    Walks prog w A I [I, T, a] [I] es.size (fun i v => ∃ p h, ps[i]? = some p ∧ es[p]? = some (h, v)) (fun i h => h.get? I = some (siObj (.ref T) i a es.size ep) ∧ h.get? T = some (tupOf ps) ∧ h.get? a = some o) where
  sub := fun b hb => by simp at hb; simp [hb]
  frame := fun _ _ _ st hk => ⟨hk I (by simp) _ st.1, hk T (by simp) _ st.2.1, hk a (by simp) _ st.2.2⟩
  item := fun i s Q E hi st hQ => by
    have pl : ps.length = es.size := by rw [hp.length_eq, List.length_range]
    have h1 : ps[i]? = some (ps[i]'(by omega)) := List.getElem?_eq_getElem (by omega)
    have hm : ps[i]'(by omega) < es.size := List.mem_range.mp (hp.mem_iff.mp (List.getElem_mem (by omega)))
    generalize ps[i]'(by omega) = p at h1 hm
    have h2 : es[p]? = some es[p] := Array.getElem?_eq_getElem hm
    refine si_item_drawn (h := es[p].1) (x := es[p].2) st.1 st.2.1 st.2.2 hd hf h1 h2 fun h' g hs => ?_
    exact hQ _ h' s.toks ⟨p, es[p].1, h1, h2⟩ ⟨g, (hs.2 T hT).trans st.2.1, (hs.2 a ha).trans st.2.2⟩ fun b o hb e => (hs.2 b (fun z => hb (by simp [z]))).trans e
  done := fun s Q E st hQ => by
    have pl : ps.length = es.size := by rw [hp.length_eq, List.length_range]
    exact si_end_drawn hh st.1 st.2.1 st.2.2 hd hf (List.getElem?_eq_none (by omega)) fun h' k => hQ h' s.toks fun b o hb e => k b o (fun z => hb (by simp [z])) e
  self := fun _ _ _ _ st hQ => si_self st.1 hQ
theorem text_walks (hh : A.handled = none) (ha : a ≠ I) (hd : o.data = .set es ep t) (hf : t.fits es.size = true) (hb : byTxt w = true) :
    Walks prog w A I [I, a] [I] es.size (fun i v => ∃ e, (pickOrder (w.params.setOrder a ep) es)[i]? = some e ∧ v = e.2) (fun i h => h.get? I = some (siObj (.int 0 0) i a es.size ep) ∧ h.get? a = some o) where
  sub := fun b hb => by simp at hb; simp [hb]
  frame := fun _ _ _ st hk => ⟨hk I (by simp) _ st.1, hk a (by simp) _ st.2⟩
  item := fun i s Q E hi st hQ => by
    have pl : (pickOrder (w.params.setOrder a ep) es).size = es.size := by rw [← Array.length_toList, (pick_perm _ _).length_eq, Array.length_toList]
    have h1 : (pickOrder (w.params.setOrder a ep) es)[i]? = some ((pickOrder (w.params.setOrder a ep) es)[i]'(by omega)) := Array.getElem?_eq_getElem (by omega)
    refine si_first (k := 0) hh st.1 st.2 hd hf (.inl ⟨hb, rfl⟩) (fun x j h' en g hs => ?_) fun en => ?_
    · rw [h1] at en
      cases en
      exact hQ _ h' s.toks ⟨_, h1, rfl⟩ ⟨g, (hs.2 a ha).trans st.2⟩ fun b o hb e => (hs.2 b (fun z => hb (by simp [z]))).trans e
    · rw [h1] at en
      cases en
  done := fun s Q E st hQ => by
    have pl : (pickOrder (w.params.setOrder a ep) es).size = es.size := by rw [← Array.length_toList, (pick_perm _ _).length_eq, Array.length_toList]
    have h1 : (pickOrder (w.params.setOrder a ep) es)[es.size]? = none := Array.getElem?_eq_none (by omega)
    refine si_first (k := 0) hh st.1 st.2 hd hf (.inl ⟨hb, rfl⟩) (fun x j h' en g hs => ?_) fun en h' k => hQ h' s.toks fun b o hb e => k b o (fun z => hb (by simp [z])) e
    rw [h1] at en
    cases en
  self := fun _ _ _ _ st hQ => si_self st.1 hQ
theorem few_walks (hh : A.handled = none) (ha : a ≠ I) (hd : o.data = .set es ep t) (hf : t.fits es.size = true) (hb : byTxt w = false) (hl : t.led = true) (h1 : es.size ≤ 1) :
    Walks prog w A I [I, a] [I] es.size (fun i v => ∃ e, es[i]? = some e ∧ v = e.2) (fun i h => h.get? I = some (siObj (.int (((if i = 0 then 0 else t.place.getD 0 0 + 1) : Nat) : Int) 0) i a es.size ep) ∧ h.get? a = some o) where
  sub := fun b hb => by simp at hb; simp [hb]
  frame := fun _ _ _ st hk => ⟨hk I (by simp) _ st.1, hk a (by simp) _ st.2⟩
  item := fun i s Q E hi st hQ => by
    have i0 : i = 0 := by omega
    subst i0
    have ps : t.place.size = es.size := by
      unfold SetTable.fits at hf
      simp at hf
      exact hf.1
    have e1 : es[0]? = some (es[0]'(by omega)) := Array.getElem?_eq_getElem (by omega)
    have e2 : t.place[0]? = some (t.place.getD 0 0) := by
      rw [Array.getElem?_eq_getElem (by omega)]
      simp [Array.getD, show 0 < t.place.size by omega]
    have eb : SetTable.below t.place 0 = 0 := by
      unfold SetTable.below
      rw [show t.place.size = 1 by omega]
      simp [SetTable.below.go]
    refine si_first (k := 0) hh st.1 st.2 hd hf (.inr ⟨hb, by simp; omega, by rw [hl]; rfl, rfl⟩) (fun x j h' en g hs => ?_) fun en => ?_
    · rw [eb, e1, e2] at en
      cases en
      exact hQ _ h' s.toks ⟨_, e1, rfl⟩ ⟨g, (hs.2 a ha).trans st.2⟩ fun b o hb e => (hs.2 b (fun z => hb (by simp [z]))).trans e
    · rw [eb, e1, e2] at en
      cases en
  done := fun s Q E st hQ => by
    have ps : t.place.size = es.size := by
      unfold SetTable.fits at hf
      simp at hf
      exact hf.1
    refine si_first hh st.1 st.2 hd hf (.inr ⟨hb, by simp; omega, by rw [hl]; rfl, rfl⟩) (fun x j h' en g hs => ?_) fun en h' k => hQ h' s.toks fun b o hb e => k b o (fun z => hb (by simp [z])) e
    have e0 : es[SetTable.below t.place (if es.size = 0 then 0 else t.place.getD 0 0 + 1)]? = none := by
      by_cases z : es.size = 0
      · exact Array.getElem?_eq_none (by omega)
      · rw [if_neg z]
        have : SetTable.below t.place (t.place.getD 0 0 + 1) = 1 := by
          unfold SetTable.below
          rw [show t.place.size = 1 by omega]
          simp [SetTable.below.go, Array.getD, show 0 < t.place.size by omega]
        rw [this]
        exact Array.getElem?_eq_none (by omega)
    rw [e0] at en
    cases en
  self := fun _ _ _ _ st hQ => si_self st.1 hQ
end
end L2
namespace L2
open PySem PySem.Spec PyProof.Rows PySem.W
section
variable {prog : Program} {w : World} {A : Around} {E : Value → Shared → Prop} {s : Shared} {a : Addr} {xs : List Str}
theorem set_hint {Q : Bool → Shared → Prop} (hT : s.TypeIs (.ref a) "set") (h : Q false s) : wpAny (model prog w) A (Builtin.List.listLengthHint (.ref a)) Q E s := by
  unfold Builtin.List.listLengthHint
  refine wpAny_bind (wpAny_specialOf hT PySem.F.slot_set_len.lookup ?_)
  generalize hid : ("set.__len__" : String) = id0
  wp_delta
  rw [show splitId id0 = some ("set", "__len__") from by subst hid; decide +kernel]
  subst hid
  refine wpAny_bind (wpAny_isInstance (T := "set") (b := true) hT (by rw [isSubtype_type]; kernel_rfl) ?_)
  refine wpAny_ite_split (fun hab => absurd hab (by decide)) (fun _ => ?_)
  refine wpAny_ite_split (fun _ => ?_) (fun hab => absurd (by decide +kernel) hab)
  refine wpAny_bind (wpAny_typeOf hT ?_)
  exact wpAny_pure h
theorem items_map {α : Type} {L : List α} {f : α → Value} {P : Nat → Value → Prop} {acc : Array Value} {n : Nat} (hn : n = L.length) (hP : ∀ i v, P i v → ∃ e, L[i]? = some e ∧ v = f e) (ha : ItemsOf P acc n) : acc.toList = L.map f := by
  apply List.ext_getElem?
  intro j
  rw [List.getElem?_map, Array.getElem?_toList]
  cases e : acc[j]? with
  | some v =>
    obtain ⟨e', he, rfl⟩ := hP j v (ha.2 j v e)
    rw [he]
    rfl
  | none =>
    have : acc.size ≤ j := by simpa using e
    rw [ha.1] at this
    rw [List.getElem?_eq_none (by omega)]
    rfl
def GoodW (prog : Program) (w : World) (A : Around) (s : Shared) (S : Addr) (xs : List Str) (it : Value) (s1 : Shared) : Prop :=
  ∃ (J : Addr) (fp : List Addr) (n : Nat) (P : Nat → Value → Prop) (St : Nat → Heap → Prop) (h1 : Heap) (d : Drawn), it = .ref J ∧ s1 = { s with heap := h1, drawn := d } ∧ (∀ b o, s.heap.get? b = some o → h1.get? b = some o) ∧
    Walks prog w A J fp [J] n P St ∧ St 0 h1 ∧ S ∉ fp ∧ s.heap.objs.size ≤ J ∧ n ≤ sizeLine ∧ ∀ acc, ItemsOf P acc n → (acc.toList.map sOf).Perm xs ∧ ∀ v ∈ acc.toList, ∃ x t, v = .str x t
theorem set_good (hh : A.handled = none) (x : TxS prog w s.heap a xs) {S : Addr} (hS : S < s.heap.objs.size) (hSa : S ≠ a) : wpAny (model prog w) A (pyIter (.ref a)) (GoodW prog w A s S xs) E s := by
  obtain ⟨o, es, ep, t, ho, hex, hd, hel, exs, hnd, hb, hf, hled, hpl⟩ := x
  have al : a < s.heap.objs.size := Heap.lt_size ho
  have hsz : es.size ≤ sizeLine := fits_of_scanBound hb
  have strs1 : ∀ v ∈ es.toList.map (fun e => e.2), ∃ x t, v = Value.str x t := fun v hv => by
    obtain ⟨e, he, rfl⟩ := List.mem_map.mp hv
    obtain ⟨⟨k, hk, _⟩, _⟩ := hel e he
    obtain ⟨_, t, ht⟩ := isStr_key hk
    exact ⟨k, t, ht⟩
  have good : ∀ l : List Value, l.Perm (es.toList.map fun e => e.2) → (l.map sOf).Perm xs ∧ ∀ v ∈ l, ∃ x t, v = Value.str x t := fun l hp => by
    refine ⟨?_, fun v hv => strs1 v (hp.mem_iff.mp hv)⟩
    have := hp.map sOf
    rw [List.map_map] at this
    rw [← exs]
    exact this
  refine txs_iter ho hex hd hf hsz (fun hdr ps d hp => ?_) (fun hnd2 => ?_)
  · have hT : ((s.heap.push (tupOf ps)).push (siObj (.ref s.heap.objs.size) 0 a es.size ep)).get? s.heap.objs.size = some (tupOf ps) := Heap.get?_push_of_some _ (Heap.get?_push_size _ rfl)
    have hI : ((s.heap.push (tupOf ps)).push (siObj (.ref s.heap.objs.size) 0 a es.size ep)).get? (s.heap.objs.size + 1) = some (siObj (.ref s.heap.objs.size) 0 a es.size ep) := by
      have := Heap.get?_push_size (s.heap.push (tupOf ps)) (o := siObj (.ref s.heap.objs.size) 0 a es.size ep) rfl
      rwa [Heap.size_push] at this
    refine ⟨_, _, _, _, _, _, d, rfl, rfl, fun b o e => Heap.get?_push_of_some _ (Heap.get?_push_of_some _ e), drawn_walks hh (Nat.ne_of_lt (Nat.lt_succ_self _)) (Nat.ne_of_lt (Nat.lt_succ_of_lt al)) hd hf hp, ⟨hI, hT, Heap.get?_push_of_some _ (Heap.get?_push_of_some _ ho)⟩, ?_, Nat.le_succ _, hsz, fun acc ha => ?_⟩
    · simp only [List.mem_cons, List.not_mem_nil, or_false, not_or]
      exact ⟨Nat.ne_of_lt (Nat.lt_succ_of_lt hS), Nat.ne_of_lt hS, hSa⟩
    · have e := items_map (L := ps) (f := fun p => ((es[p]?).map (·.2)).getD .none) (by rw [hp.length_eq, List.length_range]) (fun i v ⟨p, h, h1, h2⟩ => ⟨p, h1, by rw [h2]; rfl⟩) ha
      refine good _ ?_
      rw [e]
      refine (hp.map _).trans ?_
      refine List.Perm.of_eq ?_
      apply List.ext_getElem?
      intro j
      have e2 : es.toList[j]? = es[j]? := Array.getElem?_toList
      rw [List.getElem?_map, List.getElem?_map, e2]
      by_cases hj : j < es.size
      · rw [List.getElem?_range hj, Array.getElem?_eq_getElem hj]
        simp [hj]
      · rw [List.getElem?_eq_none (l := List.range es.size) (by rw [List.length_range]; omega), Array.getElem?_eq_none (by omega)]
        rfl
  · have hI : (s.heap.push (siObj (.int 0 0) 0 a es.size ep)).get? s.heap.objs.size = some (siObj (.int 0 0) 0 a es.size ep) := Heap.get?_push_size _ rfl
    have sf : S ∉ [s.heap.objs.size, a] := by
      simp only [List.mem_cons, List.not_mem_nil, or_false, not_or]
      exact ⟨Nat.ne_of_lt hS, hSa⟩
    cases hbt : byTxt w with
    | true =>
      refine ⟨_, _, _, _, _, _, s.drawn, rfl, rfl, fun b o e => Heap.get?_push_of_some _ e, text_walks hh (Nat.ne_of_lt al) hd hf hbt, ⟨hI, Heap.get?_push_of_some _ ho⟩, sf, Nat.le_refl _, hsz, fun acc ha => ?_⟩
      have e := items_map (L := (pickOrder (w.params.setOrder a ep) es).toList) (f := fun e => e.2) (by rw [(pick_perm _ _).length_eq, Array.length_toList]) (fun i v ⟨e, h1, h2⟩ => ⟨e, by rw [Array.getElem?_toList]; exact h1, h2⟩) ha
      refine good _ ?_
      rw [e]
      exact (pick_perm _ _).map _
    | false =>
      have h1 : es.size ≤ 1 := by
        rw [hbt] at hnd2
        by_cases z : es.size ≤ 1
        · exact z
        · have := hpl (by omega)
          rw [this] at hnd2
          simp at hnd2
          omega
      refine ⟨_, _, _, _, _, _, s.drawn, rfl, rfl, fun b o e => Heap.get?_push_of_some _ e, few_walks hh (Nat.ne_of_lt al) hd hf hbt (by rw [hled, hbt]; rfl) h1, ⟨hI, Heap.get?_push_of_some _ ho⟩, sf, Nat.le_refl _, hsz, fun acc ha => ?_⟩
      have e := items_map (L := es.toList) (f := fun e => e.2) (by rw [Array.length_toList]) (fun i v ⟨e, h1, h2⟩ => ⟨e, by rw [Array.getElem?_toList]; exact h1, h2⟩) ha
      refine good _ ?_
      rw [e]
end
end L2
namespace L2
open PySem PySem.Spec PyProof.Rows PySem.W
section
variable {prog : Program} {w : World} {A : Around} {E : Value → Shared → Prop} {s : Shared} {a : Addr} {xs : List Str}
def StrsP (xs : List Str) (vs : List Value) : Prop := (vs.map sOf).Perm xs ∧ ∀ v ∈ vs, ∃ x t, v = .str x t
theorem set_extend {R : Result → Shared → Prop} (hh : A.handled = none) (x : TxS prog w s.heap a xs) (S : Addr) (hSa : S ≠ a) (res : Value) (c₀ : Nat) (hS : s.heap.get? S = some { cls := .type "list", data := .seq #[] c₀ })
    (hR : ∀ h' tk d acc' c', (∀ b o, b ≠ S → s.heap.get? b = some o → h'.get? b = some o) → h'.get? S = some { cls := .type "list", dict := none, data := .seq acc' c', slots := #[] } → StrsP xs acc'.toList → R (.ok (.ret res)) { s with heap := h', toks := tk, drawn := d }) :
    wpAny (model prog w) A.in1 (Builtin.List.listExtendWith (.ref S) (.ref a) res)
      (fun fin s' => match fin with | .done f => R (.ok f) s' | .again c' => c'.quiet = true ∧ codeAny (model prog w) A c' R s') (fun e s' => R (.error e) s') s := by
  obtain ⟨o, es, ep, t, ho, hex, rest⟩ := id x
  have ty : s.TypeIs (.ref a) "set" := ⟨o, ho, hex.1⟩
  unfold Builtin.List.listExtendWith
  refine wpAny_bind (wpAny_typeOf (T := "set") ty ?_)
  have h1 : Builtin.List.listSameRef (.ref S) (.ref a) = false := by simp [Builtin.List.listSameRef, hSa]
  simp only [h1, show (Value.type "set" == Value.type "list") = false by decide, show (Value.type "set" == Value.type "tuple") = false by decide, Bool.or_false, Bool.false_eq_true, if_false]
  refine wpAny_bind (wpAny_mono (set_good (A := A.in1) (E := fun e s' => R (.error e) s') hh x (Heap.lt_size hS) hSa) (fun it s1 good => ?_) fun e s' z => z)
  obtain ⟨J, fp, n, P, St, h2, d, rfl, rfl, keep, W, st, hSf, hJ, hn, hacc⟩ := good
  have hS₁ := keep _ _ hS
  have hSJ : S ≠ J := Nat.ne_of_lt (Nat.lt_of_lt_of_le (Heap.lt_size hS) hJ)
  have key : ∀ (h : Heap) (c₁ tk : Nat), St 0 h → (∀ b o, b ≠ S → h2.get? b = some o → h.get? b = some o) →
      h.get? S = some { cls := .type "list", data := .seq #[] c₁ } → codeAny (model prog w) A (.builtin "list.extend.loop" ⟨[.ref S, .ref J, res], []⟩) R { s with heap := h, toks := tk, drawn := d } := by
    intro h c₁ tk hst hk hS₁
    refine codeAny_extend_loopS W.toS hn S hSf res n 0 _ #[] c₁ rfl (Nat.zero_le _) hst hS₁ (ItemsOf.nil _) fun s' acc' c' hm hS' ha => ?_
    rw [Moved.eq_with hm]
    refine hR s'.heap s'.toks d acc' c' (fun b o hb e => hm.heap b o (fun hmem => ?_) (hk b o hb (keep b o e))) hS' (hacc acc' ha)
    rcases List.mem_cons.mp hmem with e' | hmem
    · exact hb e'
    · have z := List.mem_singleton.mp hmem
      exact absurd (Heap.lt_size e) (by rw [z]; exact Nat.not_lt.mpr hJ)
  refine wpAny_bind (wpAny_holding (set_hint ⟨o, keep _ _ ho, hex.1⟩ ?_))
  refine wpAny_ite_split (fun _ => ?_) (fun _ => wpAny_pure ⟨plainId_quiet PySem.F.plain_extend_loop _, key _ c₀ _ st (fun b o _ e => e) hS₁⟩)
  refine wpAny_bind (wpAny_rule ?_)
  refine wpAny_bind ?_
  show wpAny _ _ (updateSeq S (·.push .none) >>= fun _ => updateSeq S (·.pop)) _ _ _
  refine wpAny_bind (wpAny_updateSeq hS₁ rfl ?_)
  have hS₂ := Heap.get?_update_self (Obj.mapSeq (·.push Value.none)) hS₁ rfl
  refine wpAny_updateSeq (hz := by seq_fits) hS₂ rfl ?_
  have hS₃ := Heap.get?_update_self (Obj.mapSeq (·.pop)) hS₂ rfl
  refine wpAny_pure ⟨plainId_quiet PySem.F.plain_extend_loop _, key _ _ _ ?_ (fun b o hb e => ?_) hS₃⟩
  · refine W.frame 0 _ _ st fun b hb o e => ?_
    have hbS : b ≠ S := fun h => hSf (h ▸ hb)
    exact (Heap.get?_update_other _ _ (Ne.symm hbS)).trans ((Heap.get?_update_other _ _ (Ne.symm hbS)).trans e)
  · exact (Heap.get?_update_other _ _ (Ne.symm hb)).trans ((Heap.get?_update_other _ _ (Ne.symm hb)).trans e)
theorem set_collect {R : List Value → Shared → Prop} (hh : A.handled = none) (x : TxS prog w s.heap a xs)
    (h : ∀ (vs : List Value) (h' : Heap) (tk : Nat) (d : Drawn), StrsP xs vs → (∀ b o, s.heap.get? b = some o → h'.get? b = some o) → s.heap.objs.size ≤ h'.objs.size → R vs { s with heap := h', toks := tk, drawn := d }) : wpAny (model prog w) A (collect (.ref a)) R E s := by
  have al : a < s.heap.objs.size := by
    obtain ⟨_, _, _, _, e, _⟩ := x
    exact Heap.lt_size e
  unfold collect
  refine wpAny_bind (wpAny_runValue (codeAny_builtin entry_proto_collect' ?_))
  rw [Around.under_plainId PySem.F.plain_proto_collect _]
  show wpAny _ A.in1 (newList [] >>= fun l => again (.builtin "list.__iadd__" ⟨[l, .ref a], []⟩)) _ _ s
  refine wpAny_bind (wpAny_newObj_type ?_)
  refine wpAny_pure ⟨plainId_quiet PySem.F.plain_list_iadd _, codeAny_builtin entry_list_iadd' ?_⟩
  rw [Around.under_plainId PySem.F.plain_list_iadd _]
  have hS : (s.heap.push { cls := .type "list", data := .seq ([] : List Value).toArray }).get? s.heap.objs.size = some { cls := .type "list", data := .seq #[] } := Heap.get?_push_size _ rfl
  show wpAny _ A.in1 (Builtin.List.listExtendWith (.ref s.heap.objs.size) (.ref a) (.ref s.heap.objs.size)) _ _ _
  have key := set_extend (A := A) (prog := prog) (w := w) (xs := xs) (a := a) (s := { s with heap := s.heap.push { cls := .type "list", data := .seq ([] : List Value).toArray } }) hh (x.keep fun o e => Heap.get?_push_of_some _ e) s.heap.objs.size
    (Nat.ne_of_gt al) (.ref s.heap.objs.size) 0 hS
    (R := fun (q : Result) (s' : Shared) => ∃ (h' : Heap) (tk : Nat) (d : Drawn) (acc' : Array Value) (c' : Nat), q = .ok (.ret (.ref s.heap.objs.size)) ∧ s' = { s with heap := h', toks := tk, drawn := d } ∧ (∀ b o, s.heap.get? b = some o → h'.get? b = some o) ∧
      h'.get? s.heap.objs.size = some { cls := .type "list", dict := none, data := .seq acc' c', slots := #[] } ∧ StrsP xs acc'.toList)
    (fun h' tk d acc' c' hk hS' hacc => ⟨h', tk, d, acc', c', rfl, rfl, fun b o e => hk b o (Nat.ne_of_lt (Heap.lt_size e)) (Heap.get?_push_of_some _ e), hS', hacc⟩)
  refine wpAny_mono key (fun f s' y => ?_) fun e s' y => ?_
  · cases f with
    | done f =>
      obtain ⟨h', tk, d, acc', c', e, rfl, hk, hS', ha⟩ := y
      cases e
      show wpAny _ A (load s.heap.objs.size >>= _) _ _ _
      refine wpAny_bind (wpAny_load hS' (wpAny_pure ?_))
      exact h acc'.toList h' tk d ha hk (Nat.le_of_lt (Heap.lt_size hS'))
    | again c =>
      refine ⟨y.1, codeAny_mono y.2 fun q s2 z => ?_⟩
      obtain ⟨h', tk, d, acc', c', rfl, rfl, hk, hS', ha⟩ := z
      show wpAny _ A (load s.heap.objs.size >>= _) _ _ _
      refine wpAny_bind (wpAny_load hS' (wpAny_pure ?_))
      exact h acc'.toList h' tk d ha hk (Nat.le_of_lt (Heap.lt_size hS'))
  · obtain ⟨_, _, _, _, _, e', _⟩ := y
    cases e'
end
end L2
namespace L2
open PySem PySem.Spec PyProof.Rows PySem.W
def SetH (P : Program) (w : World) (a : Addr) (ys : List Str) : HO := .ext fun h => TxS P w h a ys
section
variable {X : Cx} {pins : List (Addr × Obj)} {σ : St} {H : Hp} {s : Shared}
theorem Inv.drew {d : Drawn} (I : Inv X pins σ H s) : Inv X pins σ H { s with drawn := d } :=
  I.step (h' := s.heap) (g' := s.gens) (d' := d) (t' := s.toks) (ch := []) (fun _ z => nomatch z) (fun _ _ _ _ _ e _ => e) (fun b o _ _ _ e _ => ⟨o.slots, e⟩) (fun _ _ _ _ n => n) (fun b o _ e => ⟨o, e⟩) (fun _ _ e => e) (fun _ _ _ e => e) (fun b ps e => ⟨#[], by rw [e]; simp⟩) (fun _ e => e) I.hok I.bare
theorem call_setS (hc : X.calm = true) (P : Program) (w : World) (K : PySem.W.Frag) (hK : X.K = K := by rfl) (hP : X.prog = P := by rfl) (hw : X.w = w := by rfl) : CallR X (.type "set") (fun xs H Q => ∃ (p : Addr) (ws : List Str), xs = [.ref p] ∧ (SqL K H p (ws.map V.str) ∨ SqT K H p (ws.map V.str)) ∧ ws.length ≤ 4000 ∧
    ∀ (l : Addr) (ys : List Str), H l = none → ys.Nodup → (∀ x, x ∈ ys ↔ x ∈ ws) → Q (.ref l) (upd H l (SetH P w l ys))) := by
  subst hK hP hw
  intro pins s σ H xs us Q I r h
  obtain ⟨p, ws, rfl, hp, hl, q⟩ := h
  obtain ⟨u, rfl, ru⟩ := vals1 r
  cases ru
  have fin : ∀ (its : List Value), its.length = ws.length → ∀ (h' : Heap) (tk : Nat) (ys : List Str), TxS X.prog X.w h' s.heap.objs.size ys → InS (fun i => ws.getD i "") its.toArray.size ys → (∀ b o, b < s.heap.objs.size → s.heap.get? b = some o → h'.get? b = some o) → EP X pins σ Q (.ref s.heap.objs.size) { s with heap := h', toks := tk } := fun its il h' tk ys hS hin keep => by
    have keep' : ∀ b o, s.heap.get? b = some o → h'.get? b = some o := fun b o e => keep b o (Heap.lt_size e) e
    have hnd : ys.Nodup := by
      obtain ⟨_, _, _, _, _, _, _, _, _, hnd, _⟩ := hS
      exact hnd
    have hex : ∃ o, h'.get? s.heap.objs.size = some o := by
      obtain ⟨o, _, _, _, e, _⟩ := hS
      exact ⟨o, e⟩
    refine ⟨.ref _, _, I.laid (a := s.heap.objs.size) (o := SetH X.prog X.w s.heap.objs.size ys) (t' := tk) keep' (Nat.le_refl _) ⟨hS, hex, fun h1 h2 z k => z.keep k⟩, rfl, q _ ys I.fresh hnd fun x => ?_⟩
    rw [hin.1 x, List.size_toArray, il]
    constructor
    · rintro ⟨j, hj, rfl⟩
      show ws.getD j "" ∈ ws
      rw [List.getD_eq_getElem?_getD, List.getElem?_eq_getElem hj]
      exact List.getElem_mem hj
    · intro hx
      obtain ⟨j, hj, e⟩ := List.getElem_of_mem hx
      refine ⟨j, hj, ?_⟩
      show ws.getD j "" = x
      rw [List.getD_eq_getElem?_getD, List.getElem?_eq_getElem hj]
      exact e
  have hh := I.ok.hd hc
  rcases hp with hp | hp
  · obtain ⟨its, rv, ⟨o, n, e, c, _, d⟩, z⟩ := I.list hp
    have il : its.length = ws.length := by rw [← rv.length, List.length_map]
    obtain ⟨_, _, e3⟩ := vals_str rv
    exact setT_list hh ⟨o, e, c, n, d⟩ (by rw [List.toList_toArray]; exact e3) (by rw [List.size_toArray, il]; unfold scanBound; omega) (fin its il)
  · obtain ⟨its, rv, ⟨o, e, c, n, d⟩, z⟩ := I.tuple hp
    have il : its.length = ws.length := by rw [← rv.length, List.length_map]
    obtain ⟨_, _, e3⟩ := vals_str rv
    exact setT_tuple hh ⟨o, e, c, n, d⟩ (by rw [List.toList_toArray]; exact e3) (by rw [List.size_toArray, il]; unfold scanBound; omega) (fin its il)
end
end L2
namespace L2
open PySem PySem.Spec PyProof.Rows PySem.W
section
variable {X : Cx}
end
end L2
namespace L2
open PySem PySem.Spec PyProof.Rows PySem.W
section
variable {X : Cx}
end
end L2
namespace L2
open PySem PySem.Spec PyProof.Rows PySem.W
section
variable {X : Cx}
end
end L2
namespace L2
open PySem PySem.Spec PyProof.Rows PySem.W
section
variable {X : Cx} {tg : Expr}
end
end L2
namespace L2
open PySem PySem.Spec PyProof.Rows
section
variable {X : Cx}
def catS (ws : List Str) : Str := ⟨(ws.flatMap (·.cps.toList)).toArray⟩
theorem app_cps (a b : Str) : (a ++ b).cps = a.cps ++ b.cps := rfl
theorem join_cat : ∀ ws : List Str, Str.join "" ws = catS ws
  | [] => rfl
  | [x] => by
    show x = ⟨_⟩
    cases x
    simp [catS]
  | x :: y :: r => by
    show x ++ "" ++ Str.join "" (y :: r) = _
    rw [join_cat (y :: r)]
    have h : ∀ a b : Str, a.cps.toList = b.cps.toList → a = b := fun a b h => by
      cases a
      cases b
      congr
      exact Array.toList_inj.mp h
    apply h
    rw [app_cps, app_cps, Array.toList_append, Array.toList_append]
    show x.cps.toList ++ ([] : List Nat) ++ _ = _
    simp [catS]
def rJoin (K : PySem.W.Frag) : V → List V → Hp → VK → Prop := fun x xs H Q => ∃ a ws, x = .str "" ∧ xs = [.ref a] ∧ SqL K H a (ws.map V.str) ∧ (ws.map (·.length)).sum ≤ 16777216 ∧ Q (.str (catS ws)) H
theorem mt_joinK (K : PySem.W.Frag) (hK : X.K = K := by rfl) : MtR X "str.join" (rJoin K) := by
  subst hK
  intro pins s σ H x xs v us Q I rx rv h
  obtain ⟨a, ws, rfl, rfl, hs, hl, q⟩ := h
  obtain ⟨t, rfl⟩ := rx
  obtain ⟨u, rfl, ru⟩ := rv.one
  cases ru
  obtain ⟨its, r, pl, _⟩ := I.list hs
  obtain ⟨_, _, e3⟩ := vals_str r
  have e : Txt.join "" ws = catS ws := by
    show Builtin.Str.glued "" ws = _
    rw [StrLaws.glued_eq_join, join_cat]
  have l0 : (Str.ofString "").length = 0 := by decide
  refine join_list (ys := ws) pl.isList (by rw [List.toList_toArray]; exact e3) (by rw [l0, Nat.mul_zero]; exact hl) fun t' k => ?_
  exact ⟨.str (catS ws), H, I.tok _, ⟨t', by rw [← e]⟩, q⟩
end
end L2
namespace L2
open PySem PySem.Spec PyProof.Rows
section
variable {prog : Program} {w : World} {A : Around} {E : Value → Shared → Prop} {s : Shared}
theorem getItem_tuple_whole {t sl : Addr} {items : Array Value} {vl vu : Value} {lo hi : Option Int} {Q : Value → Shared → Prop} (ht : IsTup s.heap t items) (hs : s.heap.IsSliceOf sl vl vu .none) (pl : IsPart vl lo) (pu : IsPart vu hi)
    (hw : HT.sIx items.size 0 lo = 0 ∧ HT.sIx items.size items.size hi = items.size) (h : Q (.ref t) s) : wpAny (model prog w) A (getItem (.ref t) (.ref sl)) Q E s := by
  obtain ⟨os, hos, hcs, hds⟩ := id hs
  have hTs : s.TypeIs (.ref sl) "slice" := ⟨os, hos, hcs⟩
  unfold getItem
  try with_reducible refine wpAny_holding ?_
  first | refine wpAny_bind (wpAny_pure ?_) | skip
  refine wpAny_bind (wpAny_sequenceKey ht.typeIs (by decide) ?_)
  refine wpAny_bind (wpAny_callSpecial?_slot (name := Str.ofString "__getitem__") ht.typeIs PyProof.Rows.slot_tuple_getitem
    (wpAny_call_entry PyProof.Rows.slot_tuple_getitem ht.typeIs entry_tuple_getitem ?_ (args_tuple_getitem _ _)))
  show wpAny _ _ (Builtin.Tuple.tupleItemsOf (.ref t) >>= _) _ _ s
  refine wpAny_bind (tupleItemsOf_ ht ?_)
  refine wpAny_bind (wpAny_typeOf hTs ?_)
  rw [if_pos (by decide)]
  refine wpAny_bind (HT.sliceApplied_gen hs pl pu ?_)
  have hyes : (((HT.sIx items.size 0 lo : Nat) : Int) == 0 && (1 : Int) == 1 && (HT.sIx items.size items.size hi - HT.sIx items.size 0 lo) == items.size) = true := by
    rw [hw.1, hw.2]
    simp
  show wpAny _ _ (if (((HT.sIx items.size 0 lo : Nat) : Int) == 0 && (1 : Int) == 1 && (HT.sIx items.size items.size hi - HT.sIx items.size 0 lo) == items.size) = true then _ else _) _ _ s
  rw [if_pos hyes]
  refine wpAny_bind (m := Builtin.Tuple.tupleIsExact (.ref t)) (wpAny_bind (m := typeOf (.ref t)) (wpAny_typeOf ht.typeIs (wpAny_pure ?_)))
  rw [if_pos (by decide)]
  first
    | exact wpAny_bind (wpAny_rule (wpAny_pure ⟨_, rfl, wpAny_pure h⟩))
    | exact wpAny_rule (wpAny_pure ⟨_, rfl, wpAny_pure h⟩)
    | exact wpAny_rule (wpAny_bind (wpAny_pure (wpAny_pure ⟨_, rfl, wpAny_pure h⟩)))
    | exact wpAny_bind (wpAny_rule (wpAny_bind (wpAny_pure (wpAny_pure ⟨_, rfl, wpAny_pure h⟩))))
    | skip
end
section
variable {X : Cx}
def rSlA (K : PySem.W.Frag) : V → Option Int → Option Int → Hp → VK → Prop := fun x lo hi H Q => ∃ a xs, x = .ref a ∧ SqT K H a xs ∧ ∀ p H', Same H H' → SqT K H' p (cutV xs lo hi) → Q (.ref p) H'
theorem sl_tupA (K : PySem.W.Frag) (hK : X.K = K := by rfl) : SlR X (rSlA K) := by
  subst hK
  intro pins s σ H x v vl vu lo hi sl Q I rx hs pl pu h
  obtain ⟨a, xs, rfl, hx, q⟩ := h
  by_cases hw : HT.sIx xs.length 0 lo = 0 ∧ HT.sIx xs.length xs.length hi = xs.length
  · cases rx
    obtain ⟨its, r, ht, hz⟩ := I.tuple hx
    have hlen : its.toArray.size = xs.length := by rw [List.size_toArray]; exact r.length.symm
    refine ⟨"tuple", _, PyProof.Rows.slot_tuple_getitem.lookup, ht.typeIs, ?_⟩
    refine getItem_tuple_whole ht hs pl pu (by rw [hlen]; exact hw) ⟨.ref a, H, I, rfl, q a H (Same.refl H) ?_⟩
    have : cutV xs lo hi = xs := by
      unfold cutV
      rw [hw.1, hw.2, List.drop_zero, Nat.sub_zero, List.take_length]
    rw [this]
    exact hx
  · exact sl_tup pins s σ H _ v vl vu lo hi sl Q I rx hs pl pu ⟨a, xs, rfl, hx, hw, fun p hp => q p _ (same_upd hp) (SqT.of upd_same)⟩
end
end L2
namespace L2
open PySem PySem.Spec PyProof.Rows
section
variable {X : Cx}
def rCatH : R2 := fun x y H Q => ∃ a b xs ys, x = .ref a ∧ y = .ref b ∧ H a = some (.tup xs) ∧ H b = some (.tup ys) ∧ xs.length + ys.length ≤ sizeLine ∧ ∀ p H', Same H H' → H' p = some (.tup (xs ++ ys)) → Q (.ref p) H'
theorem op_catH : OpR X (binaryOp .Add) rCatH := by
  intro pins s σ H x y v u Q I rx ry h
  obtain ⟨a, b, xs, ys, rfl, rfl, ha, hb, hz, q⟩ := h
  by_cases hx : xs = []
  · subst hx
    cases rx
    cases ry
    obtain ⟨its, r1, p1, _⟩ := I.tuple (SqT.of (K := X.K) ha)
    obtain ⟨its2, r2, p2, _⟩ := I.tuple (SqT.of (K := X.K) hb)
    have e0 : its = [] := r1.nil_iff.mpr rfl
    subst e0
    obtain ⟨⟨cls, dd, data, sl⟩, ho, hc, n, hd⟩ := id p1
    obtain ⟨⟨cls2, dd2, data2, sl2⟩, ho2, hc2, n2, hd2⟩ := id p2
    simp only at hc hd hc2 hd2
    subst hc hd hc2 hd2
    exact concat_meets ⟨_, ho, rfl⟩ ⟨_, ho2, rfl⟩ noFill_tuple_add seq_tuple_add PySem.F.slot_tuple_add PySem.F.entry_tuple_add (PySem.F.args_tuple_add_2 _ _)
      (tuple_addW0 a b #[] its2.toArray n n2 dd dd2 sl sl2 rfl) ⟨ho, ho2, ⟨.ref b, H, I, rfl, q b H (Same.refl _) hb⟩⟩
  · refine op_catT pins s σ H _ _ v u Q I rx ry ⟨a, b, xs, ys, rfl, rfl, SqT.of ha, SqT.of hb, hx, hz, fun e => ?_, fun _ p hp => q p _ (same_upd hp) upd_same⟩
    subst e
    exact q a H (Same.refl _) (by rw [List.append_nil]; exact ha)
end
end L2
namespace L2
open PySem PySem.Spec PyProof.Rows
section
variable {prog : Program} {w : World} {A : Around} {E : Value → Shared → Prop} {s : Shared}
theorem nextOf_tuple_item {it t : Addr} {i : Nat} {items : Array Value} {x : Value} {Q : Value → Shared → Prop} (hit : s.heap.IsTupleIter it t i) (ht : s.heap.IsTuple t items) (hx : items[i]? = some x)
    (hQ : ∀ h', h'.IsTupleIter it t (i + 1) → Heap.SameBut it s.heap h' → Q x { s with heap := h' }) :
    wpAny (model prog w) A (Builtin.SmallTypes.nextOf (.ref it)) Q E s := by
  obtain ⟨o, ho, hc, hd⟩ := id hit
  obtain ⟨ol, hol, _, nl, hdl⟩ := ht
  unfold Builtin.SmallTypes.nextOf
  refine wpAny_bind (wpAny_callSpecial?_slot (name := Str.ofString "__next__") hit.typeIs F.slot_tuple_iterator_next
    (wpAny_call_entry F.slot_tuple_iterator_next hit.typeIs F.entry_tuple_iterator_next ?_ (F.args_tuple_iterator_next_1 _)))
  show wpAny _ _ (field (.ref it) 0 >>= _) _ _ s
  refine wpAny_bind (wpAny_field ho hd (x := .ref t) rfl ?_)
  show wpAny _ _ (if (Value.ref t == Value.none) = true then _ else _) _ _ s
  rw [if_neg (show ¬ ((Value.ref t == Value.none) = true) from Bool.false_ne_true)]
  show wpAny _ _ (field (.ref it) 1 >>= _) _ _ s
  refine wpAny_bind (wpAny_field ho hd (x := .int i 0) rfl ?_)
  show wpAny _ _ (seqItems? (.ref t) >>= _) _ _ s
  refine wpAny_bind (wpAny_seqItems hol hdl ?_)
  simp only [Int.toNat_natCast, hx]
  refine wpAny_bind (wpAny_setField ho hd (by simp) (wpAny_pure ⟨x, rfl, wpAny_pure (hQ _ ?_ (Heap.SameBut.update ..))⟩))
  exact ⟨_, Heap.get?_update_self _ ho (Obj.isFreed_of_fields (Obj.data_mapFields hd _)), (Obj.cls_mapFields ..).trans hc, by
    rw [Obj.data_mapFields hd]; simp [rawInt]⟩
theorem nextOf_tuple_end {it t : Addr} {i : Nat} {items : Array Value} {Q : Value → Shared → Prop} (hh : A.handled = none) (hit : s.heap.IsTupleIter it t i) (ht : s.heap.IsTuple t items) (hx : items[i]? = none)
    (hE : ∀ h' e, Heap.ExtBut it s.heap h' → (∃ o, h'.get? e = some o ∧ o.cls = .type "StopIteration") → E (.ref e) { s with heap := h' }) :
    wpAny (model prog w) A (Builtin.SmallTypes.nextOf (.ref it)) Q E s := by
  obtain ⟨o, ho, hc, hd⟩ := id hit
  obtain ⟨ol, hol, _, nl, hdl⟩ := ht
  unfold Builtin.SmallTypes.nextOf
  refine wpAny_bind (wpAny_callSpecial?_slot (name := Str.ofString "__next__") hit.typeIs F.slot_tuple_iterator_next
    (wpAny_call_entry F.slot_tuple_iterator_next hit.typeIs F.entry_tuple_iterator_next ?_ (F.args_tuple_iterator_next_1 _)))
  show wpAny _ _ (field (.ref it) 0 >>= _) _ _ s
  refine wpAny_bind (wpAny_field ho hd (x := .ref t) rfl ?_)
  show wpAny _ _ (if (Value.ref t == Value.none) = true then _ else _) _ _ s
  rw [if_neg (show ¬ ((Value.ref t == Value.none) = true) from Bool.false_ne_true)]
  show wpAny _ _ (field (.ref it) 1 >>= _) _ _ s
  refine wpAny_bind (wpAny_field ho hd (x := .int i 0) rfl ?_)
  show wpAny _ _ (seqItems? (.ref t) >>= _) _ _ s
  refine wpAny_bind (wpAny_seqItems hol hdl ?_)
  simp only [Int.toNat_natCast, hx]
  refine wpAny_bind (wpAny_rule (wpAny_bind (wpAny_setField ho hd (by simp) ?_)))
  show wpAny _ _ (newExc (.type "StopIteration") [] >>= _) _ _ _
  refine wpAny_bind ?_
  simp only [newExc, newTuple]
  refine wpAny_bind (wpAny_newObj_type ?_ (by size_fits))
  refine wpAny_bind (m := firstArgMember _ _) (wpAny_of_eq (a := Value.none) (by first | rfl | (simp only [firstArgMember]; rfl)) ?_)
  refine wpAny_newObj_type ?_ (by size_fits)
  simp only [raiseNew]
  refine wpAny_bind (wpAny_handled ?_)
  first | rw [show A.in1.handled = none from hh] | rw [hh]
  refine wpAny_bind (wpAny_pure (wpAny_throw ?_))
  exact hE _ _ (((Heap.SameBut.update ..).extBut.push _).push _) ⟨_, Heap.get?_push_size _ rfl, rfl⟩
theorem draws_tuple (hh : A.handled = none) (it t : Addr) (hne : t ≠ it) (items : Array Value) :
    Draws prog w A it [it, t] items.size (fun i v => items[i]? = some v) (fun i h => h.IsTupleIter it t i ∧ h.IsTuple t items) where
  live := fun _ _ st => let ⟨o, ho, _⟩ := st.1; ⟨o, ho⟩
  frame := fun _ _ _ st hk => ⟨st.1.at fun o e => hk it (by simp) o e, let ⟨o, e, r⟩ := st.2; ⟨o, hk t (by simp) o e, r⟩⟩
  item := fun i s Q E hi st hQ => by
    refine nextOf_tuple_item st.1 st.2 (x := items[i]) (by simp [hi]) fun h' hit' hs' => ?_
    exact hQ _ h' s.toks (by simp [hi]) ⟨hit', st.2.extBut hs'.extBut hne⟩ hs'
  done := fun s Q E st hE => nextOf_tuple_end hh st.1 st.2 (by simp) hE
structure ZAp (z TI TO i1 i2 : Addr) (f1 f2 : List Addr) : Prop where
  TIz : TI ≠ z
  TOz : TO ≠ z
  i1z : i1 ≠ z
  i2z : i2 ≠ z
  TITO : TI ≠ TO
  TIi1 : TI ≠ i1
  TIi2 : TI ≠ i2
  TOi1 : TO ≠ i1
  TOi2 : TO ≠ i2
  i12 : i1 ≠ i2
  z1 : z ∉ f1
  TO1 : TO ∉ f1
  i21 : i2 ∉ f1
  z2 : z ∉ f2
  TO2 : TO ∉ f2
  i1f : i1 ∉ f2
theorem extOf {it : Addr} {h h' : Heap} {f : List Addr} (x : Heap.ExtBut it h h') (n : it ∉ f) : ∀ b ∈ f, ∀ o, h.get? b = some o → h'.get? b = some o := fun b hb o e => x b o (fun z => n (z ▸ hb)) e
theorem zip_item {z TI TO i1 i2 : Addr} {f1 f2 : List Addr} {n1 n2 k1 k2 : Nat} {P1 P2 : Nat → Value → Prop} {S1 S2 : Nat → Heap → Prop} {a b : Value} {Q : Value → Shared → Prop} (D : ZAp z TI TO i1 i2 f1 f2)
    (D1 : Draws prog w A i1 f1 n1 P1 S1) (D2 : Draws prog w A i2 f2 n2 P2 S2)
    (hz : IsZip s.heap z TI TO .none) (hTI : IsPair s.heap TI (.ref i1) (.ref i2)) (hTO : IsPair s.heap TO a b)
    (h1 : S1 k1 s.heap) (h2 : S2 k2 s.heap) (hx : k1 < n1) (hy : k2 < n2)
    (hQ : ∀ x y h' tk, P1 k1 x → P2 k2 y → IsZip h' z TI TO (rawInt s.heap.objs.size) → IsPair h' TO x y → S1 (k1 + 1) h' → S2 (k2 + 1) h' → IsPair h' s.heap.objs.size x y → h'.objs.size = s.heap.objs.size + 1 →
      (∀ c o, c ≠ z → c ≠ TO → c ≠ i1 → c ≠ i2 → s.heap.get? c = some o → h'.get? c = some o) → Q (.ref s.heap.objs.size) { s with heap := h', toks := tk }) :
    wpAny (model prog w) A (Builtin.«zip.__next__» ⟨[.ref z], []⟩) (fun fin s' => ∃ v, fin = .done (.ret v) ∧ Q v s') E s := by
  obtain ⟨hp, g, d, tk₀, os⟩ := s
  show wpAny _ _ (field (.ref z) 2 >>= _) _ _ _
  refine wpAny_bind (wpAny_field hz rfl (x := .bool false) rfl ?_)
  show wpAny _ _ (field (.ref z) 3 >>= _) _ _ _
  refine wpAny_bind (wpAny_field hz rfl (x := .ref TI) rfl ?_)
  refine wpAny_bind (wpAny_seqItems hTI rfl ?_)
  show wpAny _ _ (Builtin.SmallTypes.ownedTupleIsFree (.ref z) >>= _) _ _ _
  refine wpAny_bind ?_
  unfold Builtin.SmallTypes.ownedTupleIsFree
  refine wpAny_bind (wpAny_field hz rfl (x := .none) rfl (wpAny_pure ?_))
  simp only [if_true]
  refine wpAny_bind (wpAny_rule ?_)
  refine wpAny_bind (wpAny_field hz rfl (x := .ref TO) rfl ?_)
  refine wpAny_bind (wpAny_setField_rec hz (by simp) fun h₁ hz₁ hs₁ => ?_)
  replace hz₁ : IsZip h₁ z TI TO .ellipsis := hz₁
  refine wpAny_bind ?_
  simp only [List.zipIdx_cons, List.zipIdx_nil, List.forIn_cons, List.forIn_nil]
  refine wpAny_bind (wpAny_bind (wpAny_onRaise ?_))
  show wpAny _ _ (Builtin.SmallTypes.nextOf (.ref i1) >>= _) _ _ _
  have h1₁ : S1 k1 h₁ := D1.frame _ _ _ h1 (extOf hs₁.extBut D.z1)
  refine wpAny_bind (D1.item k1 _ _ _ hx h1₁ fun x h₂ tk₂ hPx h1₂ hs₂ => wpAny_pure ?_)
  have hTO₂ : IsPair h₂ TO a b := hs₂.extBut _ _ D.TOi1 (hs₁.extBut _ _ D.TOz hTO)
  refine wpAny_bind (wpAny_seqItems hTO₂ rfl ?_)
  refine wpAny_bind (wpAny_updateSeq_pair hTO₂ fun h₃ hTO₃ hs₃ => ?_)
  replace hTO₃ : IsPair h₃ TO x b := hTO₃
  refine wpAny_bind (wpAny_letGo (wpAny_pure ?_))
  refine wpAny_bind (wpAny_bind (wpAny_onRaise ?_))
  show wpAny _ _ (Builtin.SmallTypes.nextOf (.ref i2) >>= _) _ _ _
  have h2₃ : S2 k2 h₃ := D2.frame _ _ _ (D2.frame _ _ _ (D2.frame _ _ _ h2 (extOf hs₁.extBut D.z2)) (extOf hs₂.extBut D.i1f)) (extOf hs₃.extBut D.TO2)
  refine wpAny_bind (D2.item k2 _ _ _ hy h2₃ fun y h₄ tk₄ hPy h2₄ hs₄ => wpAny_pure ?_)
  have hTO₄ : IsPair h₄ TO x b := hs₄.extBut _ _ D.TOi2 hTO₃
  refine wpAny_bind (wpAny_seqItems hTO₄ rfl ?_)
  refine wpAny_bind (wpAny_updateSeq_pair hTO₄ fun h₅ hTO₅ hs₅ => ?_)
  replace hTO₅ : IsPair h₅ TO x y := hTO₅
  refine wpAny_bind (wpAny_letGo (wpAny_pure (wpAny_pure ?_)))
  refine wpAny_bind (wpAny_seqItems hTO₅ rfl ?_)
  refine wpAny_bind (wpAny_newTuple ?_)
  have hsz : h₅.objs.size = hp.objs.size := by rw [hs₅.1, hs₄.1, hs₃.1, hs₂.1, hs₁.1]
  have hz₅ : IsZip h₅ z TI TO .ellipsis := hs₅.extBut _ _ D.TOz.symm (hs₄.extBut _ _ D.i2z.symm (hs₃.extBut _ _ D.TOz.symm (hs₂.extBut _ _ D.i1z.symm hz₁)))
  have hk₅ : ∀ c o, c ≠ z → c ≠ TO → c ≠ i1 → c ≠ i2 → hp.get? c = some o → h₅.get? c = some o := fun c o c1 c2 c3 c4 e =>
    hs₅.extBut _ _ c2 (hs₄.extBut _ _ c4 (hs₃.extBut _ _ c2 (hs₂.extBut _ _ c3 (hs₁.extBut _ _ c1 e))))
  have h1₅ : S1 (k1 + 1) h₅ := D1.frame _ _ _ (D1.frame _ _ _ (D1.frame _ _ _ h1₂ (extOf hs₃.extBut D.TO1)) (extOf hs₄.extBut D.i21)) (extOf hs₅.extBut D.TO1)
  have h2₅ : S2 (k2 + 1) h₅ := D2.frame _ _ _ h2₄ (extOf hs₅.extBut D.TO2)
  have hzlt : z < h₅.objs.size := Heap.lt_size hz₅
  show wpAny _ _ (Builtin.SmallTypes.ownedTupleHandOut (.ref z) (.ref h₅.objs.size) >>= _) _ _ _
  refine wpAny_bind ?_
  unfold Builtin.SmallTypes.ownedTupleHandOut
  have hz₆ : IsZip (h₅.push { cls := .type "tuple", data := .seq #[x, y] }) z TI TO .ellipsis := Heap.get?_push_of_some _ hz₅
  refine wpAny_bind (wpAny_setField_rec hz₆ (by simp) fun h₇ hz₇ hs₇ => ?_)
  replace hz₇ : IsZip h₇ z TI TO (rawInt h₅.objs.size) := hz₇
  refine wpAny_setField_rec hz₇ (by simp) fun h₈ hz₈ hs₈ => ?_
  replace hz₈ : IsZip h₈ z TI TO (rawInt h₅.objs.size) := hz₈
  have up : ∀ c o, c ≠ z → h₅.get? c = some o → h₈.get? c = some o := fun c o c1 e => hs₈.extBut _ _ c1 (hs₇.extBut _ _ c1 (Heap.get?_push_of_some _ e))
  have hT₈ : IsPair h₈ h₅.objs.size x y := hs₈.extBut _ _ (Nat.ne_of_gt hzlt) (hs₇.extBut _ _ (Nat.ne_of_gt hzlt) (Heap.get?_push_size _ rfl))
  have hz8 : h₈.objs.size = h₅.objs.size + 1 := by rw [hs₈.1, hs₇.1, Heap.size_push]
  rw [hsz] at hz₈ hT₈ hz8
  refine wpAny_pure ⟨_, rfl, ?_⟩
  show Q (.ref h₅.objs.size) _
  rw [hsz]
  exact hQ x y h₈ _ hPx hPy hz₈ (up _ _ D.TOz hTO₅) (D1.frame _ _ _ h1₅ fun b hb o e => up b o (fun q => D.z1 (q ▸ hb)) e) (D2.frame _ _ _ h2₅ fun b hb o e => up b o (fun q => D.z2 (q ▸ hb)) e) hT₈ hz8 fun c o c1 c2 c3 c4 e => up c o c1 (hk₅ c o c1 c2 c3 c4 e)
theorem zip_end {z TI TO i1 i2 : Addr} {f1 f2 : List Addr} {n1 n2 k1 k2 : Nat} {P1 P2 : Nat → Value → Prop} {S1 S2 : Nat → Heap → Prop} {a b : Value} {Q : Fin → Shared → Prop} (D : ZAp z TI TO i1 i2 f1 f2)
    (D1 : Draws prog w A i1 f1 n1 P1 S1) (D2 : Draws prog w A i2 f2 n2 P2 S2)
    (hz : IsZip s.heap z TI TO .none) (hTI : IsPair s.heap TI (.ref i1) (.ref i2)) (hTO : IsPair s.heap TO a b)
    (h1 : S1 k1 s.heap) (h2 : S2 k2 s.heap) (hend : k1 = n1 ∨ (k1 < n1 ∧ k2 = n2))
    (hE : ∀ h' tk e, (∀ c o, c ≠ z → c ≠ TO → c ≠ i1 → c ≠ i2 → s.heap.get? c = some o → h'.get? c = some o) → (∃ o, h'.get? e = some o ∧ o.cls = .type "StopIteration") → E (.ref e) { s with heap := h', toks := tk }) :
    wpAny (model prog w) A (Builtin.«zip.__next__» ⟨[.ref z], []⟩) Q E s := by
  obtain ⟨hp, g, d, tk₀, os⟩ := s
  show wpAny _ _ (field (.ref z) 2 >>= _) _ _ _
  refine wpAny_bind (wpAny_field hz rfl (x := .bool false) rfl ?_)
  show wpAny _ _ (field (.ref z) 3 >>= _) _ _ _
  refine wpAny_bind (wpAny_field hz rfl (x := .ref TI) rfl ?_)
  refine wpAny_bind (wpAny_seqItems hTI rfl ?_)
  show wpAny _ _ (Builtin.SmallTypes.ownedTupleIsFree (.ref z) >>= _) _ _ _
  refine wpAny_bind ?_
  unfold Builtin.SmallTypes.ownedTupleIsFree
  refine wpAny_bind (wpAny_field hz rfl (x := .none) rfl (wpAny_pure ?_))
  simp only [if_true]
  refine wpAny_bind (wpAny_rule ?_)
  refine wpAny_bind (wpAny_field hz rfl (x := .ref TO) rfl ?_)
  refine wpAny_bind (wpAny_setField_rec hz (by simp) fun h₁ hz₁ hs₁ => ?_)
  replace hz₁ : IsZip h₁ z TI TO .ellipsis := hz₁
  refine wpAny_bind ?_
  simp only [List.zipIdx_cons, List.zipIdx_nil, List.forIn_cons, List.forIn_nil]
  refine wpAny_bind (wpAny_bind (wpAny_onRaise ?_))
  show wpAny _ _ (Builtin.SmallTypes.nextOf (.ref i1) >>= _) _ _ _
  have h1₁ : S1 k1 h₁ := D1.frame _ _ _ h1 (extOf hs₁.extBut D.z1)
  rcases hend with hx | ⟨hx, hy⟩
  · subst hx
    refine wpAny_bind (D1.done _ _ _ h1₁ fun h₂ e hs₂ he => ?_)
    obtain ⟨oe, hoe, hce⟩ := he
    have hz₂ : IsZip h₂ z TI TO .ellipsis := hs₂ _ _ D.i1z.symm hz₁
    have hez : e ≠ z := fun x => by subst x; rw [hz₂] at hoe; cases hoe; simp at hce
    refine wpAny_setField_rec hz₂ (by simp) fun h₃ _ hs₃ => hE h₃ _ e (fun c o c1 _ c3 _ x => hs₃.extBut _ _ c1 (hs₂ _ _ c3 (hs₁.extBut _ _ c1 x))) ⟨oe, hs₃.extBut _ _ hez hoe, hce⟩
  · subst hy
    refine wpAny_bind (D1.item k1 _ _ _ hx h1₁ fun x h₂ tk₂ hPx h1₂ hs₂ => wpAny_pure ?_)
    have hTO₂ : IsPair h₂ TO a b := hs₂.extBut _ _ D.TOi1 (hs₁.extBut _ _ D.TOz hTO)
    refine wpAny_bind (wpAny_seqItems hTO₂ rfl ?_)
    refine wpAny_bind (wpAny_updateSeq_pair hTO₂ fun h₃ hTO₃ hs₃ => ?_)
    refine wpAny_bind (wpAny_letGo (wpAny_pure ?_))
    refine wpAny_bind (wpAny_bind (wpAny_onRaise ?_))
    show wpAny _ _ (Builtin.SmallTypes.nextOf (.ref i2) >>= _) _ _ _
    have h2₃ : S2 k2 h₃ := D2.frame _ _ _ (D2.frame _ _ _ (D2.frame _ _ _ h2 (extOf hs₁.extBut D.z2)) (extOf hs₂.extBut D.i1f)) (extOf hs₃.extBut D.TO2)
    refine wpAny_bind (D2.done _ _ _ h2₃ fun h₄ e hs₄ he => ?_)
    obtain ⟨oe, hoe, hce⟩ := he
    have hz₄ : IsZip h₄ z TI TO .ellipsis := hs₄ _ _ D.i2z.symm (hs₃.extBut _ _ D.TOz.symm (hs₂.extBut _ _ D.i1z.symm hz₁))
    have hez : e ≠ z := fun x => by subst x; rw [hz₄] at hoe; cases hoe; simp at hce
    refine wpAny_setField_rec hz₄ (by simp) fun h₅ _ hs₅ => hE h₅ _ e (fun c o c1 c2 c3 c4 x => hs₅.extBut _ _ c1 (hs₄ _ _ c4 (hs₃.extBut _ _ c2 (hs₂.extBut _ _ c3 (hs₁.extBut _ _ c1 x))))) ⟨oe, hs₅.extBut _ _ hez hoe, hce⟩
theorem pyNext_zipD {z TI TO i1 i2 : Addr} {f1 f2 : List Addr} {n1 n2 k1 k2 : Nat} {P1 P2 : Nat → Value → Prop} {S1 S2 : Nat → Heap → Prop} {a b : Value} {Q : Option Value → Shared → Prop} (hh : A.handled = none) (D : ZAp z TI TO i1 i2 f1 f2)
    (D1 : ∀ A : Around, A.handled = none → Draws prog w A i1 f1 n1 P1 S1) (D2 : ∀ A : Around, A.handled = none → Draws prog w A i2 f2 n2 P2 S2)
    (hz : IsZip s.heap z TI TO .none) (hTI : IsPair s.heap TI (.ref i1) (.ref i2)) (hTO : IsPair s.heap TO a b)
    (h1 : S1 k1 s.heap) (h2 : S2 k2 s.heap) (hx : k1 < n1) (hy : k2 < n2)
    (hQ : ∀ x y h' tk, P1 k1 x → P2 k2 y → IsZip h' z TI TO (rawInt s.heap.objs.size) → IsPair h' TO x y → S1 (k1 + 1) h' → S2 (k2 + 1) h' → IsPair h' s.heap.objs.size x y → h'.objs.size = s.heap.objs.size + 1 →
      (∀ c o, c ≠ z → c ≠ TO → c ≠ i1 → c ≠ i2 → s.heap.get? c = some o → h'.get? c = some o) → Q (some (.ref s.heap.objs.size)) { s with heap := h', toks := tk }) :
    wpAny (model prog w) A (pyNext (.ref z)) Q E s := by
  have hT : s.TypeIs (.ref z) "zip" := ⟨_, hz, rfl⟩
  unfold pyNext
  exact wpAny_bind (wpAny_attempt (wpAny_callSpecial?_slot (name := Str.ofString "__next__") hT F.slot_zip_next
    (wpAny_call_entry F.slot_zip_next hT F.entry_zip_next
      (zip_item D (D1 _ hh) (D2 _ hh) hz hTI hTO h1 h2 hx hy fun x y h' tk a1 a2 a3 a4 a5 a6 a7 a8 a9 => wpAny_pure (hQ x y h' tk a1 a2 a3 a4 a5 a6 a7 a8 a9)) (F.args_zip_next_1 _))))
theorem pyNext_zipD_end {z TI TO i1 i2 : Addr} {f1 f2 : List Addr} {n1 n2 k1 k2 : Nat} {P1 P2 : Nat → Value → Prop} {S1 S2 : Nat → Heap → Prop} {a b : Value} {Q : Option Value → Shared → Prop} (hh : A.handled = none) (D : ZAp z TI TO i1 i2 f1 f2)
    (D1 : ∀ A : Around, A.handled = none → Draws prog w A i1 f1 n1 P1 S1) (D2 : ∀ A : Around, A.handled = none → Draws prog w A i2 f2 n2 P2 S2)
    (hz : IsZip s.heap z TI TO .none) (hTI : IsPair s.heap TI (.ref i1) (.ref i2)) (hTO : IsPair s.heap TO a b)
    (h1 : S1 k1 s.heap) (h2 : S2 k2 s.heap) (hend : k1 = n1 ∨ (k1 < n1 ∧ k2 = n2))
    (hQ : ∀ h' tk, (∀ c o, c ≠ z → c ≠ TO → c ≠ i1 → c ≠ i2 → s.heap.get? c = some o → h'.get? c = some o) → Q none { s with heap := h', toks := tk }) : wpAny (model prog w) A (pyNext (.ref z)) Q E s := by
  have hT : s.TypeIs (.ref z) "zip" := ⟨_, hz, rfl⟩
  unfold pyNext
  refine wpAny_bind (wpAny_attempt (wpAny_callSpecial?_slot (name := Str.ofString "__next__") hT F.slot_zip_next
    (wpAny_call_entry F.slot_zip_next hT F.entry_zip_next (zip_end D (D1 _ hh) (D2 _ hh) hz hTI hTO h1 h2 hend fun h' tk e hk he => ?_) (F.args_zip_next_1 _))))
  obtain ⟨o, ho, hc⟩ := he
  refine wpAny_bind (wpAny_isInstance (T := "StopIteration") (b := true) ⟨o, ho, hc⟩ isSubtype_stop ?_)
  exact wpAny_pure (hQ _ _ hk)
end
end L2
namespace L2
open PySem PySem.Spec PyProof.Rows
section
variable {X : Cx} {pins : List (Addr × Obj)} {σ : St} {H : Hp} {s : Shared} {h' : Heap}
theorem FpOk.ch {fp : List Addr} (hf : ∀ b ∈ fp, FpOk X pins H b) : ∀ b ∈ fp, (b ∈ X.ex ∨ X.s₀.heap.objs.size ≤ b) ∧ b ≠ X.env.locals ∧ (∀ x c, X.env.cells.lookup x = some c → c ≠ b) ∧ ∀ p ∈ X.pn ++ pins, p.1 ≠ b := fun b hb =>
  let ⟨_, f1, _, f3, f4, f5⟩ := hf b hb; ⟨f3, f1, f4, f5⟩
theorem inv_turnedL {fp : List Addr} {t' : Nat} (I : Inv X pins σ H s) (hf : ∀ b ∈ fp, FpOk X pins H b) (k : ∀ b o, b ∉ fp → s.heap.get? b = some o → h'.get? b = some o) : Inv X pins σ H { s with heap := h', toks := t' } := by
  have nit : ∀ b u, H b = some u → b ∉ fp := fun b u e z => by rw [(hf b z).1] at e; cases e
  refine I.step (g' := s.gens) (d' := s.drawn) (ch := fp) (FpOk.ch hf) (fun b o _ _ hc e _ => k b o hc e) (fun b o _ _ hc e _ => ⟨o.slots, k b o hc e⟩) (fun _ _ _ _ n => n)
    (fun b o hc e => ⟨o, k b o hc e⟩) (fun _ _ e => e) (fun _ _ _ e => e) (fun b ps e => ⟨#[], by rw [e]; simp⟩) (fun m hm => ?_) (fun b u e => ?_) I.bare
  · obtain ⟨o, es, ep, ho, r⟩ := hm
    exact ⟨o, es, ep, k _ o (fun z => (hf _ z).2.1 rfl) ho, r⟩
  · refine (I.hok b u e).stay (fun c v hc q => k c v ?_ q) (fun _ q => q) fun _ _ q => q
    rcases hc with z | z
    · rw [z]; exact nit b u e
    · exact nit c _ z
theorem inv_turnedN {fp : List Addr} {t' : Nat} {a : Addr} {o : HO} (I : Inv X pins σ H s) (hf : ∀ b ∈ fp, FpOk X pins H b) (k : ∀ b o, b ∉ fp → s.heap.get? b = some o → h'.get? b = some o) (hp : s.heap.objs.size ≤ a)
    (new : ObjOk X.prog X.w (upd H a o) h' a o) : Inv X pins σ (upd H a o) { s with heap := h', toks := t' } := by
  have hn : H a = none := I.hok.fresh hp
  have nit : ∀ b u, H b = some u → b ∉ fp := fun b u e z => by rw [(hf b z).1] at e; cases e
  have old : ∀ {b u}, H b = some u → upd H a o b = some u := fun {b u} q => by rw [upd_ne (ne_of_none q hn)]; exact q
  refine I.step (g' := s.gens) (d' := s.drawn) (ch := fp) (FpOk.ch hf) (fun b o _ _ hc e _ => k b o hc e) (fun b o _ _ hc e _ => ⟨o.slots, k b o hc e⟩)
    (fun b u hc e n => by rw [upd_ne (Nat.ne_of_lt (Nat.lt_of_lt_of_le (Heap.lt_size e) hp))]; exact n)
    (fun b o hc e => ⟨o, k b o hc e⟩) (fun b xs e => old e) (fun b o u e => old e) (fun b ps e => ⟨#[], by rw [old e]; simp⟩) (fun m hm => ?_) (fun b u e => ?_) I.bare
  · obtain ⟨o, es, ep, ho, r⟩ := hm
    exact ⟨o, es, ep, k _ o (fun z => (hf _ z).2.1 rfl) ho, r⟩
  · by_cases hb : b = a
    · subst hb
      rw [upd_same] at e
      cases e
      exact new
    · rw [upd_ne hb] at e
      refine (I.hok b u e).stay (fun c v hc q => k c v ?_ q) (fun c q => old q) fun c xs q => old q
      rcases hc with z | z
      · rw [z]; exact nit b u e
      · exact nit c _ z
end
def Itz (K : PySem.W.Frag) (a b : Addr) : It :=
  ⟨fun i H => ∃ xs ys x y, SqT K H a xs ∧ SqT K H b ys ∧ xs[i]? = some x ∧ ys[i]? = some y,
   fun i H v H' => ∃ p x y, v = .ref p ∧ H p = none ∧ H' = upd H p (.tup [x, y]) ∧ ∀ xs ys, SqT K H a xs → SqT K H b ys → xs[i]? = some x ∧ ys[i]? = some y,
   fun i H => ∃ xs ys, SqT K H a xs ∧ SqT K H b ys ∧ i = min xs.length ys.length⟩
theorem turn_zip {P : Program} {w : World} {K : PySem.W.Frag} {elts : List Expr} {kk} {pos : Pos} (z TI TO i1 i2 a b : Addr) (D : ZAp z TI TO i1 i2 [i1, a] [i2, b]) (ha : a ≠ i1) (hb : b ≠ i2) :
    Turn P w K (.Tuple elts kk pos) (Itz K a b) [z, TI, TO, i1, i2] z
      (fun i h => IsZip h z TI TO .none ∧ IsPair h TI (.ref i1) (.ref i2) ∧ (∃ u v, IsPair h TO u v) ∧ h.IsTupleIter i1 a i ∧ h.IsTupleIter i2 b i) where
  mem := by simp
  obj := fun i h st c hc => by
    obtain ⟨hz, hTI, ⟨u, v, hTO⟩, ⟨o1, e1, _, d1⟩, ⟨o2, e2, _, d2⟩⟩ := st
    simp only [List.mem_cons, List.not_mem_nil, or_false] at hc
    rcases hc with rfl | rfl | rfl | rfl | rfl
    · exact ⟨_, hz, fun _ q => by cases q⟩
    · exact ⟨_, hTI, fun _ q => by cases q⟩
    · exact ⟨_, hTO, fun _ q => by cases q⟩
    · exact ⟨_, e1, fun _ q => by rw [d1] at q; cases q⟩
    · exact ⟨_, e2, fun _ q => by rw [d2] at q; cases q⟩
  keep := fun i h h' st k => by
    obtain ⟨hz, hTI, ⟨u, v, hTO⟩, h1, h2⟩ := st
    exact ⟨k z (by simp) _ hz, k TI (by simp) _ hTI, ⟨u, v, k TO (by simp) _ hTO⟩, h1.at fun o e => k i1 (by simp) o e, h2.at fun o e => k i2 (by simp) o e⟩
  item := by
    intro X hP hw hK hc i pins s σ H E I hf st hg
    subst hP hw hK
    obtain ⟨xs, ys, x, y, hqa, hqb, hx, hy⟩ := hg
    obtain ⟨its, ra, pa, _⟩ := I.tuple hqa
    obtain ⟨jts, rb, pb, _⟩ := I.tuple hqb
    obtain ⟨u, hu, ru⟩ := ra.get hx
    obtain ⟨v, hv, rv⟩ := rb.get hy
    obtain ⟨hz, hTI, ⟨u0, v0, hTO⟩, h1, h2⟩ := st
    have hl1 : i < its.toArray.size := by
      have := (List.getElem?_eq_some_iff.mp hu).1
      simpa using this
    have hl2 : i < jts.toArray.size := by
      have := (List.getElem?_eq_some_iff.mp hv).1
      simpa using this
    refine pyNext_zipD (I.ok.hd hc) D (fun A hA => draws_tuple hA i1 a ha its.toArray) (fun A hA => draws_tuple hA i2 b hb jts.toArray) hz hTI hTO ⟨h1, pa⟩ ⟨h2, pb⟩ hl1 hl2 fun u' v' h' tk e1 e2 hz' hTO' s1' s2' hT hsz hk => ?_
    have e1' : u' = u := by simpa [hu] using e1.symm
    have e2' : v' = v := by simpa [hv] using e2.symm
    subst e1' e2'
    refine ⟨_, rfl, wpAny_letOwnedTupleGo_zip hz' fun h2 hz2 hs2 => ?_⟩
    have zlt : z < s.heap.objs.size := Heap.lt_size hz
    have hT2 : IsPair h2 s.heap.objs.size u' v' := hs2.extBut _ _ (Nat.ne_of_gt zlt) hT
    have I2 : Inv X pins σ (upd H s.heap.objs.size (.tup [x, y])) { s with heap := h2, toks := tk } := by
      refine inv_turnedN (s := s) (fp := [z, TI, TO, i1, i2]) I hf (fun c o hc e => ?_) (Nat.le_refl _) ?_
      · simp only [List.mem_cons, List.not_mem_nil, or_false, not_or] at hc
        exact hs2.extBut _ _ hc.1 (hk c o hc.1 hc.2.2.1 hc.2.2.2.1 hc.2.2.2.2 e)
      · exact ⟨by show 2 ≤ sizeLine; decide, [u', v'], .cons ru (.cons rv .nil), _, hT2, rfl, _, rfl⟩
    refine ⟨.ref s.heap.objs.size, upd H s.heap.objs.size (.tup [x, y]), I2, rfl, ⟨_, x, y, rfl, I.fresh, rfl, fun xs' ys' q1 q2 => ?_⟩, ⟨hz2, ?_, ⟨_, _, hs2.extBut _ _ D.TOz hTO'⟩, s1'.1.extBut hs2.extBut D.i1z, s2'.1.extBut hs2.extBut D.i2z⟩, fun c hc => ?_⟩
    · rw [I.tuple_inj q1 hqa, I.tuple_inj q2 hqb]
      exact ⟨hx, hy⟩
    · exact hs2.extBut _ _ D.TIz (hk _ _ D.TIz D.TITO D.TIi1 D.TIi2 hTI)
    · rw [upd_ne]
      · exact (hf c hc).1
      · simp only [List.mem_cons, List.not_mem_nil, or_false] at hc
        obtain ⟨o1, g1, _⟩ := h1
        obtain ⟨o2, g2, _⟩ := ‹s.heap.IsTupleIter i2 b i›
        rcases hc with rfl | rfl | rfl | rfl | rfl
        · exact Nat.ne_of_lt (Heap.lt_size hz)
        · exact Nat.ne_of_lt (Heap.lt_size hTI)
        · exact Nat.ne_of_lt (Heap.lt_size hTO)
        · exact Nat.ne_of_lt (Heap.lt_size g1)
        · exact Nat.ne_of_lt (Heap.lt_size g2)
  done := by
    intro X hP hw hK hc i pins s σ H E I hf st hg
    subst hP hw hK
    obtain ⟨xs, ys, hqa, hqb, hi⟩ := hg
    obtain ⟨its, ra, pa, _⟩ := I.tuple hqa
    obtain ⟨jts, rb, pb, _⟩ := I.tuple hqb
    obtain ⟨hz, hTI, ⟨u0, v0, hTO⟩, h1, h2⟩ := st
    have l1 : its.toArray.size = xs.length := by rw [List.size_toArray]; exact ra.length.symm
    have l2 : jts.toArray.size = ys.length := by rw [List.size_toArray]; exact rb.length.symm
    refine pyNext_zipD_end (I.ok.hd hc) D (fun A hA => draws_tuple hA i1 a ha its.toArray) (fun A hA => draws_tuple hA i2 b hb jts.toArray) hz hTI hTO ⟨h1, pa⟩ ⟨h2, pb⟩ ?_ fun h' tk hk => ⟨rfl, inv_turnedL I hf fun c o hc e => ?_⟩
    · rw [l1, l2]; omega
    · simp only [List.mem_cons, List.not_mem_nil, or_false, not_or] at hc
      exact hk c o hc.1 hc.2.2.1 hc.2.2.2.1 hc.2.2.2.2 e
  self := fun _ _ _ _ _ st h => wpAny_pyIter_zip st.1 h
abbrev zpH1 (h : Heap) (l1 : Addr) : Heap := h.push { cls := .type "tuple_iterator", data := .fields #[.ref l1, .int 0 0] }
abbrev zpH2 (h : Heap) (l1 l2 : Addr) : Heap := (zpH1 h l1).push { cls := .type "tuple_iterator", data := .fields #[.ref l2, .int 0 0] }
abbrev zpH3 (h : Heap) (l1 l2 : Addr) : Heap := (zpH2 h l1 l2).push { cls := .type "tuple", data := .seq #[.ref h.objs.size, .ref (zpH1 h l1).objs.size] }
abbrev zpH4 (h : Heap) (l1 l2 : Addr) : Heap := (zpH3 h l1 l2).push { cls := .type "tuple", data := .seq #[.none, .none] }
abbrev zpH5 (h : Heap) (l1 l2 : Addr) : Heap := (zpH4 h l1 l2).push { cls := .type "zip", data := .fields #[.none, .bool false, .bool false, .ref (zpH2 h l1 l2).objs.size, .ref (zpH3 h l1 l2).objs.size] }
theorem meets_zipT (l1 l2 : Addr) (xs ys : Array Value) :
    Meets (Builtin.«zip.__new__» ⟨[.type "zip", .ref l1, .ref l2], []⟩) (fun _ R s => s.heap.IsTuple l1 xs ∧ s.heap.IsTuple l2 ys ∧
      R (.ok (.ret (.ref (zpH4 s.heap l1 l2).objs.size))) { s with heap := zpH5 s.heap l1 l2 }) :=
  .of_wp fun prog w A R s h => by
    obtain ⟨hp, g, d, tk, os⟩ := s; obtain ⟨hl1, hl2, h⟩ := h
    have hsub := sub_zip
    have hL1 : Heap.IsTuple (Shared.heap ⟨hp, g, d, tk, os⟩) l1 xs := hl1
    have hL2 : Heap.IsTuple (Shared.heap ⟨hp.push { cls := .type "tuple_iterator", data := .fields #[.ref l1, .int 0 0] }, g, d, tk, os⟩) l2 ys := Heap.IsTuple.push hl2 _
    wp_walk using wpAny_pyIter_tuple hL1, wpAny_pyIter_tuple hL2
    exact ⟨_, rfl, h⟩
section
variable {prog : Program} {w : World} {A : Around} {E : Value → Shared → Prop} {s : Shared}
theorem call_zipT {l1 l2 : Addr} {xs ys : Array Value} {Q : Value → Shared → Prop} (hl1 : s.heap.IsTuple l1 xs) (hl2 : s.heap.IsTuple l2 ys)
    (h : ∀ h', IsZip h' (s.heap.objs.size + 4) (s.heap.objs.size + 2) (s.heap.objs.size + 3) .none → IsPair h' (s.heap.objs.size + 2) (.ref s.heap.objs.size) (.ref (s.heap.objs.size + 1)) →
      IsPair h' (s.heap.objs.size + 3) .none .none → h'.IsTupleIter s.heap.objs.size l1 0 → h'.IsTupleIter (s.heap.objs.size + 1) l2 0 → h'.objs.size = s.heap.objs.size + 5 →
      (∀ c o, s.heap.get? c = some o → h'.get? c = some o) → Q (.ref (s.heap.objs.size + 4)) { s with heap := h' }) :
    wpAny (model prog w) A (call (.type "zip") [.ref l1, .ref l2]) Q E s := by
  refine callType_new F.called_zip (by decide) (F.typeCall_zip_2 _ _) (F.newCall_zip_2 _ _) (fun obj => F.args_object_init_3 obj _ _) F.entry_zip_new
    (meets_zipT l1 l2 xs ys) ⟨hl1, hl2, ?_⟩
  have z1 : (zpH1 s.heap l1).objs.size = s.heap.objs.size + 1 := Heap.size_push ..
  have z2 : (zpH2 s.heap l1 l2).objs.size = s.heap.objs.size + 2 := by rw [Heap.size_push, z1]
  have z3 : (zpH3 s.heap l1 l2).objs.size = s.heap.objs.size + 3 := by rw [Heap.size_push, z2]
  have z4 : (zpH4 s.heap l1 l2).objs.size = s.heap.objs.size + 4 := by rw [Heap.size_push, z3]
  have z5 : (zpH5 s.heap l1 l2).objs.size = s.heap.objs.size + 5 := by rw [Heap.size_push, z4]
  have g5 : (zpH5 s.heap l1 l2).get? (zpH4 s.heap l1 l2).objs.size = some _ := Heap.get?_push_size _ rfl
  have g4 : (zpH5 s.heap l1 l2).get? (zpH3 s.heap l1 l2).objs.size = some _ := Heap.get?_push_of_some _ (Heap.get?_push_size _ rfl)
  have g3 : (zpH5 s.heap l1 l2).get? (zpH2 s.heap l1 l2).objs.size = some _ := Heap.get?_push_of_some _ (Heap.get?_push_of_some _ (Heap.get?_push_size _ rfl))
  have g2 : (zpH5 s.heap l1 l2).get? (zpH1 s.heap l1).objs.size = some _ := Heap.get?_push_of_some _ (Heap.get?_push_of_some _ (Heap.get?_push_of_some _ (Heap.get?_push_size _ rfl)))
  have g1 : (zpH5 s.heap l1 l2).get? s.heap.objs.size = some _ := Heap.get?_push_of_some _ (Heap.get?_push_of_some _ (Heap.get?_push_of_some _ (Heap.get?_push_of_some _ (Heap.get?_push_size _ rfl))))
  show _ ∧ _
  rw [z2, z3, z4] at g5
  rw [z1, z2] at g3
  rw [z3] at g4
  rw [z1] at g2
  rw [z4]
  exact ⟨⟨_, g5, rfl⟩, h _ g5 g3 g4 ⟨_, g1, rfl, rfl⟩ ⟨_, g2, rfl, rfl⟩ z5 fun c o x =>
    Heap.get?_push_of_some _ (Heap.get?_push_of_some _ (Heap.get?_push_of_some _ (Heap.get?_push_of_some _ (Heap.get?_push_of_some _ x))))⟩
end
theorem zAp_new {n a b : Addr} (h1 : a < n) (h2 : b < n) : ZAp (n + 4) (n + 2) (n + 3) n (n + 1) [n, a] [n + 1, b] :=
  have D := PyProof.Rows.zipApart_new (n := n) (l1 := a) (l2 := b) h1 h2
  have no : ∀ {x y z : Addr}, y ≠ x → z ≠ x → x ∉ [y, z] := fun {x y z} p q h => by
    simp only [List.mem_cons, List.not_mem_nil, or_false] at h
    rcases h with h | h
    · exact p h.symm
    · exact q h.symm
  ⟨D.TIz, D.TOz, D.i1z, D.i2z, D.TITO, D.TIi1, D.TIi2, D.TOi1, D.TOi2, D.i12, no D.i1z D.l1z, no D.TOi1.symm D.l1TO, no D.i12 D.l1i2, no D.i2z D.l2z, no D.TOi2.symm D.l2TO, no D.i12.symm D.l2i1⟩
section
variable {X : Cx} {elts : List Expr} {pt : Pos}
def iZip (K : PySem.W.Frag) (ta : TA) : TI := fun σ H R => ta σ H fun vs H1 => ∃ a b, vs = [.ref a, .ref b] ∧ (∃ xs, SqT K H1 a xs) ∧ (∃ ys, SqT K H1 b ys) ∧ R (Itz K a b) H1
theorem pi_zip (K : PySem.W.Frag) {kk} {a b : Expr} {ta : TA} {p pos : Pos} (hg : Gl X "zip") (hm : X.mg "zip" = none) (ha : PA X [a, b] ta) (hs : starEach [a, b] X.env = [(false, eval a X.env), (false, eval b X.env)] := by rfl) (hs2 : starEach [b] X.env = [(false, eval b X.env)] := by rfl) (hK : X.K = K := by rfl) :
    PI X (.Tuple elts kk pt) (.Call (.Name "zip" p) [a, b] [] pos) (iZip K ta) := by
  subst hK
  intro pins s σ H R I h
  refine Call_ (ld_blt I hg hm bt_zip (PyProof.Rows.callWith_type1 (thn (ha pos pins s σ H _ I h) fun us s1 ⟨vs, H1, I1, r1, q1⟩ => ?_) (by rw [hs, hs2]) (by rw [hs2]; rfl)))
  obtain ⟨x, y, e, ⟨xs, hx⟩, ⟨ys, hy⟩, q⟩ := q1
  subst e
  cases r1 with
  | cons r rr =>
    cases rr with
    | cons r' rr =>
      cases rr
      cases r
      cases r'
      obtain ⟨its, ra, pa, _⟩ := I1.tuple hx
      obtain ⟨jts, rb, pb, _⟩ := I1.tuple hy
      have la : x < s1.heap.objs.size := by obtain ⟨_, e, _⟩ := id pa; exact Heap.lt_size e
      have lb : y < s1.heap.objs.size := by obtain ⟨_, e, _⟩ := id pb; exact Heap.lt_size e
      refine call_zipT pa pb fun h' hz hTI hTO g1 g2 hsz hk => wpAny_pyIter_zip hz ?_
      refine ⟨_, _, _, _, H1, rfl, I1.kept (t' := s1.toks) hk, turn_zip (s1.heap.objs.size + 4) (s1.heap.objs.size + 2) (s1.heap.objs.size + 3) s1.heap.objs.size (s1.heap.objs.size + 1) x y (zAp_new la lb) (Nat.ne_of_lt la) (Nat.ne_of_lt (Nat.lt_succ_of_lt lb)), ⟨hz, hTI, ⟨_, _, hTO⟩, g1, g2⟩, fun c hc => ?_, q⟩
      have le : s1.heap.objs.size ≤ c := by
        simp only [List.mem_cons, List.not_mem_nil, or_false] at hc
        rcases hc with rfl | rfl | rfl | rfl | rfl
        · exact Nat.le_add_right _ 4
        · exact Nat.le_add_right _ 2
        · exact Nat.le_add_right _ 3
        · exact Nat.le_refl _
        · exact Nat.le_add_right _ 1
      exact I1.fpOk le (I1.hok.fresh le)
end
theorem for_zip {K : PySem.W.Frag} {a b : Addr} {xs ys : List V} {g : TG} {tb : TS} {D : Ends} {σ : St} {H : Hp} (Pv : Nat → St → Hp → Prop) (h0 : Pv 0 σ H) (hl : ∀ i σ H, i ≤ min xs.length ys.length → Pv i σ H → SqT K H a xs ∧ SqT K H b ys)
    (hs : ∀ i x y p σ H, xs[i]? = some x → ys[i]? = some y → H p = none → Pv i σ H → g (.ref p) σ (upd H p (.tup [x, y])) fun σ2 H2 => tb { D with nx := Pv (i + 1), ct := Pv (i + 1), bk := D.nx } σ2 H2) (he : ∀ σ H, Pv (min xs.length ys.length) σ H → D.nx σ H) :
    ∃ W : Nat → Nat → St → Hp → Prop, (∃ m, W 0 m σ H) ∧ ∀ i m σ H, W i m σ H → ((Itz K a b).stop i H ∧ D.nx σ H) ∨ ((Itz K a b).go i H ∧ ∃ N : St → Hp → Prop, (∀ σ' H', N σ' H' → ∃ m', m' < m ∧ W (i + 1) m' σ' H') ∧ ∀ x H', (Itz K a b).yld i H x H' → g x σ H' fun σ2 H2 => tb { D with nx := N, ct := N, bk := D.nx } σ2 H2) := by
  refine for_by (min xs.length ys.length) Pv h0 (fun i σ H hi p => ?_) (fun σ H p => ⟨⟨xs, ys, (hl _ σ H (Nat.le_refl _) p).1, (hl _ σ H (Nat.le_refl _) p).2, rfl⟩, he σ H p⟩) fun i σ H hi p x H' y => ?_
  · obtain ⟨q1, q2⟩ := hl i σ H (Nat.le_of_lt hi) p
    have l1 : i < xs.length := by omega
    have l2 : i < ys.length := by omega
    exact ⟨xs, ys, xs[i], ys[i], q1, q2, List.getElem?_eq_getElem l1, List.getElem?_eq_getElem l2⟩
  · obtain ⟨q1, q2⟩ := hl i σ H (Nat.le_of_lt hi) p
    obtain ⟨c, x', y', rfl, hc, rfl, hq⟩ := y
    obtain ⟨e1, e2⟩ := hq xs ys q1 q2
    exact hs i x' y' c σ H e1 e2 hc p
end L2
namespace L2
open PySem PySem.Spec PyProof.Rows
section
variable {X : Cx}
end
end L2
namespace L2
open PySem PySem.Spec PyProof.Rows
section
variable {X : Cx} {k k' : Nat} {ι : Type} {cls : ι → Addr} {ps : List Str} {sp : ι → Sp} {x m : Str} {p pos apos : Pos} {e o : Expr} {es : List Expr} {ta : TE} {t : TA}
end
end L2
namespace L2
open PySem PySem.Spec PyProof.Rows
section
open PySem.AutoSeq1
end
section
variable {X : Cx}
end
end L2
namespace L2
open PySem PySem.Spec PyProof.Rows
section
variable {prog : Program} {w : World} {A : Around} {E : Value → Shared → Prop} {s : Shared}
end
section
variable {X : Cx} {elts : List Expr} {pt : Pos}
end
end L2
namespace L2
open PySem PySem.Spec PyProof.Rows
theorem Vals.split {xs : List V} {us : List Value} (h : Vals xs us) : ∀ k, Vals (xs.take k) (us.take k) ∧ Vals (xs.drop k) (us.drop k) := by
  induction h with
  | nil => intro k; rw [List.take_nil, List.drop_nil, List.take_nil, List.drop_nil]; exact ⟨.nil, .nil⟩
  | cons a b ih =>
    intro k
    cases k with
    | zero => exact ⟨.nil, .cons a b⟩
    | succ k => exact ⟨.cons a (ih k).1, (ih k).2⟩
section
variable {X : Cx}
def rInsert : V → List V → Hp → VK → Prop := fun x vs H Q => ∃ (l : Addr) (xs : List V) (y : V) (k : Int), x = .ref l ∧ vs = [.int k, y] ∧ H l = some (.lst xs) ∧ xs.length < sizeLine ∧ 0 ≤ k ∧ k ≤ xs.length ∧ Q .non (upd H l (.lst (xs.take k.toNat ++ y :: xs.drop k.toNat)))
theorem mt_insert : MtM X "list.insert" rInsert := by
  intro pins s σ H x vs v us Q I rx rv h
  obtain ⟨l, xs, y, k, rfl, rfl, hH, hz, hk0, hk, q⟩ := h
  cases rx
  obtain ⟨u, w, rfl, ⟨t, rfl⟩, rw'⟩ := vals2 rv
  obtain ⟨z, its, n, r, hl, e⟩ := I.lstM hH
  have hsz : its.toArray.size ≤ sizeLine := by rw [List.size_toArray, ← hl]; exact z
  have fit : Builtin.List.listFitsIndex k = true := by
    have h3 : xs.length < 9223372036854775808 := Nat.lt_of_lt_of_le hz (by decide)
    have h1 : decide (-(2 ^ 63 : Int) ≤ k) = true := decide_eq_true (by omega)
    have h2 : decide (k < (2 ^ 63 : Int)) = true := decide_eq_true (by omega)
    unfold Builtin.List.listFitsIndex
    rw [h1, h2]
    decide
  have sp := r.split k.toNat
  refine call_meets F.slot_list_insert ⟨_, e, rfl⟩ F.entry_list_insert (F.args_list_insert_3 _ _ _) (PySem.AutoSeq1.list_insert_list_int_val_1 l _ n k t w (by simp [fit]) hsz) ⟨e, ?_⟩
  refine ⟨.non, _, I.lset (its' := its.take k.toNat ++ w :: its.drop k.toNat) hH e ?_ (sp.1.append (.cons rw' sp.2)) ?_, rfl, q⟩
  · have h0 : ¬ k < 0 := by omega
    have hm : min k.toNat its.length = k.toNat := by omega
    simp only [if_neg h0, List.size_toArray, hm]
    apply Array.ext'
    simp only [Array.toList_append, Array.toList_push, Array.toList_extract, List.toList_toArray]
    simp [List.extract_eq_drop_take, List.take_of_length_le]
  · rw [List.length_append, List.length_cons, List.length_take, List.length_drop]
    omega
end
end L2
namespace L2
open PySem PySem.Spec PyProof.Rows PySem.W
section
variable {prog : Program} {w : World} {A : Around} {E : Value → Shared → Prop} {s : Shared}
end
section
variable {X : Cx}
section
variable {pins : List (Addr × Obj)} {σ : St} {H : Hp} {s : Shared} {a kS : Addr} {vs ks : List Value} {rk : Value → Int} {e e1 : Nat} {P : PySem.Fin → Shared → Prop} {E : Value → Shared → Prop} {A : Around}
end
end
theorem paired_at {α β : Type} {F : α → β → Prop} : ∀ {l : List α} {k : List β} {i : Nat} {x : α}, Paired F l k → l[i]? = some x → ∃ y, k[i]? = some y ∧ F x y
  | _, _, 0, x, .cons a b, h => by
    cases h
    exact ⟨_, rfl, a⟩
  | _, _, i + 1, x, .cons a b, h => by
    obtain ⟨d, e, r⟩ := paired_at (i := i) (x := x) b (by simpa using h)
    exact ⟨d, by simpa using e, r⟩
theorem paired_app {α β : Type} {F : α → β → Prop} {x : α} {y : β} : ∀ {xs : List α} {ys : List β}, Paired F xs ys → F x y → Paired F (xs ++ [x]) (ys ++ [y])
  | _, _, .nil, h => .cons h .nil
  | _, _, .cons a b, h => .cons a (paired_app b h)
section
variable {X : Cx} {k k' : Nat} {x p1 : Str} {sp : Sp} {e : Expr} {t : TA} {p pos kpos xp : Pos}
end
end L2
namespace L2
open PySem PySem.Spec PyProof.Rows
section
variable {X : Cx}
def rInLD (K : PySem.W.Frag) : R2 := fun x y H Q => ∃ d ds, Dat K H d x ∧ Dat K H (.list ds) y ∧ PyData.depthAll ds ≤ 60 ∧ Q (.bl (ds.any fun y => PyData.eqv y d)) H
theorem op_inLD (hu : X.A.units + 64 < cLine) (K : PySem.W.Frag) (hK : X.K = K := by rfl) : OpR X (compareOp .In) (rInLD K) := by
  subst hK
  intro pins s σ H x y v u Q I rx ry h
  obtain ⟨d, ds, hd, he, hz, q⟩ := h
  obtain ⟨as, ra⟩ := Dat.reads I _ _ _ hd rx
  obtain ⟨bs, rb⟩ := Dat.reads I _ _ _ he ry
  exact SeqAt.in_list_reads rb ra (Dat.lay _ _ he) (Dat.lay _ _ hd) (by have : min (PyData.depthAll ds) d.depth ≤ PyData.depthAll ds := Nat.min_le_left _ _; omega) (fin_bl I q rfl)
end
end L2
namespace L2
open PySem PySem.Spec PyProof.Rows
def Itn (K : PySem.W.Frag) (a : Addr) : It :=
  ⟨fun i H => ∃ xs x, SqT K H a xs ∧ xs[i]? = some x,
   fun i H v H' => ∃ p x, v = .ref p ∧ H p = none ∧ H' = upd H p (.tup [.int (i : Nat), x]) ∧ ∀ xs, SqT K H a xs → xs[i]? = some x,
   fun i H => ∃ xs, SqT K H a xs ∧ i = xs.length⟩
theorem turn_enumT {P : Program} {w : World} {K : PySem.W.Frag} {elts : List Expr} {kk} {pos : Pos} (e it a : Addr) (hei : e ≠ it) (hea : e ≠ a) (ha : a ≠ it) :
    Turn P w K (.Tuple elts kk pos) (Itn K a) [e, it] e (fun i h => (∃ old, IsEnum h e it (i : Nat) old) ∧ h.IsTupleIter it a i) where
  mem := by simp
  obj := fun i h st c hc => by
    obtain ⟨⟨old, he⟩, ⟨o1, e1, _, d1⟩⟩ := st
    simp only [List.mem_cons, List.not_mem_nil, or_false] at hc
    rcases hc with rfl | rfl
    · exact ⟨_, he, fun _ q => by cases q⟩
    · exact ⟨_, e1, fun _ q => by rw [d1] at q; cases q⟩
  keep := fun i h h' st k => by
    obtain ⟨⟨old, he⟩, h1⟩ := st
    exact ⟨⟨old, k e (by simp) _ he⟩, h1.at fun o z => k it (by simp) o z⟩
  item := by
    intro X hP hw hK hc i pins s σ H E I hf st hg
    subst hP hw hK
    obtain ⟨xs, x, hqa, hx⟩ := hg
    obtain ⟨its, ra, pa, _⟩ := I.tuple hqa
    obtain ⟨u, hu, ru⟩ := ra.get hx
    obtain ⟨⟨old, he⟩, h1⟩ := st
    have hl1 : i < its.toArray.size := by
      have := (List.getElem?_eq_some_iff.mp hu).1
      simpa using this
    refine wpAny_pyNext_enum_itemD (draws_tuple (show X.A.in1.handled = none from I.ok.hd hc) it a ha its.toArray) he ⟨h1, pa⟩ hl1 hei (by simp only [List.mem_cons, List.not_mem_nil, or_false, not_or]; exact ⟨hei, hea⟩) fun u' h' tk e1 he' s1' hT hsz hk => ?_
    have e1' : u' = u := by simpa [hu] using e1.symm
    subst e1'
    refine ⟨_, rfl, wpAny_letOwnedTupleGo_enum he' fun h2 he2 hs2 => ?_⟩
    have elt : e < s.heap.objs.size := Heap.lt_size he
    have hT2 : h2.get? s.heap.objs.size = some { cls := .type "tuple", data := .seq #[.int (i : Nat) tk, u'] } := hs2.extBut _ _ (Nat.ne_of_gt elt) hT
    have I2 : Inv X pins σ (upd H s.heap.objs.size (.tup [.int (i : Nat), x])) { s with heap := h2, toks := tk + 1 } := by
      refine inv_turnedN (s := s) (fp := [e, it]) I hf (fun c o hc z => ?_) (Nat.le_refl _) ?_
      · simp only [List.mem_cons, List.not_mem_nil, or_false, not_or] at hc
        exact hs2.extBut _ _ hc.1 (hk c o hc.1 hc.2 z)
      · exact ⟨by show 2 ≤ sizeLine; decide, [.int (i : Nat) tk, u'], .cons ⟨tk, rfl⟩ (.cons ru .nil), _, hT2, rfl, _, rfl⟩
    refine ⟨.ref s.heap.objs.size, _, I2, rfl, ⟨_, x, rfl, I.fresh, rfl, fun xs' q1 => ?_⟩, ⟨⟨u', ?_⟩, s1'.1.extBut hs2.extBut (Ne.symm hei)⟩, fun c hc => ?_⟩
    · rw [I.tuple_inj q1 hqa]
      exact hx
    · have : (((i : Nat) : Int) + 1) = ((i + 1 : Nat) : Int) := by omega
      rw [← this]
      exact he2
    · rw [upd_ne]
      · exact (hf c hc).1
      · simp only [List.mem_cons, List.not_mem_nil, or_false] at hc
        obtain ⟨o1, g1, _⟩ := h1
        rcases hc with rfl | rfl
        · exact Nat.ne_of_lt elt
        · exact Nat.ne_of_lt (Heap.lt_size g1)
  done := by
    intro X hP hw hK hc i pins s σ H E I hf st hg
    subst hP hw hK
    obtain ⟨xs, hqa, hi⟩ := hg
    obtain ⟨its, ra, pa, _⟩ := I.tuple hqa
    obtain ⟨⟨old, he⟩, h1⟩ := st
    have l1 : its.toArray.size = xs.length := by rw [List.size_toArray]; exact ra.length.symm
    refine wpAny_pyNext_enum_endD (draws_tuple (show X.A.in1.handled = none from I.ok.hd hc) it a ha its.toArray) he ⟨by rw [l1, ← hi]; exact h1, pa⟩ fun h' hk => ⟨rfl, inv_turnedL I hf fun c o hc z => ?_⟩
    simp only [List.mem_cons, List.not_mem_nil, or_false, not_or] at hc
    exact hk c o hc.2 z
  self := fun _ _ _ _ _ st h => let ⟨⟨_, he⟩, _⟩ := st; wpAny_pyIter_enum he h
theorem meets_enumT (l : Addr) (items : Array Value) :
    Meets (Builtin.«enumerate.__new__» ⟨[.type "enumerate", .ref l], []⟩) (fun _ R s => s.heap.IsTuple l items ∧
      R (.ok (.ret (.ref (s.heap.push { cls := .type "tuple_iterator", data := .fields #[.ref l, .int 0 0] }).objs.size)))
        { s with heap := (s.heap.push { cls := .type "tuple_iterator", data := .fields #[.ref l, .int 0 0] }).push { cls := .type "enumerate", data := .fields #[.none, .bool false, .ref s.heap.objs.size, rawInt 0, .none, .none] } }) :=
  .of_wp fun prog w A R s h => by
    obtain ⟨hp, g, d, tk, os⟩ := s; obtain ⟨hl, h⟩ := h
    have hsub := sub_enumerate
    have hL : Heap.IsTuple (Shared.heap ⟨hp, g, d, tk, os⟩) l items := hl
    wp_walk using wpAny_pyIter_tuple hL
    refine wpAny_stack_any fun st => wpAny_pure ?_
    split
    · rename_i c _ _ _ _ _
      cases (c == Value.type "enumerate")
      · wp_walk using wpAny_pyIter_tuple hL
        exact ⟨_, rfl, h⟩
      · wp_walk using wpAny_pyIter_tuple hL
        exact ⟨_, rfl, h⟩
    · wp_walk using wpAny_pyIter_tuple hL
      exact ⟨_, rfl, h⟩
section
variable {prog : Program} {w : World} {A : Around} {E : Value → Shared → Prop} {s : Shared}
theorem call_enumT {l : Addr} {items : Array Value} {Q : Value → Shared → Prop} (hl : s.heap.IsTuple l items)
    (h : ∀ h', IsEnum h' (s.heap.objs.size + 1) s.heap.objs.size 0 .none → h'.IsTupleIter s.heap.objs.size l 0 → h'.objs.size = s.heap.objs.size + 2 →
      (∀ b o, s.heap.get? b = some o → h'.get? b = some o) → Q (.ref (s.heap.objs.size + 1)) { s with heap := h' }) :
    wpAny (model prog w) A (call (.type "enumerate") [.ref l]) Q E s := by
  refine callType_new F.called_enumerate (by decide) (F.typeCall_enumerate_1 _) (F.newCall_enumerate_1 _) (fun obj => F.args_object_init_2 obj _) F.entry_enumerate_new
    (meets_enumT l items) ⟨hl, ?_⟩
  have hz : (s.heap.push { cls := .type "tuple_iterator", data := .fields #[.ref l, .int 0 0] }).objs.size = s.heap.objs.size + 1 := Heap.size_push ..
  show _ ∧ _
  rw [hz]
  have he : IsEnum ((s.heap.push { cls := .type "tuple_iterator", data := .fields #[.ref l, .int 0 0] }).push
      { cls := .type "enumerate", data := .fields #[.none, .bool false, .ref s.heap.objs.size, rawInt 0, .none, .none] }) (s.heap.objs.size + 1) s.heap.objs.size 0 .none := by
    have := Heap.get?_push_size (s.heap.push { cls := .type "tuple_iterator", data := .fields #[.ref l, .int 0 0] })
      (o := { cls := .type "enumerate", data := .fields #[.none, .bool false, .ref s.heap.objs.size, rawInt 0, .none, .none] }) rfl
    rw [hz] at this; exact this
  refine ⟨⟨_, he, rfl⟩, h _ he ⟨_, Heap.get?_push_of_some _ (Heap.get?_push_size _ rfl), rfl, rfl⟩ (by rw [Heap.size_push, hz]) fun b o x => Heap.get?_push_of_some _ (Heap.get?_push_of_some _ x)⟩
end
theorem bt_enumerate : bootBuiltins "enumerate" = some (.type "enumerate") := by decide +kernel
section
variable {X : Cx} {elts : List Expr} {pt : Pos}
def iEnumT (K : PySem.W.Frag) (ta : TA) : TI := fun σ H R => ta σ H fun vs H1 => ∃ a, vs = [.ref a] ∧ (∃ xs, SqT K H1 a xs) ∧ R (Itn K a) H1
theorem pi_enumT (K : PySem.W.Frag) {kk} {a : Expr} {ta : TA} {p pos : Pos} (hg : Gl X "enumerate") (hm : X.mg "enumerate" = none) (ha : PA X [a] ta) (hs : starEach [a] X.env = [(false, eval a X.env)] := by rfl) (hK : X.K = K := by rfl) :
    PI X (.Tuple elts kk pt) (.Call (.Name "enumerate" p) [a] [] pos) (iEnumT K ta) := by
  subst hK
  intro pins s σ H R I h
  refine Call_ (ld_blt I hg hm bt_enumerate (PyProof.Rows.callWith_type1 (thn (ha pos pins s σ H _ I h) fun us s1 ⟨vs, H1, I1, r1, q1⟩ => ?_) hs rfl))
  obtain ⟨x, e, ⟨xs, hx⟩, q⟩ := q1
  subst e
  cases r1 with
  | cons r rr =>
    cases rr
    cases r
    obtain ⟨its, ra, pa, _⟩ := I1.tuple hx
    have la : x < s1.heap.objs.size := by obtain ⟨_, e, _⟩ := id pa; exact Heap.lt_size e
    refine call_enumT pa fun h' he g1 hsz hk => wpAny_pyIter_enum he ?_
    refine ⟨_, _, _, _, H1, rfl, I1.kept (t' := s1.toks) hk, turn_enumT (s1.heap.objs.size + 1) s1.heap.objs.size x (Nat.ne_of_gt (Nat.lt_succ_self _)) (Nat.ne_of_gt (Nat.lt_succ_of_lt la)) (Nat.ne_of_lt la), ⟨⟨_, he⟩, g1⟩, fun c hc => ?_, q⟩
    have le : s1.heap.objs.size ≤ c := by
      simp only [List.mem_cons, List.not_mem_nil, or_false] at hc
      rcases hc with rfl | rfl
      · exact Nat.le_add_right _ 1
      · exact Nat.le_refl _
    exact I1.fpOk le (I1.hok.fresh le)
end
theorem for_enumT {K : PySem.W.Frag} {a : Addr} {xs : List V} {g : TG} {tb : TS} {D : Ends} {σ : St} {H : Hp} (Pv : Nat → St → Hp → Prop) (h0 : Pv 0 σ H) (hl : ∀ i σ H, i ≤ xs.length → Pv i σ H → SqT K H a xs)
    (hs : ∀ i x p σ H, xs[i]? = some x → H p = none → Pv i σ H → g (.ref p) σ (upd H p (.tup [.int (i : Nat), x])) fun σ2 H2 => tb { D with nx := Pv (i + 1), ct := Pv (i + 1), bk := D.nx } σ2 H2) (he : ∀ σ H, Pv xs.length σ H → D.nx σ H) :
    ∃ W : Nat → Nat → St → Hp → Prop, (∃ m, W 0 m σ H) ∧ ∀ i m σ H, W i m σ H → ((Itn K a).stop i H ∧ D.nx σ H) ∨ ((Itn K a).go i H ∧ ∃ N : St → Hp → Prop, (∀ σ' H', N σ' H' → ∃ m', m' < m ∧ W (i + 1) m' σ' H') ∧ ∀ x H', (Itn K a).yld i H x H' → g x σ H' fun σ2 H2 => tb { D with nx := N, ct := N, bk := D.nx } σ2 H2) := by
  refine for_by xs.length Pv h0 (fun i σ H hi p => ?_) (fun σ H p => ⟨⟨xs, hl _ σ H (Nat.le_refl _) p, rfl⟩, he σ H p⟩) fun i σ H hi p x H' y => ?_
  · exact ⟨xs, xs[i], hl i σ H (Nat.le_of_lt hi) p, List.getElem?_eq_getElem hi⟩
  · obtain ⟨c, x', rfl, hc, rfl, hq⟩ := y
    exact hs i x' c σ H (hq xs (hl i σ H (Nat.le_of_lt hi) p)) hc p
section
variable {prog : Program} {w : World} {A : Around} {E : Value → Shared → Prop} {s : Shared}
end
section
variable {X : Cx} {elts : List Expr} {pt : Pos}
end
section
variable {X : Cx} {k k' : Nat} {C : Addr} {ps : List Str} {sp : Sp} {x : Str} {p pos : Pos} {e : Expr} {es : List Expr} {t : TA}
theorem pe_mkM (D : MDef X.prog X.w X.K X.mg X.base k C "__init__" ps sp) (hk : PySem.W.makesIn X.K C = true) (kp : PySem.W.keepIn X.K (.ref C) = true) (hr : Room k' X.A) (hg : Gl X x) (hm : X.mg x = some (.ref C)) (ha : PA X (e :: es) t) (hkk : k + 1 ≤ k' := by decide)
    (hdb : (x == ("__debug__" : Str)) = false := by decide) (he : starEach (e :: es) X.env = (false, eval e X.env) :: starEach es X.env := by rfl) (hpl : (backTo pos (starEach es X.env)).any (·.1) = false := by rfl) : PE X (.Call (.Name x p) (e :: es) [] pos) (tMake C sp [] E0 t) := by
  obtain ⟨f, fd, F, h1, h3⟩ := D.ex
  exact pe_make ⟨hk, h1.at_, h1.fn, kp⟩ F (hr.mono hkk) hg hm h3 .nil pass0 ha hdb he hpl
end
end L2
namespace PySem
section
variable {prog : Program} {w : World} {K : Type} [DecidableEq K] {knd : HeapKind prog w K} {A : Around} {E : Value → Shared → Prop} {s : Shared} {d a : Addr} {k : K} {xs : List (K × Addr × Value)}
theorem setDefault_heap {v : Value} {Q : Value → Shared → Prop} (hu : knd.room A) (hkey : knd.is s.heap k a) (hm : s.heap.DictOfH knd d xs)
    (h1 : ∀ p, atKey xs k = some p → Q p.2 { s with toks := s.toks + knd.draws k })
    (h2 : atKey xs k = none → ∀ h', h'.DictOfH knd d (storedH xs k a v) → Heap.SameBut d s.heap h' → Q v { s with heap := h', toks := s.toks + knd.draws k })
    (hsz : xs.length ≤ sizeLine) :
    wpAny (model prog w) A (dictSetDefault d (.ref a) v) Q E s := by
  obtain ⟨o, es, ep, ho, hc, hd, he, his, hn⟩ := hm
  unfold dictSetDefault
  try with_reducible refine wpAny_holding ?_
  refine wpAny_bind (knd.pyHash hu hkey ?_)
  refine wpAny_bind (wpAny_dictFind_heap (s := { s with toks := s.toks + knd.draws k }) hu hkey ho hd he his hn ?_ ?_)
  · intro hno
    have hnot : k ∉ xs.map (·.1) := not_mem_keys_of_get hno
    refine wpAny_bind (wpAny_rule (wpAny_bind (wpAny_updateDictKeys (hz := by have e := size_of_entries he; omega) (s := { s with toks := s.toks + knd.draws k }) ho hd (wpAny_pure (h2 (atKey_none_of_get hno) _ ⟨_, _, ep + 1, Heap.get?_update_self _ ho (Obj.isFreed_of_dict (Obj.data_mapDictKeys hd _)),
      hc.mapDictKeys _, Obj.data_mapDictKeys hd _, ?_, ?_, ?_⟩ (Heap.SameBut.update ..))))))
    · rw [storedH_new (atKey_none_of_get hno)]
      simp [he, entryOfKey]
    · rw [storedH_new (atKey_none_of_get hno)]
      intro x hx
      rcases List.mem_append.mp hx with hx | hx
      · exact knd.keeps (his x hx) ho hd (Heap.SameBut.update ..)
      · simp only [List.mem_singleton] at hx
        subst hx
        exact knd.keeps hkey ho hd (Heap.SameBut.update ..)
    · rw [storedH_new (atKey_none_of_get hno)]
      rw [List.map_append, List.nodup_append]
      refine ⟨hn, by simp, ?_⟩
      intro x hx y hy
      simp only [List.map_cons, List.map_nil, List.mem_singleton] at hy
      subst hy
      exact fun e => hnot (e ▸ hx)
  · intro j p hj
    refine wpAny_bind (wpAny_dictEntries (s := { s with toks := s.toks + knd.draws k }) ho hd ?_)
    rw [entry_at he j, hj]
    exact wpAny_bind (wpAny_rule (wpAny_pure (h1 p (atKey_of_get hn hj))))
theorem meetsH_setdefault (knd : HeapKind prog w K) (d a : Addr) (hd : (d == sysModules) = false) (dflt : Value) :
    MeetsIn prog w (Builtin.«dict.setdefault» ⟨[.ref d, .ref a, dflt], []⟩) (fun A R s => knd.room A.in1 ∧ ∃ k xs, knd.is s.heap k a ∧ s.heap.DictOfH knd d xs ∧ xs.length ≤ sizeLine ∧
      (∀ p, atKey xs k = some p → R (.ok (.ret p.2)) { s with toks := s.toks + knd.draws k }) ∧
      (atKey xs k = none → ∀ h', h'.DictOfH knd d (storedH xs k a dflt) → Heap.SameBut d s.heap h' → R (.ok (.ret dflt)) { s with heap := h', toks := s.toks + knd.draws k })) :=
  .of_wp fun A R s ⟨hu, k, xs, hkey, hm, hz, h1, h2⟩ => by
    unfold Builtin.«dict.setdefault»
    refine wpAny_bind ?_
    unfold Builtin.Dict.keyAndDefault
    refine wpAny_bind (wpAny_notOrdered_dict hm.typeIs ?_)
    show wpAny _ _ (pure (d, Value.ref a, some dflt)) _ _ s
    refine wpAny_pure ?_
    show wpAny _ _ (if (d == sysModules) = true then _ else (dictSetDefault d (.ref a) dflt >>= _)) _ _ s
    rw [if_neg (by rw [hd]; exact Bool.false_ne_true)]
    exact wpAny_bind (setDefault_heap hu hkey hm (fun p hp => wpAny_pure ⟨p.2, rfl, h1 p hp⟩) (fun hn h' hm' hs' => wpAny_pure ⟨dflt, rfl, h2 hn h' hm' hs'⟩) hz)
end
end PySem
namespace L2
open PySem PySem.Spec PyProof.Rows
section
variable {X : Cx} {pins : List (Addr × Obj)} {σ : St} {H : Hp} {s : Shared} {a b : Addr} {kvs : List (List Key × V)} {k : List Key} {z : V} {r : Value} {A : Around} {E : Value → Shared → Prop}
theorem d_setdT {Q : Value → Shared → Prop} (hu : A.units + 1 < cLine) (I : Inv X pins σ H s) (e : H a = some (.dT kvs)) (eb : H b = some (.tup (k.map kV))) (hl : kvs.length < sizeLine) (rz : RelV z r)
    (h1 : ∀ v w' s', valV kvs k = some v → Inv X pins σ H s' → RelV v w' → Q w' s') (h2 : valV kvs k = none → ∀ s', Inv X pins σ (upd H a (.dT (putK kvs k z))) s' → Q r s') :
    wpAny (model X.prog X.w) A (call (.builtin "dict.setdefault") [.ref a, .ref b, r]) Q E s := by
  obtain ⟨zl, hd, xs, rel, dd⟩ := dt_of I.hok e
  have rv := rel.val k
  refine call_meetsIn PySem.F.slot_dict_setdefault dd.typeIs PySem.F.entry_dict_setdefault (PySem.F.args_dict_setdefault_3 _ _ _) (meetsH_setdefault (tupleKind (mixKind X.prog X.w)) a b hd r) ⟨tupleKind_room_in1 hu, k, xs, key_of I.hok eb, dd, by rw [← Paired.length rel]; exact zl, fun p hp => ?_, fun hn h' dd' hs => ?_⟩
  · rw [hp] at rv
    cases ev : valV kvs k with
    | none =>
      rw [ev] at rv
      exact rv.elim
    | some v =>
      rw [ev] at rv
      exact h1 v p.2 _ ev (I.tok _) rv
  · have hp : (putK kvs k z).length ≤ sizeLine := by have := length_putK kvs k z; omega
    obtain ⟨q, es, ep, hq, g2, g3, g4, _, g5⟩ := dd'
    refine h2 ?_ _ (d_write I (by rw [e]; exact True.intro) hs ⟨q, hq⟩ ⟨hp, hd, _, (rel.put k eb rz).keeps fun c ys ec => ?_, q, es, ep, hq, g2, g3, g4, g5⟩)
    · rw [hn] at rv
      cases ev : valV kvs k with
      | none => rfl
      | some v =>
        rw [ev] at rv
        exact rv.elim
    · rw [upd_ne (ne_of ec e (fun z => nomatch z))]
      exact ec
end
def tDSetdT (td ty tx : TE) : TE := fun σ H Q => td σ H fun x H1 => ∃ a, x = .ref a ∧ IsD H1 a ∧ ty σ H1 fun y H2 => tx σ H2 fun z H3 => ∃ kvs k b, H3 a = some (.dT kvs) ∧ y = .ref b ∧ H3 b = some (.tup (k.map kV)) ∧ kvs.length < sizeLine ∧
  (∀ v, valV kvs k = some v → Q v H3) ∧ (valV kvs k = none → Q z (upd H3 a (.dT (putK kvs k z))))
section
variable {X : Cx} {o e f : Expr} {apos cpos : Pos} {td ty tx : TE}
theorem pe_dsetdT (hu : X.A.units + 1 < cLine) (ho : PE X o td) (he : PE X e ty) (hf : PE X f tx) (m : M2 X o "setdefault" apos e f cpos) : PE X (.Call (.Attribute o "setdefault" apos) [e, f] [] cpos) (tDSetdT td ty tx) := by
  intro pins s σ H Q I h
  refine wpAny_Call_method m.base m.few m.line PySem.F.plainAttrs_dict PySem.F.slot_dict_setdefault PySem.F.type_dict_setdefault (thn (ho pins s σ H _ I h) fun u s1 ⟨x, H1, I1, rx, a, ex, d, q1⟩ => ?_)
  subst ex
  obtain rfl : u = Value.ref a := rx
  obtain ⟨t1, t2, _⟩ := isD_at I1 d
  refine ⟨t1, t2, ?_⟩
  rw [m.trees]
  refine Calls.callWith_builtin rfl (Calls.evalArgs_plain (Calls.spliced_cons (thn (he pins s1 σ H1 _ I1 q1) fun iv s2 ⟨y, H2, I2, ry, q2⟩ =>
    Calls.spliced_cons (thn (hf pins s2 σ H2 _ I2 q2) fun fv s3 ⟨z, H3, I3, rz, kvs, k, b, eH, ey, eb, hl, q3, q4⟩ => Calls.spliced_nil ?_))))
  subst ey
  obtain rfl : iv = Value.ref b := ry
  exact d_setdT hu I3 eH eb hl rz (fun v w' s4 ev I4 rw' => ⟨_, H3, I4, rw', q3 v ev⟩) fun en s4 I4 => ⟨z, _, I4, rz, q4 en⟩
end
end L2
namespace L2
open PySem PySem.Spec PyProof.Rows PySem.W
section
variable {X : Cx} {tg : Expr}
end
end L2
open PySem PySem.W PyProof.Rows
namespace L2
theorem us0 {p : List Value → Prop} (h : p []) : ∀ us : List Value, us.length = 0 → p us := fun _ e => (List.length_eq_zero_iff.mp e).symm ▸ h
theorem us1 {p : List Value → Prop} (h : ∀ a : Value, p [a]) : ∀ us : List Value, us.length = 1 → p us
  | [], e => absurd e (by decide)
  | a :: t, e => us0 (p := fun us => p (a :: us)) (h a) t (Nat.succ.inj e)
theorem us2 {p : List Value → Prop} (h : ∀ a b : Value, p [a, b]) : ∀ us : List Value, us.length = 2 → p us
  | [], e => absurd e (by decide)
  | a :: t, e => us1 (p := fun us => p (a :: us)) (h a) t (Nat.succ.inj e)
theorem us3 {p : List Value → Prop} (h : ∀ a b c : Value, p [a, b, c]) : ∀ us : List Value, us.length = 3 → p us
  | [], e => absurd e (by decide)
  | a :: t, e => us2 (p := fun us => p (a :: us)) (h a) t (Nat.succ.inj e)
theorem us4 {p : List Value → Prop} (h : ∀ a b c d : Value, p [a, b, c, d]) : ∀ us : List Value, us.length = 4 → p us
  | [], e => absurd e (by decide)
  | a :: t, e => us3 (p := fun us => p (a :: us)) (h a) t (Nat.succ.inj e)
theorem us5 {p : List Value → Prop} (h : ∀ a b c d e : Value, p [a, b, c, d, e]) : ∀ us : List Value, us.length = 5 → p us
  | [], e => absurd e (by decide)
  | a :: t, e => us4 (p := fun us => p (a :: us)) (h a) t (Nat.succ.inj e)
theorem us6 {p : List Value → Prop} (h : ∀ a b c d e f : Value, p [a, b, c, d, e, f]) : ∀ us : List Value, us.length = 6 → p us
  | [], e => absurd e (by decide)
  | a :: t, e => us5 (p := fun us => p (a :: us)) (h a) t (Nat.succ.inj e)
structure FiK (K : PySem.W.Frag) (x : Str) (st : Stmt) : Prop where
  ex : ∃ (f : Addr) (oc : Value) (od an : Option Addr) (osl : Array (Option Value)) (kV doc pm cdv ct : Value), PySem.W.nsIn K mainGlobals x = some (some (.ref f)) ∧
    K.lookup f = some ⟨oc, od, .func (PySem.W.fnOf x x (defArgs st) (defBody st) (defScope st) .none kV doc pm an cdv ct), osl⟩ ∧ PySem.W.codeIn K cdv x = true ∧ PySem.W.keepIn K (.ref f) = true
theorem fiK {K : PySem.W.Frag} {x : Str} {st : Stmt} {f : Addr} {oc : Value} {od an : Option Addr} {osl : Array (Option Value)} {kV doc pm cdv ct : Value} (a : PySem.W.nsIn K mainGlobals x = some (some (.ref f)))
    (l : K.lookup f = some ⟨oc, od, .func (PySem.W.fnOf x x (defArgs st) (defBody st) (defScope st) .none kV doc pm an cdv ct), osl⟩) (c : PySem.W.codeIn K cdv x = true) (k : PySem.W.keepIn K (.ref f) = true) : FiK K x st :=
  ⟨f, oc, od, an, osl, kV, doc, pm, cdv, ct, a, l, c, k⟩
theorem FiK.top {K : PySem.W.Frag} {h : Heap} {mg : Str → Option Value} {x : Str} {st : Stmt} {ps : List Str} (F : FiK K x st) (X : K.In h) (G : h.Ns mainGlobals mg)
    (b : ∀ (kV doc pm : Value) (an : Option Addr) (cdv ct : Value) (us : List Value), us.length = ps.length → bindArgs (PySem.W.fnOf x x (defArgs st) (defBody st) (defScope st) .none kV doc pm an cdv ct) ⟨us, []⟩ = pure (ps.zip us)) : Top K mg x st ps := by
  obtain ⟨f, oc, od, an, osl, kV, doc, pm, cdv, ct, a, l, c, k⟩ := F.ex
  exact top_mk X G b a l c k
structure MiK (K : PySem.W.Frag) (x m qual : Str) (st : Stmt) : Prop where
  ex : ∃ (C f : Addr) (oc : Value) (od an : Option Addr) (osl : Array (Option Value)) (kV doc pm cdv ct : Value), PySem.W.nsIn K mainGlobals x = some (some (.ref C)) ∧ PySem.W.findIn K (.ref C) m = some (some (.ref f)) ∧ PySem.W.isFn K (.ref f) = true ∧
    K.lookup f = some ⟨oc, od, .func (PySem.W.fnOf m qual (defArgs st) (defBody st) (defScope st) .none kV doc pm an cdv ct), osl⟩ ∧ PySem.W.codeIn K cdv qual = true ∧ PySem.W.keepIn K (.ref f) = true
theorem miK {K : PySem.W.Frag} {x m qual : Str} {st : Stmt} {C f : Addr} {oc : Value} {od an : Option Addr} {osl : Array (Option Value)} {kV doc pm cdv ct : Value} (n : PySem.W.nsIn K mainGlobals x = some (some (.ref C)))
    (a : PySem.W.findIn K (.ref C) m = some (some (.ref f))) (i : PySem.W.isFn K (.ref f) = true)
    (l : K.lookup f = some ⟨oc, od, .func (PySem.W.fnOf m qual (defArgs st) (defBody st) (defScope st) .none kV doc pm an cdv ct), osl⟩) (c : PySem.W.codeIn K cdv qual = true) (k : PySem.W.keepIn K (.ref f) = true) : MiK K x m qual st :=
  ⟨C, f, oc, od, an, osl, kV, doc, pm, cdv, ct, n, a, i, l, c, k⟩
theorem MiK.top {K : PySem.W.Frag} {h : Heap} {mg : Str → Option Value} {x m qual : Str} {st : Stmt} {ps : List Str} (F : MiK K x m qual st) (X : K.In h) (G : h.Ns mainGlobals mg)
    (b : ∀ (kV doc pm : Value) (an : Option Addr) (cdv ct : Value) (us : List Value), us.length = ps.length → bindArgs (PySem.W.fnOf m qual (defArgs st) (defBody st) (defScope st) .none kV doc pm an cdv ct) ⟨us, []⟩ = pure (ps.zip us)) : MTop K (cA mg x) m qual st ps := by
  obtain ⟨C, f, oc, od, an, osl, kV, doc, pm, cdv, ct, n, a, i, l, c, k⟩ := F.ex
  rw [cA_of (PySem.W.mg_of X G n)]
  exact mtop_mk b a i l c k
structure CiK (K : PySem.W.Frag) (x : Str) : Prop where
  ex : ∃ C : Addr, PySem.W.nsIn K mainGlobals x = some (some (.ref C)) ∧ PySem.W.plainGet K C Str.empty = true ∧ PySem.W.hasDictIn K C = true ∧ PySem.W.plainOver K C = true ∧
    PySem.W.findIn K (.ref C) "__setattr__" = some (some (.builtin "object.__setattr__")) ∧ PySem.W.makesIn K C = true ∧ PySem.W.keepIn K (.ref C) = true
theorem ciK {K : PySem.W.Frag} {x : Str} {C : Addr} (n : PySem.W.nsIn K mainGlobals x = some (some (.ref C))) (pg : PySem.W.plainGet K C Str.empty = true) (hd : PySem.W.hasDictIn K C = true) (po : PySem.W.plainOver K C = true)
    (sa : PySem.W.findIn K (.ref C) "__setattr__" = some (some (.builtin "object.__setattr__"))) (mk : PySem.W.makesIn K C = true) (kc : PySem.W.keepIn K (.ref C) = true) : CiK K x := ⟨C, n, pg, hd, po, sa, mk, kc⟩
section
variable {K : PySem.W.Frag} {h : Heap} {mg : Str → Option Value} {x a : Str} {v : Option (Option Value)}
theorem CiK.g (F : CiK K x) (X : K.In h) (G : h.Ns mainGlobals mg) : mg x = some (.ref (cA mg x)) := by
  obtain ⟨C, n, _⟩ := F.ex
  rw [cA_of (PySem.W.mg_of X G n)]
  exact PySem.W.mg_of X G n
theorem CiK.cl (F : CiK K x) (X : K.In h) (G : h.Ns mainGlobals mg) : Cls K (cA mg x) := by
  obtain ⟨C, n, pg, hd, po, sa, _⟩ := F.ex
  rw [cA_of (PySem.W.mg_of X G n)]
  exact ⟨pg, hd, po, sa⟩
theorem CiK.mk' (F : CiK K x) (X : K.In h) (G : h.Ns mainGlobals mg) : PySem.W.makesIn K (cA mg x) = true := by
  obtain ⟨C, n, _, _, _, _, mk, _⟩ := F.ex
  rw [cA_of (PySem.W.mg_of X G n)]
  exact mk
theorem CiK.kp (F : CiK K x) (X : K.In h) (G : h.Ns mainGlobals mg) : PySem.W.keepIn K (.ref (cA mg x)) = true := by
  obtain ⟨C, n, _, _, _, _, _, kc⟩ := F.ex
  rw [cA_of (PySem.W.mg_of X G n)]
  exact kc
structure AiK (K : PySem.W.Frag) (x a : Str) (v : Option (Option Value)) : Prop where
  ex : ∃ C : Addr, PySem.W.nsIn K mainGlobals x = some (some (.ref C)) ∧ PySem.W.findIn K (.ref C) a = v
theorem aiK {C : Addr} (n : PySem.W.nsIn K mainGlobals x = some (some (.ref C))) (f : PySem.W.findIn K (.ref C) a = v) : AiK K x a v := ⟨C, n, f⟩
theorem AiK.at' (F : AiK K x a v) (X : K.In h) (G : h.Ns mainGlobals mg) : PySem.W.findIn K (.ref (cA mg x)) a = v := by
  obtain ⟨C, n, f⟩ := F.ex
  rw [cA_of (PySem.W.mg_of X G n)]
  exact f
end
end L2
namespace L2
open PySem PySem.Spec PyProof.Rows PySem.Builtin.Str
section
variable {X : Cx}
variable {v1 v2 v3 e : Expr} {t1 t2 t3 te : TE} {pos : Pos}
end
end L2
namespace L2
open PySem PySem.Spec PyProof.Rows PySem.Builtin.Str PySem.StrLaws PySem.NumText
end L2
namespace L2
open PySem PySem.Spec PyProof.Rows PySem.W Builtin
section
variable {X : Cx}
end
section
variable {prog : Program} {w : World} {A : Around} {E : Value → Shared → Prop}
end
section
variable {X : Cx}
end
end L2
namespace L2
open PySem PySem.Spec PyProof.Rows
section
variable {prog : Program} {w : World} {A : Around} {R : Result → Shared → Prop} {I : Addr} {fp wr : List Addr} {n : Nat} {P : Nat → Value → Prop} {St : Nat → Heap → Prop}
end
section
variable {X : Cx} {e d : Expr} {t tk : TA} {p pos kpos : Pos}
end
section
variable {X : Cx}
end
end L2
namespace L2
open PySem PySem.Spec PyProof.Rows PySem.W
namespace Tab
end Tab
end L2
namespace L2
open PySem PySem.Spec PyProof.Rows PySem.W
namespace Tab
end Tab
end L2
namespace L2
open PySem PySem.Spec PyProof.Rows PySem.W
section
variable {P : Program} {w : World} {A : Around} {E : Value → Shared → Prop} {s : Shared}
end
end L2
namespace L2
open PySem PySem.Spec PyProof.Rows PySem.W
section
variable {prog : Program} {w : World} {A : Around} {R : Result → Shared → Prop} {I : Addr} {fp wr : List Addr} {G : Array GenState → Array GenState → Prop} {n : Nat} {P : Nat → Value → Prop} {St : Nat → Shared → Prop}
end
section
variable {prog : Program} {w : World} {A : Around} {E : Value → Shared → Prop} {s : Shared}
end
end L2
namespace L2
open PySem PySem.Spec PyProof.Rows PySem.W
section
variable {prog : Program} {w : World} {A : Around} {E : Value → Shared → Prop} {s : Shared} {a : Addr} {xs : List (Addr × List Str)}
end
end L2
namespace L2
open PySem PySem.Spec PyProof.Rows PySem.W
section
variable {X : Cx} {pins : List (Addr × Obj)} {σ : St} {H : Hp} {s : Shared}
end
end L2
namespace L2
open PySem PySem.Spec PyProof.Rows PySem.W
section
variable {X : Cx} {pins : List (Addr × Obj)} {σ : St} {H : Hp} {s : Shared}
end
end L2
namespace L2
open PySem PySem.Spec PyProof.Rows PySem.Builtin.Str PySem.StrLaws PySem.NumText
end L2
namespace Tim
open PySem PyProof.Rows
section
variable {M : Model} {A : Around} {E : Value → Shared → Prop} {s : Shared} {kd : SortKind} {S : Keyed → Prop} {rk : Keyed → Int} {n : Nat}
def Dne (rk : Keyed → Int) (n : Nat) (st st' : SortSt) : Prop := (arrOf st').Perm (arrOf st) ∧ failedOf st' = none ∧ (pendingOf st').size ≤ 1 ∧ Up rk (arrOf st') 0 n
theorem w_sortRunsS (L : LtOk M A E s kd S rk) {st : SortSt} (B : Sane kd S n st) (h2 : 2 ≤ n) (h64 : n < 64) (hp : pendingOf st = #[]) {Q : Unit → SortSt → Prop}
    (h : ∀ st', (arrOf st').Perm (arrOf st) → failedOf st' = none → Up rk (arrOf st') 0 n → Q () st') : wpS M A E s sortRuns' Q st := by
  rw [sortRuns'_eq]
  refine wpS_bind (wpS_get ?_)
  dsimp only
  simp only [B.size]
  have hmr : minRun' n n 0 = n := by
    obtain ⟨f, hf⟩ : ∃ f, n = f + 1 := ⟨n - 1, by omega⟩
    have : minRun' (f + 1) n 0 = n := by rw [minRun'_succ, if_pos h64]; rfl
    rwa [← hf] at this
  refine wpS_bind (wpS_mono (wpS_forRange (I := fun x c st' => (x = 0 ∧ c = (none, 0) ∧ st' = st) ∨ (c = (none, n) ∧ Dne rk n st st'))
    (Q := fun c st' => c = (none, n) ∧ Dne rk n st st') ?turn ?last (.inl ⟨rfl, rfl, rfl⟩)) ?after)
  case last =>
    rintro c st' (⟨h0, _⟩ | z)
    · omega
    · exact z
  case turn =>
    rintro x c st' _ hx (⟨rfl, rfl, rfl⟩ | ⟨rfl, D⟩)
    · dsimp only
      rw [if_neg (show ¬ 0 ≥ n by omega)]
      refine wpS_bind (w_countRun L B (by omega) (by omega) fun k st2 v2 k1 k2 u2 => ?_)
      dsimp only
      rw [hmr]
      have fin : ∀ st3 : SortSt, Mv 0 (0 + (n - 0)) st' st3 → Up rk (arrOf st3) 0 n → Dne rk n st' (setPending st3 ((pendingOf st3).push (0, n, 0))) := fun st3 v3 u3 => by
        refine ⟨v3.perm, (v3.sane B).failed, ?_, u3⟩
        show ((pendingOf st3).push (0, n, 0)).size ≤ 1
        rw [v3.pend, hp]
        exact Nat.le_refl _
      have back : ∀ st3 : SortSt, Mv 0 (0 + (n - 0)) st' st3 → (pendingOf st3).back? = none := fun st3 v3 => by
        rw [v3.pend, hp]
        rfl
      by_cases hlt : k < n
      · rw [if_pos hlt]
        refine wpS_bind (wpS_lift (wpAny_rule ⟨rfl, ?_⟩))
        rw [show min (n - 0) n = n by omega]
        refine wpS_bind (w_binarySort L (v2.sane B) (by omega) (by omega) u2 fun st3 v3 u3 => ?_)
        have v4 : Mv 0 (0 + (n - 0)) st' st3 := v2.trans (v3.wide (Nat.le_refl _) (by omega))
        simp only [Bool.not_true, Bool.false_eq_true, if_false]
        refine wpS_bind (wpS_get ?_)
        rw [back st3 v4]
        dsimp only
        rw [show (0 + n) = n by omega] at *
        exact wpS_bind (wpS_modify (wpS_pure (.inr ⟨rfl, fin st3 v4 u3⟩)))
      · rw [if_neg hlt]
        have e : k = n := by omega
        subst e
        refine wpS_bind (wpS_get ?_)
        rw [back st2 v2]
        dsimp only
        rw [show (0 + k) = k by omega] at *
        exact wpS_bind (wpS_modify (wpS_pure (.inr ⟨rfl, fin st2 v2 u2⟩)))
    · dsimp only
      rw [if_pos (Nat.le_refl n)]
      exact wpS_pure ⟨rfl, D⟩
  case after =>
    rintro c st' ⟨rfl, D⟩
    dsimp only
    refine wpS_bind (wpS_mono (wpS_forRange (I := fun _ c st4 => c = (none, ()) ∧ Dne rk n st st4) (Q := fun c st4 => c = (none, ()) ∧ Dne rk n st st4) ?fturn (fun _ _ z => z) ⟨rfl, D⟩) ?fafter)
    case fturn =>
      rintro j c st4 _ hj ⟨rfl, D4⟩
      refine wpS_bind (wpS_get ?_)
      rw [if_pos D4.2.2.1]
      exact wpS_pure ⟨rfl, D4⟩
    case fafter =>
      rintro c st4 ⟨rfl, D4⟩
      dsimp only
      exact wpS_pure (h st4 D4.1 D4.2.1 D4.2.2.2)
end
end Tim
namespace Tim
open PySem PyProof.Rows
section
variable {prog : Program} {w : World} {A : Around} {E : Value → Shared → Prop} {s : Shared}
theorem list_sort_small {a : Addr} {vs : List Value} {n : Nat} {rk : Value → Int} {P : PySem.Fin → Shared → Prop} (ho : s.heap.get? a = some (seqObj "list" vs.toArray n)) (h64 : vs.length < 64) (hk : Keys prog w A s a vs rk)
    (h : ∀ out : Array Value, Sorted rk vs out.toList → P (.done (.ret .none)) { s with heap := sortedHeap s.heap a vs out }) : wpAny (model prog w) A (Builtin.«list.sort» ⟨[.ref a], []⟩) P E s := by
  have hz : vs.length ≤ sizeLine := Nat.le_trans (Nat.le_of_lt h64) (by decide)
  rw [list_sort_plain]
  have ha : a < s.heap.objs.size := Heap.lt_size ho
  have hvs : vs.toArray.size = vs.length := List.size_toArray
  refine wpAny_bind (listItems_at ho rfl (wpAny_bind (listUpdate_at ho rfl ?_ (by rw [hvs]; exact hz) (Nat.zero_le _))))
  obtain ⟨e1, ho1⟩ : ∃ e1, (s.heap.update a (Obj.mapSeq fun _ => #[])).get? a = some (seqObj "list" #[] e1) := ⟨_, get?_update_seq ho (fun _ => #[])⟩
  refine wpAny_bind (seqEpoch_at ho1 rfl (wpAny_bind (wpAny_newTuple (wpAny_bind (wpAny_newList (wpAny_holding ?_))))))
  have s1 := Heap.SameBut.update s.heap a (Obj.mapSeq fun _ => (#[] : Array Value))
  have keep : ∀ b o, (s.heap.update a (Obj.mapSeq fun _ => #[])).get? b = some o → (((s.heap.update a (Obj.mapSeq fun _ => #[])).push (seqObj "tuple" vs.toArray 0)).push (seqObj "list" #[] 0)).get? b = some o :=
    fun b o e => Heap.get?_push_of_some _ (Heap.get?_push_of_some _ e)
  have ho6 := keep a _ ho1
  have others : ∀ b o, b ≠ a → s.heap.get? b = some o → (((s.heap.update a (Obj.mapSeq fun _ => #[])).push (seqObj "tuple" vs.toArray 0)).push (seqObj "list" #[] 0)).get? b = some o :=
    fun b o hb e => keep b o ((s1.2 b hb).trans e)
  show wpAny (model prog w) A _ P E { s with heap := ((s.heap.update a (Obj.mapSeq fun _ => #[])).push (seqObj "tuple" vs.toArray 0)).push (seqObj "list" #[] 0) }
  dsimp only
  by_cases h2 : vs.toArray.size < 2
  · rw [if_pos h2, if_pos h2]
    refine wpAny_bind (wpAny_pure ?_)
    rw [StateT.run_pure]
    refine wpAny_bind (wpAny_pure ?_)
    dsimp only
    have es : ((vs.toArray.zip vs.toArray).map (·.2)).toList = vs := by
      rw [Array.toList_map]
      show (pairsOf vs).toList.map _ = _
      rw [pairsOf_toList, List.map_snd_zip (Nat.le_refl _)]
    refine wpAny_bind (seqEpoch_at ho6 rfl (wpAny_bind (listUpdate_at ho6 rfl ?_ (Nat.zero_le _) (by rw [← Array.length_toList, es]; omega))))
    simp only [bne_self_eq_false, Bool.false_eq_true, if_false]
    refine wpAny_pure (h _ ?_)
    rw [es]
    refine ⟨List.Perm.refl _, ?_⟩
    rw [hvs] at h2
    match vs, h2 with
    | [], _ => exact .nil
    | [_], _ => exact List.pairwise_singleton ..
  · rw [if_neg h2, if_neg h2]
    obtain ⟨kd, kk, kl⟩ := hk (by omega) { s with heap := ((s.heap.update a (Obj.mapSeq fun _ => #[])).push (seqObj "tuple" vs.toArray 0)).push (seqObj "list" #[] 0) } others
    refine wpAny_bind (kk _ _ ?_)
    have hS : ∀ p ∈ (vs.toArray.zip vs.toArray).toList, p.1 ∈ vs := fun p hp => by
      have hp' : p ∈ (pairsOf vs).toList := hp
      rw [pairsOf_toList] at hp'
      exact (mem_zip_self hp').2
    refine wpAny_bind (wpAny_mono (w_sortRunsS (S := fun p => p.1 ∈ vs) (rk := fun p => rk p.1) (n := vs.length) (st := SortSt.mk' kd (vs.toArray.zip vs.toArray) #[] 7 none)
      (Q := fun _ st' => (arrOf st').Perm (pairsOf vs) ∧ failedOf st' = none ∧ Up (fun p => rk p.1) (arrOf st') 0 vs.length)
      (ltOk_of fun x y hx hy => kl x.1 hx y.1 hy) ⟨pairsOf_size vs, hS, rfl, rfl⟩ (by omega) h64 rfl fun st' a1 a2 a3 => ⟨a1, a2, a3⟩) ?_ fun _ _ e => e)
    rintro ⟨⟨⟩, st'⟩ s' ⟨rfl, hp, hf, hu⟩
    dsimp only
    have so := sorted_pairs hp hu
    refine wpAny_bind (seqEpoch_at ho6 rfl (wpAny_bind (listUpdate_at ho6 rfl ?_ (Nat.zero_le _) (by rw [← Array.length_toList, so.perm.length_eq]; omega))))
    rw [hf]
    simp only [bne_self_eq_false, Bool.false_eq_true, if_false]
    exact wpAny_pure (h _ so)
end
end Tim
namespace L2
open PySem PySem.Spec PyProof.Rows PySem.W
section
variable {prog : Program} {w : World} {A : Around} {E : Value → Shared → Prop} {s : Shared} {a : Addr}
theorem sorted_anyS {x : Value} {vs : List Value} {rk : Value → Int} {Q : Value → Shared → Prop} (h64 : vs.length < 64)
    (hc : ∀ (A' : Around) (E' : Value → Shared → Prop) (R : List Value → Shared → Prop), A'.handled = A.handled → (∀ h' tk, (∀ b o, s.heap.get? b = some o → h'.get? b = some o) → s.heap.objs.size ≤ h'.objs.size → R vs { s with heap := h', toks := tk }) → wpAny (model prog w) A' (collect x) R E' s)
    (hk : ∀ (A' : Around) (s' : Shared) (a : Addr), A'.units ≤ A.units + 4 → s.heap.objs.size ≤ a → (∀ b o, s.heap.get? b = some o → s'.heap.get? b = some o) → Tim.Keys prog w A' s' a vs rk)
    (h : ∀ (out : Array Value) (l : Addr) (n : Nat) (h' : Heap) (tk : Nat), Tim.Sorted rk vs out.toList → (∀ b o, s.heap.get? b = some o → h'.get? b = some o) → s.heap.objs.size ≤ l → h'.get? l = some (seqObj "list" out n) → Q (.ref l) { s with heap := h', toks := tk }) :
    wpAny (model prog w) A (call (.builtin "sorted") [x]) Q E s := by
  have hz : vs.length ≤ sizeLine := Nat.le_trans (Nat.le_of_lt h64) (by decide)
  refine Calls.call_function_entry kind_sorted plain_sorted entry_sorted (args_sorted1 _) ?_
  unfold Builtin.«sorted»
  refine wpAny_bind (m := checkCount "sorted" 1 1 _) (wpAny_pure ?_)
  refine wpAny_bind (hc _ _ _ rfl fun h1 tk keep hsz => ?_)
  refine wpAny_bind (wpAny_newList ?_ hz)
  have hoL : (h1.push (seqObj "list" vs.toArray 0)).get? h1.objs.size = some (seqObj "list" vs.toArray 0) := Heap.get?_push_size _ rfl
  show wpAny _ _ _ _ _ { s with heap := h1.push (seqObj "list" vs.toArray 0), toks := tk }
  have keep2 : ∀ b o, s.heap.get? b = some o → (h1.push (seqObj "list" vs.toArray 0)).get? b = some o := fun b o e => Heap.get?_push_of_some _ (keep b o e)
  refine wpAny_bind (wpAny_holding (wpAny_call_entry slot_list_sort ⟨_, hoL, rfl⟩ entry_list_sort (Tim.list_sort_small hoL h64 (hk _ _ _ ?_ hsz keep2) fun out so => ⟨_, rfl, ?_⟩) (args_list_sort _)))
  · show A.units + 2 ≤ A.units + 4
    omega
  · have hne : ∀ b o, s.heap.get? b = some o → b ≠ h1.objs.size := fun b o e => Nat.ne_of_lt (Nat.lt_of_lt_of_le (Heap.lt_size e) hsz)
    have u1 := Heap.SameBut.update (h1.push (seqObj "list" vs.toArray 0)) h1.objs.size (Obj.mapSeq fun _ => (#[] : Array Value))
    obtain ⟨e1, g1⟩ : ∃ e1, ((h1.push (seqObj "list" vs.toArray 0)).update h1.objs.size (Obj.mapSeq fun _ => (#[] : Array Value))).get? h1.objs.size = some (seqObj "list" #[] e1) := ⟨_, get?_update_seq hoL fun _ => #[]⟩
    have g2 := Heap.get?_push_of_some (seqObj "list" #[] 0) (Heap.get?_push_of_some (seqObj "tuple" vs.toArray 0) g1)
    have g3 := get?_update_seq g2 fun _ => out
    have u4 := Heap.SameBut.update (((((h1.push (seqObj "list" vs.toArray 0)).update h1.objs.size (Obj.mapSeq fun _ => (#[] : Array Value))).push (seqObj "tuple" vs.toArray 0)).push (seqObj "list" #[] 0))) h1.objs.size (Obj.mapSeq fun _ => out)
    refine wpAny_pure ⟨_, rfl, h out h1.objs.size _ _ tk so (fun b o e => ?_) hsz g3⟩
    refine (u4.2 b (hne b o e)).trans (Heap.get?_push_of_some _ (Heap.get?_push_of_some _ ((u1.2 b (hne b o e)).trans (keep2 b o e))))
theorem sorted_anyGS {x : Value} {Pv : List Value → Prop} {rk : List Value → Value → Int} {Q : Value → Shared → Prop} (h64 : ∀ vs, Pv vs → vs.length < 64)
    (hc : ∀ (A' : Around) (E' : Value → Shared → Prop) (R : List Value → Shared → Prop), A'.handled = A.handled → (∀ vs h' tk d, Pv vs → (∀ b o, s.heap.get? b = some o → h'.get? b = some o) → s.heap.objs.size ≤ h'.objs.size → R vs { s with heap := h', toks := tk, drawn := d }) → wpAny (model prog w) A' (collect x) R E' s)
    (hk : ∀ (vs : List Value) (A' : Around) (s' : Shared) (a : Addr), Pv vs → A'.units ≤ A.units + 4 → s.heap.objs.size ≤ a → (∀ b o, s.heap.get? b = some o → s'.heap.get? b = some o) → Tim.Keys prog w A' s' a vs (rk vs))
    (h : ∀ (vs : List Value) (out : Array Value) (l : Addr) (n : Nat) (h' : Heap) (tk : Nat) (d : Drawn), Pv vs → Tim.Sorted (rk vs) vs out.toList → (∀ b o, s.heap.get? b = some o → h'.get? b = some o) → s.heap.objs.size ≤ l → h'.get? l = some (seqObj "list" out n) → Q (.ref l) { s with heap := h', toks := tk, drawn := d }) :
    wpAny (model prog w) A (call (.builtin "sorted") [x]) Q E s := by
  refine Calls.call_function_entry kind_sorted plain_sorted entry_sorted (args_sorted1 _) ?_
  unfold Builtin.«sorted»
  refine wpAny_bind (m := checkCount "sorted" 1 1 _) (wpAny_pure ?_)
  refine wpAny_bind (hc _ _ _ rfl fun vs h1 tk d pv keep hsz => ?_)
  have h64 := h64 vs pv
  have hz : vs.length ≤ sizeLine := Nat.le_trans (Nat.le_of_lt h64) (by decide)
  refine wpAny_bind (wpAny_newList ?_ hz)
  have hoL : (h1.push (seqObj "list" vs.toArray 0)).get? h1.objs.size = some (seqObj "list" vs.toArray 0) := Heap.get?_push_size _ rfl
  show wpAny _ _ _ _ _ { s with heap := h1.push (seqObj "list" vs.toArray 0), toks := tk, drawn := d }
  have keep2 : ∀ b o, s.heap.get? b = some o → (h1.push (seqObj "list" vs.toArray 0)).get? b = some o := fun b o e => Heap.get?_push_of_some _ (keep b o e)
  refine wpAny_bind (wpAny_holding (wpAny_call_entry slot_list_sort ⟨_, hoL, rfl⟩ entry_list_sort (Tim.list_sort_small hoL h64 (hk vs _ _ _ pv ?_ hsz keep2) fun out so => ⟨_, rfl, ?_⟩) (args_list_sort _)))
  · show A.units + 2 ≤ A.units + 4
    omega
  · have hne : ∀ b o, s.heap.get? b = some o → b ≠ h1.objs.size := fun b o e => Nat.ne_of_lt (Nat.lt_of_lt_of_le (Heap.lt_size e) hsz)
    have u1 := Heap.SameBut.update (h1.push (seqObj "list" vs.toArray 0)) h1.objs.size (Obj.mapSeq fun _ => (#[] : Array Value))
    obtain ⟨e1, g1⟩ : ∃ e1, ((h1.push (seqObj "list" vs.toArray 0)).update h1.objs.size (Obj.mapSeq fun _ => (#[] : Array Value))).get? h1.objs.size = some (seqObj "list" #[] e1) := ⟨_, get?_update_seq hoL fun _ => #[]⟩
    have g2 := Heap.get?_push_of_some (seqObj "list" #[] 0) (Heap.get?_push_of_some (seqObj "tuple" vs.toArray 0) g1)
    have g3 := get?_update_seq g2 fun _ => out
    have u4 := Heap.SameBut.update (((((h1.push (seqObj "list" vs.toArray 0)).update h1.objs.size (Obj.mapSeq fun _ => (#[] : Array Value))).push (seqObj "tuple" vs.toArray 0)).push (seqObj "list" #[] 0))) h1.objs.size (Obj.mapSeq fun _ => out)
    refine wpAny_pure ⟨_, rfl, h vs out h1.objs.size _ _ tk d pv so (fun b o e => ?_) hsz g3⟩
    refine (u4.2 b (hne b o e)).trans (Heap.get?_push_of_some _ (Heap.get?_push_of_some _ ((u1.2 b (hne b o e)).trans (keep2 b o e))))
end
section
variable {X : Cx} {pins : List (Addr × Obj)} {σ : St} {H : Hp} {s : Shared}
theorem call_sortedIs (K : PySem.W.Frag) (hK : X.K = K := by rfl) : CallR X (.builtin "sorted") (fun xs H Q => ∃ p ws, xs = [.ref p] ∧ (SqL K H p (ws.map V.int) ∨ SqT K H p (ws.map V.int)) ∧ ws.length < 64 ∧ ∀ l, H l = none → Q (.ref l) (upd H l (.lst ((Tim.srt intLt ws).map V.int)))) := by
  subst hK
  intro pins s σ H xs us Q I r h
  obtain ⟨p, ws, rfl, hp, w64, q⟩ := h
  obtain ⟨u, rfl, ru⟩ := vals1 r
  cases ru
  obtain ⟨T, o, its, n, hT, ho, hc, hd, rv, hz⟩ : ∃ (T : String) (o : Obj) (its : List Value) (n : Nat), (T = "list" ∨ T = "tuple") ∧ s.heap.get? p = some o ∧ o.cls = .type T ∧ o.data = .seq its.toArray n ∧ Vals (ws.map V.int) its ∧ (ws.map V.int).length ≤ sizeLine := by
    rcases hp with hp | hp
    · obtain ⟨its, rv, ⟨o, n, e, c, _, d⟩, z⟩ := I.list hp
      exact ⟨"list", o, its, n, .inl rfl, e, c, d, rv, z⟩
    · obtain ⟨its, rv, ⟨o, e, c, n, d⟩, z⟩ := I.tuple hp
      exact ⟨"tuple", o, its, n, .inr rfl, e, c, d, rv, z⟩
  have hl : its.length ≤ sizeLine := by rw [← rv.length]; exact hz
  obtain ⟨e1, e2, _⟩ := vals_int rv
  refine sorted_anyS (vs := its) (rk := fun v => Tim.rank intLt (its.map iOf) (iOf v)) (by rw [← rv.length, List.length_map]; exact w64) (fun A' E' R _ k => collect_sq hT ho hc hd (by rw [List.size_toArray]; exact hl) (by rw [List.toList_toArray]; exact k)) (fun A' s' a _ _ _ => keys_ints rv) fun out l n h' tk so keep hl' hg => ?_
  have ho2 : ∀ u ∈ out.toList, ∃ x t, u = .int x t := fun u hu => e2 u (so.perm.mem_iff.mp hu)
  have ed := Tim.sorted_data sto_ints iOf so
  rw [e1] at ed
  have rv2 := vals_of_ints2 ho2
  rw [ed] at rv2
  exact I.sorted_list rv2 (by rw [List.length_map, (Tim.srt_perm intLt ws).length_eq]; rw [List.length_map] at hz; exact hz) keep hl' hg (q l (I.hok.fresh hl'))
theorem call_sortedTs (hc : X.calm = true) (P : Program) (w : World) (hP : X.prog = P := by rfl) (hw : X.w = w := by rfl) : CallR X (.builtin "sorted") (fun xs H Q => ∃ (p : Addr) (ys : List Str), xs = [.ref p] ∧ H p = some (SetH P w p ys) ∧ ys.length < 64 ∧ ∀ l, H l = none → Q (.ref l) (upd H l (.lst ((Tim.srt strLt ys).map V.str)))) := by
  subst hP hw
  intro pins s σ H xs us Q I r h
  obtain ⟨p, ys, rfl, hp, w64, q⟩ := h
  obtain ⟨u, rfl, ru⟩ := vals1 r
  cases ru
  obtain ⟨hS, _, _⟩ : ObjOk X.prog X.w H s.heap p (SetH X.prog X.w p ys) := I.hok p _ hp
  have yl : ys.length ≤ sizeLine := by
    obtain ⟨_, es, _, _, _, _, _, _, e, _, hb, _⟩ := id hS
    rw [← e, List.length_map, Array.length_toList]
    exact fits_of_scanBound hb
  have hh := I.ok.hd hc
  have rvs : ∀ vs, StrsP ys vs → Vals ((vs.map sOf).map V.str) vs := fun vs z => vals_of_strs z.2
  refine sorted_anyGS (Pv := StrsP ys) (rk := fun vs v => Tim.rank strLt (vs.map sOf) (sOf v)) (fun vs z => by rw [show vs.length = ys.length by rw [← z.1.length_eq, List.length_map]]; exact w64)
    (fun A' E' R e k => set_collect (by rw [e]; exact hh) hS fun vs h' tk d z => k vs h' tk d z) (fun vs A' s' a z _ _ _ => keys_strs (rvs vs z)) fun vs out l n h' tk d z so keep hl hg => ?_
  have ed := Tim.sorted_data sto_str sOf so
  have ho2 : ∀ u ∈ out.toList, ∃ x t, u = .str x t := fun u hu => z.2 u (so.perm.mem_iff.mp hu)
  have rv2 := vals_of_strs ho2
  have es : Tim.srt strLt (vs.map sOf) = Tim.srt strLt ys := Tim.srt_eq sto_str ((Tim.srt_perm strLt _).trans z.1) (Tim.srt_asc sto_str _)
  rw [ed, es] at rv2
  exact Inv.sorted_list (s := { s with drawn := d }) I.drew rv2 (by rw [List.length_map, (Tim.srt_perm strLt ys).length_eq]; exact yl) keep hl hg (q l (I.hok.fresh hl))
end
end L2
namespace L2
open PySem PySem.Spec PyProof.Rows PySem.W
section
variable {prog : Program} {w : World} {A : Around} {E : Value → Shared → Prop} {s : Shared} {I : Addr} {fp : List Addr} {n : Nat} {P : Nat → Value → Prop} {St : Nat → Heap → Prop} {T : String}
end
section
variable {X : Cx} {e : Expr} {te : TE} {p1 p2 q1 q2 : Pos}
end
end L2
namespace L2
open PySem PySem.Spec PyProof.Rows PySem.W
section
variable {prog : Program} {w : World} {A : Around} {E : Value → Shared → Prop} {s : Shared}
end
section
variable {prog : Program} {w : World} {A : Around} {E : Value → Shared → Prop} {s : Shared} {I : Addr} {fp : List Addr} {n : Nat} {P : Nat → Value → Prop} {St : Nat → Heap → Prop} {T : String}
end
section
variable {X : Cx} {e : Expr} {te : TE} {p1 p2 q1 q2 : Pos}
end
end L2
namespace L2
open PySem PySem.Spec PyProof.Rows
end L2
namespace L2
open PySem PySem.Spec PyProof.Rows
section
variable {X : Cx} {pins : List (Addr × Obj)} {σ : St} {H : Hp} {s : Shared} {a b : Addr} {kvs more : List (Key × V)} {A : Around} {E : Value → Shared → Prop}
theorem d_upd {Q : Value → Shared → Prop} (I : Inv X pins σ H s) (e : H a = some (.dK kvs)) (eb : Rd H b (.dK more)) (ne : a ≠ b) (hl : kvs.length + more.length ≤ sizeLine)
    (h : ∀ s', Inv X pins σ (upd H a (.dK (mergeK kvs more))) s' → Q .none s') :
    wpAny (model X.prog X.w) A (call (.builtin "dict.update") [.ref a, .ref b]) Q E s := by
  obtain ⟨zl, hd, vs, rel, dd⟩ := dk_of I.hok e
  obtain ⟨zb, hb, ws, relb, db⟩ := dk_rd I.hok eb
  refine call_meetsIn PySem.F.slot_dict_update dd.typeIs PySem.F.entry_dict_update (PySem.F.args_dict_update_2 _ _) (meets_dict_update (mixKind X.prog X.w) a b ne hb) ⟨vs, ws, dd, db, by rw [← rel.length, ← relb.length]; exact hl, fun h' dd' _ hs => ?_⟩
  have hp : (mergeK kvs more).length ≤ sizeLine := Nat.le_trans (length_mergeK more kvs) hl
  have he : ∃ q, h'.get? a = some q := let ⟨q, _, _, hq, _⟩ := dd'; ⟨q, hq⟩
  exact h _ (d_write I (by rw [e]; exact True.intro) hs he (dk_new hp hd (relb.merge rel) dd'))
end
def tDUpd (td ty : TE) : TE := fun σ H Q => td σ H fun x H1 => ∃ a, x = .ref a ∧ IsD H1 a ∧ ty σ H1 fun y H2 => ∃ kvs more b, H2 a = some (.dK kvs) ∧ y = .ref b ∧ Rd H2 b (.dK more) ∧ a ≠ b ∧ kvs.length + more.length ≤ sizeLine ∧
  Q .non (upd H2 a (.dK (mergeK kvs more)))
section
variable {X : Cx} {o e : Expr} {apos cpos : Pos} {td ty : TE}
theorem pe_dupd (ho : PE X o td) (he : PE X e ty) (m : M1 X o "update" apos e cpos) : PE X (.Call (.Attribute o "update" apos) [e] [] cpos) (tDUpd td ty) := by
  intro pins s σ H Q I h
  refine wpAny_Call_method m.base m.few m.line PySem.F.plainAttrs_dict PySem.F.slot_dict_update PySem.F.type_dict_update (thn (ho pins s σ H _ I h) fun u s1 ⟨x, H1, I1, rx, a, ex, d, q1⟩ => ?_)
  subst ex
  obtain rfl : u = Value.ref a := rx
  obtain ⟨t1, t2, _⟩ := isD_at I1 d
  refine ⟨t1, t2, ?_⟩
  rw [m.trees]
  refine Calls.callWith_builtin rfl (Calls.evalArgs_plain (Calls.spliced_cons (thn (he pins s1 σ H1 _ I1 q1) fun iv s2 ⟨y, H2, I2, ry, kvs, more, b, eH, ey, eb, ne, hl, q2⟩ => Calls.spliced_nil ?_)))
  subst ey
  obtain rfl : iv = Value.ref b := ry
  exact d_upd I2 eH eb ne hl fun s3 I3 => ⟨.non, _, I3, rfl, q2⟩
end
end L2
namespace L2
open PySem PySem.Spec PyProof.Rows
section
variable {X : Cx}
def keyOf : Value → Key
  | .int i _ => .inl i
  | .str z _ => .inr z
  | _ => .inl 0
theorem keyOf_is : ∀ {k : Key} {u : Value}, RelV (kV k) u → keyOf u = k
  | .inl i, _, ⟨t, e⟩ => by subst e; rfl
  | .inr z, _, ⟨t, e⟩ => by subst e; rfl
theorem eqAt_key {A : Around} {s : Shared} : ∀ {a b : Key} {u v : Value}, RelV (kV a) u → RelV (kV b) v → SeqAt.EqAt A s u v (decide (a = b))
  | .inl i, .inl j, _, _, ⟨t, e⟩, ⟨t2, e2⟩ => by
    subst e e2
    have := SeqAt.EqAt.int_int (A := A) (s := s) i t j t2
    rw [show decide ((Sum.inl i : Key) = Sum.inl j) = (i == j) by by_cases h : i = j <;> simp [h]]
    exact this
  | .inl i, .inr z, _, _, ⟨t, e⟩, ⟨t2, e2⟩ => by
    subst e e2
    exact SeqAt.EqAt.int_str i t z t2
  | .inr z, .inl i, _, _, ⟨t, e⟩, ⟨t2, e2⟩ => by
    subst e e2
    exact SeqAt.EqAt.str_int z t i t2
  | .inr x, .inr y, _, _, ⟨t, e⟩, ⟨t2, e2⟩ => by
    subst e e2
    rw [show decide ((Sum.inr x : Key) = Sum.inr y) = (x == y) by by_cases h : x = y <;> simp [h]]
    exact SeqAt.EqAt.str_str x t y t2
theorem vals_back : ∀ {ks : List Key} {us : List Value} {m : Nat} {y : Value}, Vals (ks.map kV) us → us[m]? = some y → ∃ a, ks[m]? = some a ∧ RelV (kV a) y
  | [], _, m, y, r, h => by
    cases r
    simp at h
  | k :: ks, _, 0, y, r, h => by
    cases r with
    | cons a b =>
      simp only [List.getElem?_cons_zero, Option.some.injEq] at h
      subst h
      exact ⟨k, rfl, a⟩
  | k :: ks, _, m + 1, y, r, h => by
    cases r with
    | cons a b => exact vals_back (ks := ks) (m := m) b (by simpa using h)
def rIndex : V → List V → Hp → VK → Prop := fun x vs H Q => ∃ (l : Addr) (ks : List Key) (k : Key) (j : Nat), x = .ref l ∧ vs = [kV k] ∧ H l = some (.lst (ks.map kV)) ∧ ks[j]? = some k ∧ (∀ m, m < j → ks[m]? ≠ some k) ∧ Q (.int j) H
theorem mt_index : MtM X "list.index" rIndex := by
  intro pins s σ H x vs v us Q I rx rv h
  obtain ⟨l, ks, k, j, rfl, rfl, hH, hj, hno, q⟩ := h
  cases rx
  obtain ⟨u, rfl, ru⟩ := rv.one
  obtain ⟨z, its, n, r, hl, e⟩ := I.lstM hH
  rw [List.length_map] at hl z
  have jl := (List.getElem?_eq_some_iff.mp hj).1
  have at_ : ∀ m (hm : m < its.length), ∃ a, ks[m]? = some a ∧ RelV (kV a) its[m] := fun m hm => vals_back r (List.getElem?_eq_getElem hm)
  have sz : j < 9223372036854775807 := Nat.lt_of_lt_of_le jl (Nat.le_trans z (by decide))
  refine call_meets F.slot_list_index ⟨_, e, rfl⟩ F.entry_list_index (F.args_list_index_2 _ _) (SeqAt.list_indexAt l its.toArray n none #[] u (fun y => decide (keyOf y = k)) j (by rw [List.size_toArray]; omega) (by omega) ?_ ?_) ⟨e, fun y hy => ?_, ?_⟩
  · obtain ⟨a, ha, ra⟩ := at_ j (by omega)
    rw [hj] at ha
    cases ha
    exact decide_eq_true (keyOf_is ra)
  · intro m hm hlt
    obtain ⟨a, ha, ra⟩ := at_ m (by rw [List.size_toArray] at hm; exact hm)
    refine decide_eq_false fun z => hno m hlt ?_
    have : keyOf its[m] = a := keyOf_is ra
    have z : keyOf its[m] = k := z
    rw [ha, ← this, z]
  · obtain ⟨m, hm, rfl⟩ := List.getElem_of_mem (show y ∈ its by simpa using hy)
    obtain ⟨a, ha, ra⟩ := at_ m hm
    rw [keyOf_is ra]
    exact eqAt_key ra ru
  · exact ⟨.int j, H, I.tok _, ⟨_, rfl⟩, q⟩
end
end L2
set_option maxHeartbeats 4000000
namespace Wy
open PySem L2
def top (i : Nat) : Stmt := PySem.Challenge.pw_whyrows_k45_no_instance_lacks.main.body.getD i (.Pass ⟨0, 0, 0, 0⟩)
abbrev s_is_whole : Stmt := top 4
abbrev s_is_text_begun_by : Stmt := top 5
abbrev s_is_var : Stmt := top 6
abbrev s_value_key : Stmt := top 8
abbrev s_value_before : Stmt := top 9
abbrev s_matched : Stmt := top 11
abbrev s_put_in : Stmt := top 12
abbrev s_holds : Stmt := top 13
abbrev s_variables_in : Stmt := top 15
abbrev s_variables_of_body : Stmt := top 16
abbrev s_are_known : Stmt := top 17
abbrev s_rows_by_shared : Stmt := top 19
abbrev s_choices_known : Stmt := top 20
abbrev s_choices_due : Stmt := top 21
abbrev s_all_hold : Stmt := top 22
abbrev s_asked_later : Stmt := top 23
abbrev s_Step_init : Stmt := inClass (top 24) 0
abbrev s_Step_joined_on : Stmt := inClass (top 24) 1
abbrev s_steps_of : Stmt := top 25
abbrev s_instances : Stmt := top 26
abbrev s__law_cell_at : Stmt := top 28
abbrev s__law_values : Stmt := top 29
abbrev s__law_marks : Stmt := top 30
abbrev s__law_pairs : Stmt := top 31
abbrev s__law_singles : Stmt := top 32
abbrev s__law_term : Stmt := top 33
abbrev s__law_rule : Stmt := top 34
abbrev s__law_binding : Stmt := top 35
abbrev s__law_chosen : Stmt := top 36
abbrev s__law_all_ways : Stmt := top 37
abbrev s_law : Stmt := top 38
theorem sc_is_whole : FnScope ["thing"] ["thing"] (defScope s_is_whole) := ⟨rfl, rfl, rfl, by decide +kernel, rfl, by decide +kernel, by decide +kernel⟩
theorem sc_is_text_begun_by : FnScope ["thing", "first_signs"] ["thing", "first_signs"] (defScope s_is_text_begun_by) := ⟨rfl, rfl, rfl, by decide +kernel, rfl, by decide +kernel, by decide +kernel⟩
theorem sc_is_var : FnScope ["thing"] ["thing"] (defScope s_is_var) := ⟨rfl, rfl, rfl, by decide +kernel, rfl, by decide +kernel, by decide +kernel⟩
theorem sc_value_key : FnScope ["value"] ["value"] (defScope s_value_key) := ⟨rfl, rfl, rfl, by decide +kernel, rfl, by decide +kernel, by decide +kernel⟩
theorem sc_value_before : FnScope ["one", "other"] ["one", "other"] (defScope s_value_before) := ⟨rfl, rfl, rfl, by decide +kernel, rfl, by decide +kernel, by decide +kernel⟩
theorem sc_matched : FnScope ["terms", "row", "binding", "bound", "term", "value"] ["terms", "row", "binding"] (defScope s_matched) := ⟨rfl, rfl, rfl, by decide +kernel, rfl, by decide +kernel, by decide +kernel⟩
theorem sc_put_in : FnScope ["terms", "binding"] ["terms", "binding"] (defScope s_put_in) := ⟨rfl, rfl, rfl, by decide +kernel, rfl, by decide +kernel, by decide +kernel⟩
theorem sc_holds : FnScope ["choice", "binding", "sides"] ["choice", "binding"] (defScope s_holds) := ⟨rfl, rfl, rfl, by decide +kernel, rfl, by decide +kernel, by decide +kernel⟩
theorem sc_variables_in : FnScope ["terms"] ["terms"] (defScope s_variables_in) := ⟨rfl, rfl, rfl, by decide +kernel, rfl, by decide +kernel, by decide +kernel⟩
theorem sc_variables_of_body : FnScope ["body", "found", "table", "terms"] ["body"] (defScope s_variables_of_body) := ⟨rfl, rfl, rfl, by decide +kernel, rfl, by decide +kernel, by decide +kernel⟩
theorem sc_are_known : FnScope ["terms", "known"] ["terms", "known"] (defScope s_are_known) := ⟨rfl, rfl, rfl, by decide +kernel, rfl, by decide +kernel, by decide +kernel⟩
theorem sc_rows_by_shared : FnScope ["terms", "rows", "shared", "by_shared", "row", "bound"] ["terms", "rows", "shared"] (defScope s_rows_by_shared) := ⟨rfl, rfl, rfl, by decide +kernel, rfl, by decide +kernel, by decide +kernel⟩
theorem sc_choices_known : FnScope ["choices", "known"] ["choices", "known"] (defScope s_choices_known) := ⟨rfl, rfl, rfl, by decide +kernel, rfl, by decide +kernel, by decide +kernel⟩
theorem sc_choices_due : FnScope ["choices", "ahead", "known"] ["choices", "ahead", "known"] (defScope s_choices_due) := ⟨rfl, rfl, rfl, by decide +kernel, rfl, by decide +kernel, by decide +kernel⟩
theorem sc_all_hold : FnScope ["choices", "binding"] ["choices", "binding"] (defScope s_all_hold) := ⟨rfl, rfl, rfl, by decide +kernel, rfl, by decide +kernel, by decide +kernel⟩
theorem sc_asked_later : FnScope ["rule", "place", "known", "wanted", "later", "choice"] ["rule", "place", "known", "wanted"] (defScope s_asked_later) := ⟨rfl, rfl, rfl, by decide +kernel, rfl, by decide +kernel, by decide +kernel⟩
theorem sc_Step_init : FnScope ["self", "rule", "place", "tables", "known", "wanted", "atom", "variables"] ["self", "rule", "place", "tables", "known", "wanted"] (defScope s_Step_init) := ⟨rfl, rfl, rfl, by decide +kernel, rfl, by decide +kernel, by decide +kernel⟩
theorem sc_Step_joined_on : FnScope ["self", "binding", "longer", "row", "bound", "together"] ["self", "binding"] (defScope s_Step_joined_on) := ⟨rfl, rfl, rfl, by decide +kernel, rfl, by decide +kernel, by decide +kernel⟩
theorem sc_steps_of : FnScope ["rule", "tables", "known", "wanted", "steps", "ahead", "place", "atom"] ["rule", "tables", "known", "wanted"] (defScope s_steps_of) := ⟨rfl, rfl, rfl, by decide +kernel, rfl, by decide +kernel, by decide +kernel⟩
theorem sc_instances : FnScope ["rule", "tables", "found", "step", "longer", "used", "binding"] ["rule", "tables"] (defScope s_instances) := ⟨rfl, rfl, rfl, by decide +kernel, rfl, by decide +kernel, by decide +kernel⟩
theorem sc__law_cell_at : FnScope ["_law_script", "_law_k"] ["_law_script", "_law_k"] (defScope s__law_cell_at) := ⟨rfl, rfl, rfl, by decide +kernel, rfl, by decide +kernel, by decide +kernel⟩
theorem sc__law_values : FnScope ["_law_script", "_law_one", "_law_other", "_law_word", "_law_some", "_law_turn"] ["_law_script"] (defScope s__law_values) := ⟨rfl, rfl, rfl, by decide +kernel, rfl, by decide +kernel, by decide +kernel⟩
theorem sc__law_marks : FnScope ["_law_cell", "_law_later", "_law_base"] ["_law_cell"] (defScope s__law_marks) := ⟨rfl, rfl, rfl, by decide +kernel, rfl, by decide +kernel, by decide +kernel⟩
theorem sc__law_pairs : FnScope ["_law_cell", "_law_values_here", "_law_found", "_law_one", "_law_other"] ["_law_cell", "_law_values_here"] (defScope s__law_pairs) := ⟨rfl, rfl, rfl, by decide +kernel, rfl, by decide +kernel, by decide +kernel⟩
theorem sc__law_singles : FnScope ["_law_cell", "_law_values_here", "_law_found", "_law_k"] ["_law_cell", "_law_values_here"] (defScope s__law_singles) := ⟨rfl, rfl, rfl, by decide +kernel, rfl, by decide +kernel, by decide +kernel⟩
theorem sc__law_term : FnScope ["_law_cell", "_law_marks_here", "_law_values_here", "_law_way"] ["_law_cell", "_law_marks_here", "_law_values_here"] (defScope s__law_term) := ⟨rfl, rfl, rfl, by decide +kernel, rfl, by decide +kernel, by decide +kernel⟩
theorem sc__law_rule : FnScope ["_law_script", "_law_tables", "_law_marks_here", "_law_values_here", "_law_body", "_law_k", "_law_one", "_law_other", "_law_at", "_law_there", "_law_atom", "_law_many", "_law_head", "_law_choices", "_law_sign"] ["_law_script", "_law_tables", "_law_marks_here", "_law_values_here"] (defScope s__law_rule) := ⟨rfl, rfl, rfl, by decide +kernel, rfl, by decide +kernel, by decide +kernel⟩
theorem sc__law_binding : FnScope ["_law_body", "_law_used", "_law_marks_here", "_law_binding_here", "_law_k", "_law_term_here", "_law_value"] ["_law_body", "_law_used", "_law_marks_here"] (defScope s__law_binding) := ⟨rfl, rfl, rfl, by decide +kernel, rfl, by decide +kernel, by decide +kernel⟩
theorem sc__law_chosen : FnScope ["_law_choices", "_law_binding_here", "_law_some", "_law_sign", "_law_one", "_law_other", "_law_mine", "_law_yours"] ["_law_choices", "_law_binding_here", "_law_some"] (defScope s__law_chosen) := ⟨rfl, rfl, rfl, by decide +kernel, rfl, by decide +kernel, by decide +kernel⟩
theorem sc__law_all_ways : FnScope ["_law_body", "_law_tables", "_law_ways", "_law_atom", "_law_longer", "_law_way"] ["_law_body", "_law_tables"] (defScope s__law_all_ways) := ⟨rfl, rfl, rfl, by decide +kernel, rfl, by decide +kernel, by decide +kernel⟩
theorem sc_law : FnScope ["_law_script", "_law_some", "_law_values_here", "_law_marks_here", "_law_rows", "_law_names", "_law_tables", "_law_k", "_law_rule_here", "_law_found", "_law_used", "_law_binding_here", "_law_row"] ["_law_script"] (defScope s_law) := ⟨rfl, rfl, rfl, by decide +kernel, rfl, by decide +kernel, by decide +kernel⟩
structure Txt (K : PySem.W.Frag) (mg : Str → Option Value) : Prop where
  b_all : mg "all" = none
  b_bool : mg "bool" = none
  b_dict : mg "dict" = none
  b_enumerate : mg "enumerate" = none
  b_int : mg "int" = none
  b_isinstance : mg "isinstance" = none
  b_len : mg "len" = none
  b_list : mg "list" = none
  b_range : mg "range" = none
  b_set : mg "set" = none
  b_sorted : mg "sorted" = none
  b_str : mg "str" = none
  b_tuple : mg "tuple" = none
  b_zip : mg "zip" = none
  c_CAPITAL_LETTERS : ∃ t, mg "CAPITAL_LETTERS" = some (.str "ABCDEFGHIJKLMNOPQRSTUVWXYZ" t)
  c_FURTHER_SIGNS : ∃ t, mg "FURTHER_SIGNS" = some (.str "abcdefghijklmnopqrstuvwxyz0123456789" t)
  c_MOST_SIGNS : ∃ t, mg "MOST_SIGNS" = some (.int 12 t)
  t_is_whole : Top K mg "is_whole" s_is_whole ["thing"]
  t_is_text_begun_by : Top K mg "is_text_begun_by" s_is_text_begun_by ["thing", "first_signs"]
  t_is_var : Top K mg "is_var" s_is_var ["thing"]
  t_value_key : Top K mg "value_key" s_value_key ["value"]
  t_value_before : Top K mg "value_before" s_value_before ["one", "other"]
  t_matched : Top K mg "matched" s_matched ["terms", "row", "binding"]
  t_put_in : Top K mg "put_in" s_put_in ["terms", "binding"]
  t_holds : Top K mg "holds" s_holds ["choice", "binding"]
  t_variables_in : Top K mg "variables_in" s_variables_in ["terms"]
  t_variables_of_body : Top K mg "variables_of_body" s_variables_of_body ["body"]
  t_are_known : Top K mg "are_known" s_are_known ["terms", "known"]
  t_rows_by_shared : Top K mg "rows_by_shared" s_rows_by_shared ["terms", "rows", "shared"]
  t_choices_known : Top K mg "choices_known" s_choices_known ["choices", "known"]
  t_choices_due : Top K mg "choices_due" s_choices_due ["choices", "ahead", "known"]
  t_all_hold : Top K mg "all_hold" s_all_hold ["choices", "binding"]
  t_asked_later : Top K mg "asked_later" s_asked_later ["rule", "place", "known", "wanted"]
  t_steps_of : Top K mg "steps_of" s_steps_of ["rule", "tables", "known", "wanted"]
  t_instances : Top K mg "instances" s_instances ["rule", "tables"]
  t__law_cell_at : Top K mg "_law_cell_at" s__law_cell_at ["_law_script", "_law_k"]
  t__law_values : Top K mg "_law_values" s__law_values ["_law_script"]
  t__law_marks : Top K mg "_law_marks" s__law_marks ["_law_cell"]
  t__law_pairs : Top K mg "_law_pairs" s__law_pairs ["_law_cell", "_law_values_here"]
  t__law_singles : Top K mg "_law_singles" s__law_singles ["_law_cell", "_law_values_here"]
  t__law_term : Top K mg "_law_term" s__law_term ["_law_cell", "_law_marks_here", "_law_values_here"]
  t__law_rule : Top K mg "_law_rule" s__law_rule ["_law_script", "_law_tables", "_law_marks_here", "_law_values_here"]
  t__law_binding : Top K mg "_law_binding" s__law_binding ["_law_body", "_law_used", "_law_marks_here"]
  t__law_chosen : Top K mg "_law_chosen" s__law_chosen ["_law_choices", "_law_binding_here", "_law_some"]
  t__law_all_ways : Top K mg "_law_all_ways" s__law_all_ways ["_law_body", "_law_tables"]
  t_law : Top K mg "law" s_law ["_law_script"]
  g_Step : mg "Step" = some (.ref (cA mg "Step"))
  cl_Step : Cls K (cA mg "Step")
  mk_Step : PySem.W.makesIn K (cA mg "Step") = true
  kp_Step : PySem.W.keepIn K (.ref (cA mg "Step")) = true
  n_Step_asks : NoAttr K (cA mg "Step") "asks"
  n_Step_by_shared : NoAttr K (cA mg "Step") "by_shared"
  n_Step_due : NoAttr K (cA mg "Step") "due"
  n_Step_rows : NoAttr K (cA mg "Step") "rows"
  n_Step_shared : NoAttr K (cA mg "Step") "shared"
  n_Step_table : NoAttr K (cA mg "Step") "table"
  n_Step_terms : NoAttr K (cA mg "Step") "terms"
  t_Step_init : MTop K (cA mg "Step") "__init__" "Step.__init__" s_Step_init ["self", "rule", "place", "tables", "known", "wanted"]
  t_Step_joined_on : MTop K (cA mg "Step") "joined_on" "Step.joined_on" s_Step_joined_on ["self", "binding"]
theorem iteFb {b : Bool} {A B : Prop} (e : b = false) (h : B) : if b = true then A else B := by
  subst e
  exact iteF h
theorem iteTb {b : Bool} {A B : Prop} (e : b = true) (h : A) : if b = true then A else B := by
  subst e
  exact iteT h
def fur : Str := "abcdefghijklmnopqrstuvwxyz0123456789"
def capS : Str := "ABCDEFGHIJKLMNOPQRSTUVWXYZ"
def signsOk (fs : Str) : List Nat → Bool
  | [] => false
  | c :: r => decide (c ∈ fs.cps.toList) && r.all fun d => decide (d ∈ fur.cps.toList)
def txtB (fs z : Str) : Bool := decide (1 ≤ z.length) && decide (z.length ≤ 12) && signsOk fs z.cps.toList
def txtK (fs : Str) : Key → Bool
  | .inr z => txtB fs z
  | .inl _ => false
def TxOk : Key → Prop
  | .inr z => z.length ≤ 200 ∧ PyData.strOk z = true
  | .inl _ => True
def keyD : Key → PyData
  | .inr z => .str z
  | .inl i => .int i
theorem dat_tx {K : PySem.W.Frag} {H : Hp} : ∀ {t : Key}, TxOk t → Dat K H (keyD t) (kV t)
  | .inr z, h => .str z h.2
  | .inl i, _ => .int i
theorem txtB_len {fs z : Str} (h : ¬ (1 ≤ z.length ∧ z.length ≤ 12)) : txtB fs z = false := by
  unfold txtB
  by_cases h1 : 1 ≤ z.length
  · have h2 : ¬ z.length ≤ 12 := fun q => h ⟨h1, q⟩
    simp [h2]
  · simp [h1]
theorem txtB_ok {fs z : Str} (h1 : 1 ≤ z.length) (h2 : z.length ≤ 12) : txtB fs z = signsOk fs z.cps.toList := by
  unfold txtB
  simp [h1, h2]
theorem len_list (z : Str) : z.cps.toList.length = z.length := by simp [Str.length]
theorem split_list {z : Str} (h : 1 ≤ z.length) : ∃ c r, z.cps.toList = c :: r := by
  have := len_list z
  cases e : z.cps.toList with
  | nil => rw [e] at this; simp at this; omega
  | cons c r => exact ⟨c, r, rfl⟩
theorem cut_tail {z : Str} (h : 1 ≤ z.length) : (cutS z (some 1) none).cps.toList = z.cps.toList.tail := by
  have e1 : HT.sIx z.length 0 (some 1) = 1 := by
    have := HT.sIx_nat z.length 0 1
    rw [show ((1 : Nat) : Int) = 1 from rfl] at this
    rw [this]
    omega
  have hl := len_list z
  unfold cutS
  rw [e1, HT.sIx_none]
  show ((z.cps.toList.drop 1).take (z.length - 1)).toArray.toList = _
  rw [List.toList_toArray, List.take_of_length_le (by rw [List.length_drop]; omega), List.drop_one]
end Wy
namespace Wy
open PySem L2
section
variable {P : Program} {w : World} {K : PySem.W.Frag} {mg : Str → Option Value} {base : Heap}
def sp_cell (K : PySem.W.Frag) : Sp := fun vs H Q _ => ∃ (a : Addr) (ns : List Int) (k : Int), vs = [.ref a, .int k] ∧ SqL K H a (ns.map V.int) ∧ 0 ≤ k ∧ Q (.int (ns.getD k.toNat 0)) H
theorem ok__law_cell_at (T : Txt K mg) : Def P w K mg base 1 "_law_cell_at" ["_law_script", "_law_k"] (sp_cell K) := by
  refine T.t__law_cell_at.ok sc__law_cell_at (fun vs H Q E h => ?_) fun f cdv A outer s H vs Q E hr h => ?_
  · obtain ⟨a, ns, k, rfl, _⟩ := h
    rfl
  · obtain ⟨a, ns, k, rfl, hS, h0, q⟩ := h
    refine ⟨_, (pss_2
      (ps_if (pt_cmpR op_lt (pv 1) (pe_callB (call_lenK K) rfl T.b_len bt_len (pa_1 (pv 0))) (nomark _)) (pss_one (ps_ret (pe_ix (ix_listK K) (pv 0) (pv 1) (fun _ _ => rfl)))) pss_nil)
      (ps_ret pe_int)), ?_⟩
    refine ⟨_, rfl, _, rfl, _, _, rfl, .inl ⟨_, hS, rfl⟩, _, _, rfl, rfl, _, rfl, ?_⟩
    rw [List.length_map]
    refine ite2 (fun h1 => ?_) (fun h1 => ?_)
    · have h1' : k < ns.length := by simpa using h1
      have hk : k.toNat < ns.length := by omega
      refine ⟨_, rfl, _, rfl, _, _, _, V.int (ns.getD k.toNat 0), rfl, rfl, hS, ?_, q⟩
      rw [atI_lt h0 (by rw [List.length_map]; exact h1'), List.getElem?_map, List.getElem?_eq_getElem hk, getD_lt hk]
      rfl
    · have h1' : ¬ k < ns.length := by simpa using h1
      have e : ns.getD k.toNat 0 = 0 := by
        exact getD_ge (by omega)
      rw [e] at q
      exact q
end
end Wy
namespace Wy
open PySem L2
section
variable {P : Program} {w : World} {K : PySem.W.Frag} {mg : Str → Option Value} {base : Heap}
def sp_begun (K : PySem.W.Frag) : Sp := fun vs H Q _ => ∃ (t : Key) (fs : Str), vs = [kV t, .str fs] ∧ TxOk t ∧ ∀ H', Same H H' → Q (.bl (txtK fs t)) H'
theorem ok_is_text_begun_by (T : Txt K mg) : Def P w K mg base 1 "is_text_begun_by" ["thing", "first_signs"] (sp_begun K) := by
  refine T.t_is_text_begun_by.ok sc_is_text_begun_by (fun vs H Q E h => ?_) fun f cdv A outer s H vs Q E hr h => ?_
  · obtain ⟨t, fs, rfl, _⟩ := h
    rfl
  · obtain ⟨t, fs, rfl, hz, k⟩ := h
    have hd := dat_tx (K := K) (H := H) hz
    refine ⟨_, (pss_2
      (ps_if (PW.pt (pw_or (pt_not (pt_val (pe_callB (call_isiD K) rfl T.b_isinstance bt_isinstance (pa_2 (pv 0) (pe_ty rfl T.b_str bt_str))))) (pw_or1 (pt_not (pt_chain op_le op_le pe_int (pe_callB (call_lenK K) rfl T.b_len bt_len (pa_1 (pv 0))) (pe_gI rfl T.c_MOST_SIGNS)))))) (pss_one (ps_ret pe_bl)) pss_nil)
      (ps_ret (pe_and (pe_cmpR op_in_str (pe_ix ix_str (pv 0) pe_int (fun _ _ => rfl)) (pv 1) (by with_unfolding_all rfl)) (pe_one (pe_callB (call_allL rfl K) rfl T.b_all bt_all (pa_1 (pe_comp (N := ["sign"]) (caps := [none]) rfl (by with_unfolding_all rfl) (pi_str (pe_slice sl_str (pv 0) (po_some pe_int) po_none)) (fun _ _ _ _ _ => (pg_name (i := 0) (show (["sign"] : List Str).Nodup by decide +kernel) rfl (Or.inl rfl))) (fun _ _ _ _ _ => pf_nil) (fun _ _ _ _ _ => (pe_cmpR op_in_str (pv 0) (pe_gS rfl T.c_FURTHER_SIGNS) (by with_unfolding_all rfl)))))))))), ?_⟩
    cases t with
    | inr z =>
      have hz := hz.1
      have hsl : z.length ≤ sizeLine := Nat.le_trans hz (by decide)
      have no : ¬ (1 ≤ z.length ∧ z.length ≤ 12) → Q (.bl false) H := fun q => by
        have := k H (Same.refl H)
        rw [show txtK fs (.inr z) = false from txtB_len q] at this
        exact this
      refine ⟨_, rfl, _, _, _, rfl, hd, by decide, _, rfl, ?_⟩
      refine iteFb (show (!tyIs "str" "str") = false by decide) ?_
      refine ⟨_, rfl, _, _, rfl, ⟨hsl, rfl⟩, _, _, rfl, rfl, _, rfl, ?_⟩
      refine ite2 (fun h1 => ?_) (fun h1 => ?_)
      · refine ⟨_, _, rfl, rfl, _, rfl, ?_⟩
        refine ite2 (fun h2 => ?_) (fun h2 => ?_)
        · exact no fun q => by simp at h2; omega
        · have l1 : 1 ≤ z.length := by simp at h1; omega
          have l2 : z.length ≤ 12 := by simp at h2; omega
          obtain ⟨c, r, ecr⟩ := split_list l1
          have et : txtK fs (.inr z) = signsOk fs z.cps.toList := txtB_ok (fs := fs) l1 l2
          rw [ecr] at et
          refine ⟨_, rfl, _, _, c, rfl, rfl, hsl, (by rw [ecr]; exact atI_nat (j := 0) rfl), _, rfl, _, _, rfl, rfl, _, rfl, ?_⟩
          rw [StrLaws.found_one]
          refine ite2 (fun h3 => ?_) (fun h3 => ?_)
          · refine ⟨_, rfl, _, rfl, _, rfl, hsl, _, rfl, fun D hD => ?_⟩
            have ect : (cutS z (some 1) none).cps.toList = r := by rw [cut_tail l1, ecr]; rfl
            have hrl : r.length ≤ 12 := by
              have := len_list z
              rw [ecr, List.length_cons] at this
              omega
            have esz : (cutS z (some 1) none).cps.size = r.length := by rw [← ect, Array.length_toList]
            refine comp_by r.length (fun i σ' H' => (∃ v, σ' = [v]) ∧ H' = upd H D (.lst ((r.take i).map fun c => V.bl (decide (c ∈ fur.cps.toList))))) ⟨⟨_, rfl⟩, rfl⟩ (fun i σ' H' hi _ => by show i < _; rw [esz]; exact hi) (fun σ' H' p => ⟨esz.symm, ?_⟩) (fun i σ' H' hi p x H2 y => ?_)
            · obtain ⟨_, rfl⟩ := p
              refine ⟨D, r.map fun c => decide (c ∈ fur.cps.toList), rfl, SqL.of (by rw [upd_same, List.take_length, List.map_map]; rfl), ?_⟩
              have := k (upd H D (.lst ((r.take r.length).map fun c => V.bl (decide (c ∈ fur.cps.toList))))) (same_upd hD)
              rw [et] at this
              have e2 : signsOk fs (c :: r) = (r.map fun c => decide (c ∈ fur.cps.toList)).all id := by
                show (decide (c ∈ fs.cps.toList) && _) = _
                rw [h3, Bool.true_and, List.all_map]
                rfl
              rw [e2] at this
              exact this
            · obtain ⟨⟨v, rfl⟩, rfl⟩ := p
              obtain ⟨rfl, c', hc, rfl⟩ := y
              have hc' : r[i]? = some c' := by rw [← ect, Array.getElem?_toList]; exact hc
              refine ⟨_, rfl, _, _, rfl, rfl, _, upd_same, ?_, ⟨_, rfl⟩, ?_⟩
              · rw [List.length_map, List.length_take]
                exact small1000 (by omega)
              · rw [upd_upd, StrLaws.found_one, List.take_succ, hc', List.map_append]
                rfl
          · have := k H (Same.refl H)
            rw [et] at this
            have e2 : signsOk fs (c :: r) = false := by
              show (decide (c ∈ fs.cps.toList) && _) = _
              rw [Bool.eq_false_iff.mpr h3, Bool.false_and]
            rw [e2] at this
            exact this
      · refine ⟨_, rfl, iteT ?_⟩
        exact no fun q => by simp at h1; omega
    | inl i =>
      refine ⟨_, rfl, _, _, _, rfl, hd, by decide, _, rfl, ?_⟩
      refine iteTb (show (!tyIs "int" "str") = true by decide) (iteT ?_)
      exact k H (Same.refl H)
theorem ok_is_var (T : Txt K mg) : Def P w K mg base 2 "is_var" ["thing"] (fun vs H Q _ => ∃ t : Key, vs = [kV t] ∧ TxOk t ∧ ∀ H', Same H H' → Q (.bl (txtK capS t)) H') := by
  refine T.t_is_var.ok sc_is_var (fun vs H Q E h => ?_) fun f cdv A outer s H vs Q E hr h => ?_
  · obtain ⟨t, rfl, _⟩ := h
    rfl
  · obtain ⟨t, rfl, hz, k⟩ := h
    refine ⟨_, (pss_one (ps_ret (pe_def (ok_is_text_begun_by T) hr rfl (pa_2 (pv 0) (pe_gS rfl T.c_CAPITAL_LETTERS))))), ?_⟩
    exact ⟨_, rfl, t, _, rfl, hz, k⟩
end
end Wy
namespace Wy
open PySem L2
def mPut (kvs : List (Key × V)) (t v : Key) : List (Key × V) := if txtK capS t = true ∧ valV kvs t = none then putK kvs t (kV v) else kvs
def mStep (kvs : List (Key × V)) (t v : Key) : Option (List (Key × V)) := if (valV (mPut kvs t v) t).getD (kV t) = kV v then some (mPut kvs t v) else none
def mAll (kvs : List (Key × V)) : List (Key × Key) → Option (List (Key × V))
  | [] => some kvs
  | p :: r => (mStep kvs p.1 p.2).bind fun k => mAll k r
theorem mAll_app (l r : List (Key × Key)) : ∀ kvs, mAll kvs (l ++ r) = (mAll kvs l).bind fun k => mAll k r := by
  induction l with
  | nil => exact fun kvs => rfl
  | cons p l ih =>
    intro kvs
    show (mStep kvs p.1 p.2).bind (fun k => mAll k (l ++ r)) = ((mStep kvs p.1 p.2).bind fun k => mAll k l).bind _
    cases mStep kvs p.1 p.2 with
    | none => rfl
    | some k => exact ih k
theorem mAll_next {kvs k : List (Key × V)} {l : List (Key × Key)} {i : Nat} {t v : Key} (h : mAll kvs (l.take i) = some k) (e : l[i]? = some (t, v)) : mAll kvs (l.take (i + 1)) = mStep k t v := by
  rw [List.take_succ, e, mAll_app, h]
  show (mStep k t v).bind (fun k => some k) = _
  cases mStep k t v <;> rfl
theorem mAll_stop {kvs : List (Key × V)} {l : List (Key × Key)} {i : Nat} (h : mAll kvs (l.take i) = none) : mAll kvs l = none := by
  rw [← List.take_append_drop i l, mAll_app, h]
  rfl
def AllK (kvs : List (Key × V)) : Prop := ∀ kv ∈ kvs, ∃ j : Key, kv.2 = kV j
theorem put_mem {kvs : List (Key × V)} {k : Key} {v : V} {kv : Key × V} (h : kv ∈ putK kvs k v) : kv ∈ kvs ∨ kv = (k, v) := by
  unfold putK at h
  split at h
  · obtain ⟨p, hp, e⟩ := List.mem_map.mp h
    split at e
    · rename_i z
      exact .inr (by rw [← e, ← z])
    · exact .inl (by rw [← e]; exact hp)
  · rcases List.mem_append.mp h with h | h
    · exact .inl h
    · exact .inr (List.mem_singleton.mp h)
theorem val_in {kvs : List (Key × V)} {k : Key} {v : V} (h : valV kvs k = some v) : (k, v) ∈ kvs := by
  unfold valV at h
  obtain ⟨kv, hf, rfl⟩ := Option.map_eq_some_iff.mp h
  have h1 := List.find?_some hf
  have h2 := List.mem_of_find?_eq_some hf
  have : kv.1 = k := by simpa using h1
  rw [← this]
  exact h2
theorem AllK.put {kvs : List (Key × V)} (h : AllK kvs) (t v : Key) : AllK (mPut kvs t v) := by
  unfold mPut
  split
  · intro kv hk
    rcases put_mem hk with hk | rfl
    · exact h kv hk
    · exact ⟨v, rfl⟩
  · exact h
theorem AllK.get {kvs : List (Key × V)} (h : AllK kvs) (t : Key) : ∃ j : Key, (valV kvs t).getD (kV t) = kV j := by
  cases e : valV kvs t with
  | none => exact ⟨t, rfl⟩
  | some v => exact h _ (val_in e)
theorem length_mPut (kvs : List (Key × V)) (t v : Key) : (mPut kvs t v).length ≤ kvs.length + 1 := by
  unfold mPut
  split
  · exact length_putK ..
  · exact Nat.le_succ _
theorem scal_keys : ∀ u v : Key, scal (kV u) (kV v) = true
  | .inl _, .inl _ => rfl
  | .inl _, .inr _ => rfl
  | .inr _, .inl _ => rfl
  | .inr _, .inr _ => rfl
section
variable {P : Program} {w : World} {K : PySem.W.Frag} {mg : Str → Option Value} {base : Heap}
def sp_matched (K : PySem.W.Frag) : Sp := fun vs H Q _ => ∃ (a b d : Addr) (ts us : List Key) (kvs : List (Key × V)), vs = [.ref a, .ref b, .ref d] ∧ SqT K H a (ts.map kV) ∧ SqT K H b (us.map kV) ∧ H d = some (.dK kvs) ∧
  (∀ t ∈ ts, TxOk t) ∧ AllK kvs ∧ ts.length ≤ 100 ∧ kvs.length ≤ 100 ∧
  ((ts.length ≠ us.length ∨ mAll kvs (ts.zip us) = none) → ∀ H', Same H H' → Q .non H') ∧
  (∀ k2 p H', ts.length = us.length → mAll kvs (ts.zip us) = some k2 → Same H H' → H p = none → H' p = some (.dK k2) → Q (.ref p) H')
theorem ok_matched (T : Txt K mg) : Def P w K mg base 3 "matched" ["terms", "row", "binding"] (sp_matched K) := by
  refine T.t_matched.ok sc_matched (fun vs H Q E h => ?_) fun f cdv A outer s H vs Q E hr h => ?_
  · obtain ⟨a, b, d, ts, us, kvs, rfl, _⟩ := h
    rfl
  · obtain ⟨a, b, d, ts, us, kvs, rfl, ha, hb, hd, hts, hall, lt, lk, kn, ks⟩ := h
    have la : LenV K (.ref a) H ts.length := .inr ⟨_, ha, by rw [List.length_map]⟩
    have lb : LenV K (.ref b) H us.length := .inr ⟨_, hb, by rw [List.length_map]⟩
    refine ⟨_, (pss_4
      (ps_if (pt_cmpR op_ne (pe_callB (call_lenK K) rfl T.b_len bt_len (pa_1 (pv 0))) (pe_callB (call_lenK K) rfl T.b_len bt_len (pa_1 (pv 1))) (nomark _)) (pss_one (ps_ret pe_non)) pss_nil)
      (ps_set (i := 3) sc_matched.nd rfl (Or.inl rfl) (pe_callTy call_dictC rfl T.b_dict bt_dict (pa_1 (pv 2))))
      (ps_for PassesOwn.never rfl (pi_zip K rfl T.b_zip (pa_2 (pv 0) (pv 1))) (pg_tup rfl (pgs_cons (pg_name (i := 4) sc_matched.nd rfl (Or.inl rfl)) (pgs_cons (pg_name (i := 5) sc_matched.nd rfl (Or.inl rfl)) pgs_nil))) (pss_2
      (ps_if (pt_val (pe_def (ok_is_var T) hr rfl (pa_1 (pv 4)))) (pss_one (ps_expr (pe_dsetd (pv 3) (pv 4) (pv 5) ⟨rfl, rfl, rfl, rfl⟩))) pss_nil)
      (ps_if (pt_cmpR op_ne (pe_dget2 (hu_of hr) (pv 3) (pv 4) (pv 4) ⟨rfl, rfl, rfl, rfl⟩) (pv 5) (nomark _)) (pss_one (ps_ret pe_non)) pss_nil)))
      (ps_ret (pv 3))), ?_⟩
    refine ⟨_, rfl, _, _, rfl, la, _, rfl, _, _, rfl, lb, rfl, _, rfl, ite2 (fun h1 => ?_) (fun h1 => ?_)⟩
    · refine kn (.inl fun e => ?_) H (Same.refl H)
      rw [e] at h1
      simp at h1
    · have el : ts.length = us.length := by
        have : decide (V.int ts.length = V.int us.length) = true := by
          cases q : decide (V.int ts.length = V.int us.length) with
          | true => rfl
          | false => exact absurd (by show (!decide (V.int ts.length = V.int us.length)) = true; rw [q]; rfl) h1
        have := of_decide_eq_true this
        injection this with e
        omega
      refine ⟨_, rfl, d, kvs, rfl, .inl hd, fun q hq => ?_⟩
      have s1 := same_upd (o := HO.dK kvs) hq
      refine ⟨_, rfl, _, rfl, a, b, rfl, ⟨_, s1.seqT ha⟩, ⟨_, s1.seqT hb⟩, ?_⟩
      refine for_zip (xs := ts.map kV) (ys := us.map kV) (fun i σ H' => ∃ (v1 v2 : Option V) (ki : List (Key × V)), σ = [some (.ref a), some (.ref b), some (.ref d), some (.ref q), v1, v2] ∧ Same H H' ∧ H' q = some (.dK ki) ∧ mAll kvs ((ts.zip us).take i) = some ki ∧ AllK ki ∧ ki.length ≤ 100 + i)
        ⟨none, none, kvs, rfl, s1, upd_same, rfl, hall, lk⟩ (fun i σ H' _ p => ?_) ?_ ?_
      · obtain ⟨v1, v2, ki, _, s2, _⟩ := p
        exact ⟨s2.seqT ha, s2.seqT hb⟩
      · rintro i x y p σ H' hx hy hp ⟨v1, v2, ki, rfl, s2, hk, hm, hal, hl⟩
        rw [List.getElem?_map] at hx hy
        obtain ⟨t, ht, rfl⟩ := Option.map_eq_some_iff.mp hx
        obtain ⟨v, hv, rfl⟩ := Option.map_eq_some_iff.mp hy
        have hil : i < 100 := Nat.lt_of_lt_of_le (List.getElem?_eq_some_iff.mp ht).1 lt
        have hzip : (ts.zip us)[i]? = some (t, v) := by
          rw [List.getElem?_zip_eq_some]
          exact ⟨ht, hv⟩
        have nx := mAll_next hm hzip
        have s3 := same_upd (o := HO.tup [kV t, kV v]) hp
        have qp : q ≠ p := fun e => by rw [e, hp] at hk; cases hk
        refine ⟨p, _, rfl, SqT.of upd_same, rfl, _, _, rfl, _, _, rfl, rfl, ?_⟩
        have fin : ∀ H4 : Hp, Same H H4 → H4 q = some (.dK (mPut ki t v)) → (tIfS (tTest (tOp rNe (tDGet2 (tVar 3) (tVar 4) (tVar 4)) (tVar 5))) (tRet (tC V.non)) tNext)
            { nx := (fun σ H' => ∃ (v1 v2 : Option V) (kj : List (Key × V)), σ = [some (.ref a), some (.ref b), some (.ref d), some (.ref q), v1, v2] ∧ Same H H' ∧ H' q = some (.dK kj) ∧ mAll kvs ((ts.zip us).take (i + 1)) = some kj ∧ AllK kj ∧ kj.length ≤ 100 + (i + 1)), rt := Q }
            [some (.ref a), some (.ref b), some (.ref d), some (.ref q), some (kV t), some (kV v)] H4 := fun H4 s4 h4 => by
          obtain ⟨j, ej⟩ := (hal.put t v).get t
          have sc : scal ((valV (mPut ki t v) t).getD (kV t)) (kV v) = true := by rw [ej]; exact scal_keys j v
          refine ⟨_, rfl, q, rfl, .inl ⟨_, .inl h4⟩, _, rfl, _, rfl, _, DGet.k h4, _, rfl, sc, _, rfl, ite2 (fun h2 => ?_) (fun h2 => ?_)⟩
          · refine kn (.inr (mAll_stop (i := i + 1) ?_)) _ s4
            rw [nx]
            unfold mStep
            rw [if_neg]
            intro e
            rw [decide_eq_true e] at h2
            cases h2
          · refine ⟨_, _, mPut ki t v, rfl, s4, h4, ?_, hal.put t v, ?_⟩
            · rw [nx]
              unfold mStep
              rw [if_pos]
              by_cases e : (valV (mPut ki t v) t).getD (kV t) = kV v
              · exact e
              · exact absurd (by rw [decide_eq_false e]; rfl) h2
            · have := length_mPut ki t v
              omega
        refine ⟨_, rfl, t, rfl, hts t (List.mem_of_getElem? ht), fun H3 s5 => ⟨_, rfl, ite2 (fun h2 => ?_) (fun h2 => ?_)⟩⟩
        · have h3 := s5 _ _ (s3 _ _ hk)
          refine ⟨_, rfl, q, rfl, .inl ⟨_, .inl h3⟩, _, rfl, _, rfl, ki, t, h3, rfl, small1000 (by omega), fun u e => ?_, fun e => ?_⟩
          · refine fin _ (s2.trans (s3.trans s5)) ?_
            unfold mPut
            rw [if_neg (fun z => by rw [e] at z; exact nomatch z.2)]
            exact h3
          · refine fin _ ((s2.trans (s3.trans s5)).set hq) ?_
            unfold mPut
            rw [if_pos ⟨h2, e⟩]
            exact upd_same
        · refine fin _ (s2.trans (s3.trans s5)) ?_
          unfold mPut
          rw [if_neg (fun z => h2 z.1)]
          exact s5 _ _ (s3 _ _ hk)
      · rintro σ H' ⟨v1, v2, ki, rfl, s2, hk, hm, hal, hl⟩
        rw [List.length_map, List.length_map, List.take_of_length_le (by rw [List.length_zip]; exact Nat.le_refl _)] at hm
        exact ⟨_, rfl, ks ki q H' el hm s2 hq hk⟩
end
end Wy
namespace Wy
open PySem L2
theorem app_list (a b : Str) : (a ++ b).cps.toList = a.cps.toList ++ b.cps.toList := by
  show (a.cps ++ b.cps).toList = _
  rw [Array.toList_append]
theorem len_app (a b : Str) : (a ++ b).length = a.length + b.length := by
  show (a.cps ++ b.cps).size = a.cps.size + b.cps.size
  exact Array.size_append
theorem strOk_of {z : Str} (h : ∀ c ∈ z.cps.toList, c < 0x110000) : PyData.strOk z = true := by
  unfold PyData.strOk
  rw [← Array.all_toList, List.all_eq_true]
  exact fun c hc => decide_eq_true (h c hc)
theorem fur_lt : ∀ c ∈ fur.cps.toList, c < 0x110000 := by decide +kernel
theorem cut_mem {z : Str} {lo hi : Option Int} {c : Nat} (h : c ∈ (cutS z lo hi).cps.toList) : c ∈ z.cps.toList := by
  unfold cutS at h
  rw [List.toList_toArray] at h
  exact List.mem_of_mem_drop (List.mem_of_mem_take h)
def Wz (n : Nat) (z : Str) : Prop := z.length ≤ n ∧ ∀ c ∈ z.cps.toList, c ∈ fur.cps.toList
theorem Wz.ok {n : Nat} {z : Str} (h : Wz n z) : PyData.strOk z = true := strOk_of fun c hc => fur_lt c (h.2 c hc)
theorem Wz.cut {n : Nat} {z : Str} (h : Wz n z) (lo hi : Option Int) : Wz n (cutS z lo hi) := ⟨Nat.le_trans (cutS_length z lo hi) h.1, fun c hc => h.2 c (cut_mem hc)⟩
theorem Wz.app {n m : Nat} {z y : Str} (h : Wz n z) (k : Wz m y) : Wz (n + m) (z ++ y) := ⟨by rw [len_app]; exact Nat.add_le_add h.1 k.1, fun c hc => by
  rw [app_list] at hc
  exact (List.mem_append.mp hc).elim (h.2 c) (k.2 c)⟩
theorem Wz.one {c : Nat} (h : c ∈ fur.cps.toList) : Wz 1 ⟨#[c]⟩ := ⟨Nat.le_refl _, fun d hd => by
  have : d = c := by simpa using hd
  subst this
  exact h⟩
theorem Wz.le {n m : Nat} {z : Str} (h : Wz n z) (k : n ≤ m) : Wz m z := ⟨Nat.le_trans h.1 k, h.2⟩
def strLt (x y : Str) : Bool := decide (x.cps.toList < y.cps.toList)
def befK : Key → Key → Bool
  | .inl i, .inl j => decide (i < j)
  | .inl _, .inr _ => true
  | .inr _, .inl _ => false
  | .inr x, .inr y => strLt x y
def keyV : Key → List V
  | .inl i => [.int 0, .int i, .str ""]
  | .inr z => [.int 1, .int 0, .str z]
def keyDs : Key → List PyData
  | .inl i => [.int 0, .int i, .str ""]
  | .inr z => [.int 1, .int 0, .str z]
def ordD (k : Key) : PyData := .tuple (keyDs k)
def valD : Key → PyData
  | .inl i => .int i
  | .inr z => .str z
def OkK : Key → Prop
  | .inl _ => True
  | .inr z => Wz 40 z
theorem dat_val {K : PySem.W.Frag} {H : Hp} : ∀ {k : Key}, OkK k → Dat K H (valD k) (kV k)
  | .inl i, _ => .int i
  | .inr z, h => .str z (Wz.ok (n := 40) h)
theorem dat_keys {K : PySem.W.Frag} {H : Hp} : ∀ {k : Key}, OkK k → Dats K H (keyDs k) (keyV k)
  | .inl i, _ => .cons (.int 0) (.cons (.int i) (.cons (.str "" (by decide +kernel)) .nil))
  | .inr z, h => .cons (.int 1) (.cons (.int 0) (.cons (.str z (Wz.ok (n := 40) h)) .nil))
theorem depth_key (k : Key) : (ordD k).depth = 1 := by cases k <;> rfl
theorem eqv_int (a b : Int) : PyData.eqv (.int a) (.int b) = decide (a = b) := by
  show (a == b) = _
  by_cases h : a = b <;> simp [h]
theorem eqv_str (a b : Str) : PyData.eqv (.str a) (.str b) = decide (a = b) := by
  show (a == b) = _
  by_cases h : a = b <;> simp [h]
theorem lt_keys : ∀ a b : Key, ltD? (ordD a) (ordD b) = some (befK a b)
  | .inl i, .inl j => by
    show lexD? [.int 0, .int i, .str ""] [.int 0, .int j, .str ""] = _
    rw [lexD?, if_pos (by decide), lexD?, eqv_int]
    by_cases h : i = j
    · subst h
      rw [if_pos (by simp), lexD?, if_pos (by decide), lexD?]
      simp [befK]
    · rw [if_neg (by simpa using h), ltD?]
      rfl
  | .inl i, .inr y => by
    show lexD? [.int 0, .int i, .str ""] [.int 1, .int 0, .str y] = _
    rw [lexD?, if_neg (by decide), ltD?]
    rfl
  | .inr x, .inl j => by
    show lexD? [.int 1, .int 0, .str x] [.int 0, .int j, .str ""] = _
    rw [lexD?, if_neg (by decide), ltD?]
    rfl
  | .inr x, .inr y => by
    show lexD? [.int 1, .int 0, .str x] [.int 1, .int 0, .str y] = _
    rw [lexD?, if_pos (by decide), lexD?, if_pos (by decide), lexD?, eqv_str]
    by_cases h : x = y
    · subst h
      rw [if_pos (by simp), lexD?]
      simp [befK, strLt, List.lt_irrefl]
    · rw [if_neg (by simpa using h), ltD?]
      rfl
end Wy
namespace Wy
open PySem L2
section
variable {P : Program} {w : World} {K : PySem.W.Frag} {mg : Str → Option Value} {base : Heap}
def wholeD : PyData → Bool
  | .int _ => true
  | _ => false
def sp_whole (K : PySem.W.Frag) : Sp := fun vs H Q _ => ∃ x d, vs = [x] ∧ Dat K H d x ∧ Q (.bl (wholeD d)) H
theorem ok_is_whole (T : Txt K mg) : Def P w K mg base 1 "is_whole" ["thing"] (sp_whole K) := by
  refine T.t_is_whole.ok sc_is_whole (fun vs H Q E h => ?_) fun f cdv A outer s H vs Q E hr h => ?_
  · obtain ⟨x, d, rfl, _⟩ := h
    rfl
  · obtain ⟨x, d, rfl, hd, k⟩ := h
    refine ⟨_, (pss_one (ps_ret (pe_and (pe_callB (call_isiD K) rfl T.b_isinstance bt_isinstance (pa_2 (pv 0) (pe_ty rfl T.b_int bt_int))) (pe_one (pe_not (pe_callB (call_isiD K) rfl T.b_isinstance bt_isinstance (pa_2 (pv 0) (pe_ty rfl T.b_bool bt_bool)))))))), ?_⟩
    refine ⟨_, rfl, _, _, _, rfl, hd, by decide, _, rfl, ite2 (fun h1 => ?_) (fun h1 => ?_)⟩
    · refine ⟨_, rfl, _, _, _, rfl, hd, by decide, _, rfl, ?_⟩
      cases hd <;> first | exact k | (exact absurd h1 Bool.false_ne_true)
    · cases hd <;> first | exact k | (exact absurd rfl h1)
def sp_vkey : Sp := fun vs H Q _ => ∃ k : Key, vs = [kV k] ∧ OkK k ∧ ∀ p, H p = none → Q (.ref p) (upd H p (.tup (keyV k)))
theorem ok_value_key (T : Txt K mg) : Def P w K mg base 2 "value_key" ["value"] sp_vkey := by
  refine T.t_value_key.ok sc_value_key (fun vs H Q E h => ?_) fun f cdv A outer s H vs Q E hr h => ?_
  · obtain ⟨k, rfl, _⟩ := h
    rfl
  · obtain ⟨k, rfl, hk, q⟩ := h
    refine ⟨_, (pss_2
      (ps_if (pt_val (pe_def (ok_is_whole T) hr rfl (pa_1 (pv 0)))) (pss_one (ps_ret (pe_tup (pa_3 pe_int (pv 0) pe_str)))) pss_nil)
      (ps_ret (pe_tup (pa_3 pe_int pe_int (pv 0))))), ?_⟩
    refine ⟨_, rfl, _, valD k, rfl, dat_val hk, _, rfl, ?_⟩
    cases k with
    | inl i =>
      refine iteT ?_
      exact ⟨_, rfl, by show 3 ≤ sizeLine; decide, fun p hp => q p hp⟩
    | inr z =>
      refine iteF ?_
      exact ⟨_, rfl, by show 3 ≤ sizeLine; decide, fun p hp => q p hp⟩
end
end Wy
namespace Wy
open PySem L2
section
variable {P : Program} {w : World} {K : PySem.W.Frag} {mg : Str → Option Value} {base : Heap}
def sp_vbef : Sp := fun vs H Q _ => ∃ a b : Key, vs = [kV a, kV b] ∧ OkK a ∧ OkK b ∧ ∀ H', Same H H' → Q (.bl (befK a b)) H'
theorem ok_value_before (T : Txt K mg) : Def P w K mg base 3 "value_before" ["one", "other"] sp_vbef := by
  refine T.t_value_before.ok sc_value_before (fun vs H Q E h => ?_) fun f cdv A outer s H vs Q E hr h => ?_
  · obtain ⟨a, b, rfl, _⟩ := h
    rfl
  · obtain ⟨a, b, rfl, ha, hb, q⟩ := h
    refine ⟨_, (pss_one (ps_ret (pe_cmpR (op_ltD hr.units K) (pe_def (ok_value_key T) hr rfl (pa_1 (pv 0))) (pe_def (ok_value_key T) hr rfl (pa_1 (pv 1))) (nomark _)))), ?_⟩
    refine ⟨_, rfl, a, rfl, ha, fun p hp => ?_⟩
    have s1 := same_upd (o := HO.tup (keyV a)) hp
    refine ⟨_, rfl, b, rfl, hb, fun r hr' => ?_⟩
    have s2 := same_upd (o := HO.tup (keyV b)) hr'
    refine ⟨ordD a, ordD b, befK a b, .tup (SqT.of (s2 _ _ upd_same)) (dat_keys ha), .tup (SqT.of upd_same) (dat_keys hb), by rw [depth_key]; decide, lt_keys a b, q _ (s1.trans s2)⟩
end
end Wy
namespace Wy
open PySem L2
section
variable {P : Program} {w : World} {K : PySem.W.Frag} {mg : Str → Option Value} {base : Heap}
def tv (kvs : List (Key × V)) (t : Key) : V := (valV kvs t).getD (kV t)
def sp_putin (K : PySem.W.Frag) : Sp := fun vs H Q _ => ∃ (a b : Addr) (ts : List Key) (kvs : List (Key × V)), vs = [.ref a, .ref b] ∧ SqT K H a (ts.map kV) ∧ H b = some (.dK kvs) ∧ ts.length ≤ 100 ∧
  ∀ p H', Same H H' → H' p = some (.tup (ts.map (tv kvs))) → Q (.ref p) H'
theorem ok_put_in (T : Txt K mg) : Def P w K mg base 1 "put_in" ["terms", "binding"] (sp_putin K) := by
  refine T.t_put_in.ok sc_put_in (fun vs H Q E h => ?_) fun f cdv A outer s H vs Q E hr h => ?_
  · obtain ⟨a, b, ts, kvs, rfl, _⟩ := h
    rfl
  · obtain ⟨a, b, ts, kvs, rfl, ht, hb, hl, k⟩ := h
    refine ⟨_, (pss_one (ps_ret (pe_callTy (call_tupleK K) rfl T.b_tuple bt_tuple (pa_1 (pe_comp (N := ["term", "binding"]) (caps := [none, some 1]) rfl (by with_unfolding_all rfl) (pi_tupK K (pv 0)) (fun _ _ _ _ _ => (pg_name (i := 0) (show (["term", "binding"] : List Str).Nodup by decide +kernel) rfl (Or.inl rfl))) (fun _ _ _ _ _ => pf_nil) (fun _ _ _ _ _ => (pe_dget2 (hu_of hr) (pv 1) (pv 0) (pv 0) ⟨rfl, rfl, rfl, rfl⟩))))))), ?_⟩
    refine ⟨_, rfl, a, rfl, ⟨_, ht⟩, fun D hD => ?_⟩
    refine comp_by (ts.map kV).length (fun i σ' H' => (∃ v, σ' = [v, some (.ref b)]) ∧ Same H H' ∧ H' D = some (.lst ((ts.take i).map (tv kvs)))) ⟨⟨_, rfl⟩, same_upd hD, upd_same⟩ (fun i σ' H' hi p => ?_) (fun σ' H' p => ⟨?_, ?_⟩) (fun i σ' H' hi p x H2 y => ?_)
    · obtain ⟨_, sm, _⟩ := p
      exact ⟨_, (ts.map kV)[i], sm.seqT ht, List.getElem?_eq_getElem hi⟩
    · obtain ⟨_, sm, _⟩ := p
      exact ⟨_, sm.seqT ht, Nat.le_refl _⟩
    · obtain ⟨_, sm, e⟩ := p
      rw [List.length_map, List.take_length] at e
      refine ⟨_, _, rfl, .inl ⟨SqL.of e, fun q hq => ?_⟩⟩
      exact k q _ (sm.trans (same_upd hq)) upd_same
    · obtain ⟨⟨v, rfl⟩, sm, e⟩ := p
      obtain ⟨rfl, hx⟩ := y
      have hx' := hx _ (sm.seqT ht)
      rw [List.getElem?_map] at hx'
      obtain ⟨kk, hk, rfl⟩ := Option.map_eq_some_iff.mp hx'
      refine ⟨_, rfl, b, rfl, .inl ⟨kvs, .inl (sm _ _ hb)⟩, _, rfl, _, rfl, _, DGet.k (sm _ _ hb), ?_⟩
      refine ⟨_, e, ?_, ⟨_, rfl⟩, sm.set hD, ?_⟩
      · rw [List.length_map, List.length_take]
        exact small1000 (by omega)
      · rw [upd_same, List.take_succ, hk, List.map_append]
        rfl
end
end Wy
namespace Wy
open PySem L2
section
variable {P : Program} {w : World} {K : PySem.W.Frag} {mg : Str → Option Value} {base : Heap}
theorem scal_kV : ∀ u v : Key, scal (kV u) (kV v) = true
  | .inl _, .inl _ => rfl
  | .inl _, .inr _ => rfl
  | .inr _, .inl _ => rfl
  | .inr _, .inr _ => rfl
def sgE : Str := "="
def sgN : Str := "!="
def sgL : Str := "<"
def sp_holds (K : PySem.W.Frag) : Sp := fun vs H Q _ => ∃ (c b : Addr) (sg : Str) (x y u v : Key) (kvs : List (Key × V)), vs = [.ref c, .ref b] ∧ H c = some (.tup [.str sg, kV x, kV y]) ∧ H b = some (.dK kvs) ∧ tv kvs x = kV u ∧ tv kvs y = kV v ∧ OkK u ∧ OkK v ∧
  ∀ H', Same H H' → Q (.bl (if sg = sgE then decide (kV u = kV v) else if sg = sgN then !decide (kV u = kV v) else befK u v)) H'
theorem ok_holds (T : Txt K mg) : Def P w K mg base 4 "holds" ["choice", "binding"] (sp_holds K) := by
  refine T.t_holds.ok sc_holds (fun vs H Q E h => ?_) fun f cdv A outer s H vs Q E hr h => ?_
  · obtain ⟨c, b, sg, x, y, u, v, kvs, rfl, _⟩ := h
    rfl
  · obtain ⟨c, b, sg, x, y, u, v, kvs, rfl, hc, hb, ex, ey, ou, ov, k⟩ := h
    refine ⟨_, (pss_4
      (ps_set (i := 2) sc_holds.nd rfl (Or.inl rfl) (pe_def (ok_put_in T) hr rfl (pa_2 (pe_slice (sl_tupK K) (pv 0) (po_some pe_int) po_none) (pv 1))))
      (ps_if (pt_cmpR op_eq (pe_ix (ix_tupK K) (pv 0) pe_int (fun _ _ => rfl)) pe_str (nomark _)) (pss_one (ps_ret (pe_cmpR op_eq (pe_ix (ix_tupK K) (pv 2) pe_int (fun _ _ => rfl)) (pe_ix (ix_tupK K) (pv 2) pe_int (fun _ _ => rfl)) (nomark _)))) pss_nil)
      (ps_if (pt_cmpR op_eq (pe_ix (ix_tupK K) (pv 0) pe_int (fun _ _ => rfl)) pe_str (nomark _)) (pss_one (ps_ret (pe_cmpR op_ne (pe_ix (ix_tupK K) (pv 2) pe_int (fun _ _ => rfl)) (pe_ix (ix_tupK K) (pv 2) pe_int (fun _ _ => rfl)) (nomark _)))) pss_nil)
      (ps_ret (pe_def (ok_value_before T) hr rfl (pa_2 (pe_ix (ix_tupK K) (pv 2) pe_int (fun _ _ => rfl)) (pe_ix (ix_tupK K) (pv 2) pe_int (fun _ _ => rfl)))))), ?_⟩
    refine ⟨_, rfl, _, rfl, _, _, rfl, SqT.of hc, (fun z => absurd z.1 (by show ¬ HT.sIx 3 0 (some 1) = 0; decide)), fun q hq => ?_⟩
    have ecut : cutV [V.str sg, kV x, kV y] (some 1) none = ([x, y] : List Key).map kV := rfl
    rw [ecut]
    have s1 := same_upd (o := HO.tup (([x, y] : List Key).map kV)) hq
    refine ⟨_, rfl, q, b, [x, y], kvs, rfl, SqT.of upd_same, s1 _ _ hb, by show 2 ≤ 100; decide, fun p H2 s2 hp => ?_⟩
    have hp' : H2 p = some (.tup [kV u, kV v]) := by
      rw [hp, ← ex, ← ey]
      rfl
    have hc2 := s2 _ _ (s1 _ _ hc)
    have k2 := k H2 (s1.trans s2)
    refine ⟨_, rfl, _, _, _, _, rfl, rfl, SqT.of hc2, atI_nat (j := 0) rfl, rfl, _, rfl, ite2 (fun h1 => ?_) (fun h1 => ?_)⟩
    · have e1 : sg = sgE := by
        have := of_decide_eq_true h1
        injection this
      rw [if_pos e1] at k2
      exact ⟨_, rfl, _, _, _, _, rfl, rfl, SqT.of hp', atI_nat (j := 0) rfl, _, rfl, _, _, _, _, rfl, rfl, SqT.of hp', atI_nat (j := 1) rfl, scal_kV u v, k2⟩
    · have e1 : sg ≠ sgE := fun z => h1 (decide_eq_true (by rw [z]; rfl))
      rw [if_neg e1] at k2
      refine ⟨_, rfl, _, _, _, _, rfl, rfl, SqT.of hc2, atI_nat (j := 0) rfl, rfl, _, rfl, ite2 (fun h2 => ?_) (fun h2 => ?_)⟩
      · have e2 : sg = sgN := by
          have := of_decide_eq_true h2
          injection this
        rw [if_pos e2] at k2
        exact ⟨_, rfl, _, _, _, _, rfl, rfl, SqT.of hp', atI_nat (j := 0) rfl, _, rfl, _, _, _, _, rfl, rfl, SqT.of hp', atI_nat (j := 1) rfl, scal_kV u v, k2⟩
      · have e2 : sg ≠ sgN := fun z => h2 (decide_eq_true (by rw [z]; rfl))
        rw [if_neg e2] at k2
        refine ⟨_, rfl, _, _, _, _, rfl, rfl, SqT.of hp', atI_nat (j := 0) rfl, _, rfl, _, _, _, _, rfl, rfl, SqT.of hp', atI_nat (j := 1) rfl, u, v, rfl, ou, ov, fun H3 s3 => ?_⟩
        exact k H3 (s1.trans (s2.trans s3)) |> fun z => by rw [if_neg e1, if_neg e2] at z; exact z
end
end Wy
namespace Wy
open PySem L2
abbrev CT := Str × Key × Key
abbrev AT := Str × List Key
def AVh (H : Hp) (e : V × AT) : Prop := ∃ p q, e.1 = .ref p ∧ H p = some (.tup [.str e.2.1, .ref q]) ∧ H q = some (.tup (e.2.2.map kV))
theorem AVh.same {H H' : Hp} {e : V × AT} (h : AVh H e) (s : Same H H') : AVh H' e := by
  obtain ⟨p, q, e1, h1, h2⟩ := h
  exact ⟨p, q, e1, s _ _ h1, s _ _ h2⟩
def CVh (H : Hp) (e : V × CT) : Prop := ∃ p, e.1 = .ref p ∧ H p = some (.tup [.str e.2.1, kV e.2.2.1, kV e.2.2.2])
theorem CVh.same {H H' : Hp} {e : V × CT} (h : CVh H e) (s : Same H H') : CVh H' e := by
  obtain ⟨p, e1, h1⟩ := h
  exact ⟨p, e1, s _ _ h1⟩
def varsK (ts : List Key) : List Key := ts.filter (txtK capS)
theorem varsK_len (ts : List Key) : (varsK ts).length ≤ ts.length := List.length_filter_le ..
theorem varsK_step {ts : List Key} {i : Nat} {t : Key} (h : ts[i]? = some t) : varsK (ts.take (i + 1)) = varsK (ts.take i) ++ (if txtK capS t = true then [t] else []) := by
  unfold varsK
  rw [List.take_succ, h, List.filter_append]
  congr 1
  show List.filter (txtK capS) [t] = _
  by_cases c : txtK capS t = true
  · rw [if_pos c, List.filter_cons_of_pos c]
    rfl
  · rw [if_neg c, List.filter_cons_of_neg c]
    rfl
theorem dats_tx {K : PySem.W.Frag} {H : Hp} : ∀ {us : List Key}, (∀ u ∈ us, TxOk u) → Dats K H (us.map keyD) (us.map kV)
  | [], _ => .nil
  | u :: us, h => .cons (dat_tx (h u (List.mem_cons_self ..))) (dats_tx fun x hx => h x (List.mem_cons_of_mem _ hx))
theorem depth_tx (us : List Key) : PyData.depthAll (us.map keyD) ≤ 0 := by
  induction us with
  | nil => exact Nat.le_refl _
  | cons u us ih => exact Nat.max_le.mpr ⟨by cases u <;> exact Nat.le_refl _, ih⟩
def inK (us : List Key) (t : Key) : Bool := us.any fun u => decide (u = t)
theorem inK_iff {us : List Key} {t : Key} : inK us t = true ↔ t ∈ us := by
  unfold inK
  rw [List.any_eq_true]
  exact ⟨fun ⟨u, hu, e⟩ => by rw [← of_decide_eq_true e]; exact hu, fun h => ⟨t, h, decide_eq_true rfl⟩⟩
theorem eqv_tx (u t : Key) : PyData.eqv (keyD u) (keyD t) = decide (u = t) := by
  cases u with
  | inl i =>
    cases t with
    | inl j =>
      show decide (i = j) = _
      exact decide_eq_decide.mpr ⟨fun h => by rw [h], fun h => by injection h⟩
    | inr z => exact (decide_eq_false (fun h => by cases h)).symm
  | inr x =>
    cases t with
    | inl j => exact (decide_eq_false (fun h => by cases h)).symm
    | inr z =>
      show PyData.eqv (.str x) (.str z) = _
      rw [eqv_str]
      exact decide_eq_decide.mpr ⟨fun h => by rw [h], fun h => by injection h⟩
theorem any_tx (us : List Key) (t : Key) : ((us.map keyD).any fun y => PyData.eqv y (keyD t)) = inK us t := by
  unfold inK
  rw [List.any_map]
  congr 1
  funext u
  exact eqv_tx u t
def knownK (ks ts : List Key) : Bool := (varsK ts).all (inK ks)
section
variable {P : Program} {w : World} {K : PySem.W.Frag} {mg : Str → Option Value} {base : Heap}
def sp_vin (K : PySem.W.Frag) : Sp := fun vs H Q _ => ∃ (a : Addr) (ts : List Key), vs = [.ref a] ∧ SqT K H a (ts.map kV) ∧ (∀ t ∈ ts, TxOk t) ∧ ts.length ≤ 100 ∧ ∀ L H', Same H H' → H L = none → H' L = some (.lst ((varsK ts).map kV)) → Q (.ref L) H'
theorem ok_variables_in (T : Txt K mg) : Def P w K mg base 3 "variables_in" ["terms"] (sp_vin K) := by
  refine T.t_variables_in.ok sc_variables_in (fun vs H Q E h => ?_) fun f cdv A outer s H vs Q E hr h => ?_
  · obtain ⟨a, ts, rfl, _⟩ := h
    rfl
  · obtain ⟨a, ts, rfl, ht, hok, hl, k⟩ := h
    refine ⟨_, (pss_one (ps_ret (pe_comp (N := ["term"]) (caps := [none]) rfl (by with_unfolding_all rfl) (pi_tupK K (pv 0)) (fun _ _ _ _ _ => (pg_name (i := 0) (show (["term"] : List Str).Nodup by decide +kernel) rfl (Or.inl rfl))) (fun _ _ _ _ _ => pf_one (pt_val (pe_def (ok_is_var T) hr rfl (pa_1 (pv 0))))) (fun _ _ _ _ _ => (pv 0))))), ?_⟩
    refine ⟨_, rfl, a, rfl, ⟨_, ht⟩, fun D hD => ?_⟩
    refine comp_by (ts.map kV).length (fun i σ' H' => (∃ v, σ' = [v]) ∧ Same H H' ∧ H' D = some (.lst ((varsK (ts.take i)).map kV))) ⟨⟨_, rfl⟩, same_upd hD, upd_same⟩ (fun i σ' H' hi p => ?_) (fun σ' H' p => ⟨?_, ?_⟩) (fun i σ' H' hi p x H2 y => ?_)
    · obtain ⟨_, sm, _⟩ := p
      exact ⟨_, _, sm.seqT ht, List.getElem?_eq_getElem hi⟩
    · obtain ⟨_, sm, _⟩ := p
      exact ⟨_, sm.seqT ht, Nat.le_refl _⟩
    · obtain ⟨_, sm, e⟩ := p
      rw [List.length_map, List.take_length] at e
      exact k D H' sm hD e
    · obtain ⟨⟨v, rfl⟩, sm, e⟩ := p
      obtain ⟨rfl, hx⟩ := y
      have hx' := hx _ (sm.seqT ht)
      rw [List.getElem?_map] at hx'
      obtain ⟨t, hti, rfl⟩ := Option.map_eq_some_iff.mp hx'
      refine ⟨_, rfl, t, rfl, hok t (List.mem_of_getElem? hti), fun H3 s3 => ⟨_, rfl, ite2 (fun h1 => ?_) (fun h1 => ?_)⟩⟩
      · refine ⟨_, rfl, _, s3 _ _ e, ?_, ⟨_, rfl⟩, (sm.trans s3).set hD, ?_⟩
        · have := varsK_len (ts.take i)
          rw [List.length_take] at this
          rw [List.length_map]
          exact Nat.lt_of_lt_of_le (show _ < 1000 by omega) (by decide)
        · rw [upd_same, varsK_step hti, if_pos h1, List.map_append]
          rfl
      · refine ⟨⟨_, rfl⟩, sm.trans s3, ?_⟩
        rw [varsK_step hti, if_neg h1, List.append_nil]
        exact s3 _ _ e
def sp_known (K : PySem.W.Frag) : Sp := fun vs H Q _ => ∃ (a L : Addr) (ts ks : List Key), vs = [.ref a, .ref L] ∧ SqT K H a (ts.map kV) ∧ (∀ t ∈ ts, TxOk t) ∧ ts.length ≤ 100 ∧ H L = some (.lst (ks.map kV)) ∧ (∀ t ∈ ks, TxOk t) ∧ ∀ H', Same H H' → Q (.bl (knownK ks ts)) H'
theorem ok_are_known (T : Txt K mg) : Def P w K mg base 4 "are_known" ["terms", "known"] (sp_known K) := by
  refine T.t_are_known.ok sc_are_known (fun vs H Q E h => ?_) fun f cdv A outer s H vs Q E hr h => ?_
  · obtain ⟨a, L, ts, ks, rfl, _⟩ := h
    rfl
  · obtain ⟨a, L, ts, ks, rfl, ht, hok, hl, hL, hks, k⟩ := h
    refine ⟨_, (pss_one (ps_ret (pe_callB (call_allL rfl K) rfl T.b_all bt_all (pa_1 (pe_comp (N := ["variable", "known"]) (caps := [none, some 1]) rfl (by with_unfolding_all rfl) (pi_listK K (pe_def (ok_variables_in T) hr rfl (pa_1 (pv 0)))) (fun _ _ _ _ _ => (pg_name (i := 0) (show (["variable", "known"] : List Str).Nodup by decide +kernel) rfl (Or.inl rfl))) (fun _ _ _ _ _ => pf_nil) (fun _ _ _ _ _ => (pe_cmpR (op_inLD hr.units K) (pv 0) (pv 1) (by with_unfolding_all rfl)))))))), ?_⟩
    refine ⟨_, rfl, a, ts, rfl, ht, hok, hl, fun V1 H1 s1 hV0 hV => ?_⟩
    have vl := varsK_len ts
    refine ⟨V1, rfl, ⟨_, SqL.of hV⟩, fun D hD => ?_⟩
    refine comp_by ((varsK ts).map kV).length (fun i σ' H' => (∃ v, σ' = [v, some (.ref L)]) ∧ Same H1 H' ∧ H' D = some (.lst ((((varsK ts).take i).map (inK ks)).map V.bl))) ⟨⟨_, rfl⟩, same_upd hD, upd_same⟩ (fun i σ' H' hi p => ?_) (fun σ' H' p => ⟨?_, ?_⟩) (fun i σ' H' hi p x H2 y => ?_)
    · obtain ⟨_, sm, _⟩ := p
      exact ⟨_, _, SqL.of (sm _ _ hV), List.getElem?_eq_getElem hi⟩
    · obtain ⟨_, sm, _⟩ := p
      exact ⟨_, SqL.of (sm _ _ hV), Nat.le_refl _⟩
    · obtain ⟨_, sm, e⟩ := p
      rw [List.length_map, List.take_length] at e
      refine ⟨D, _, rfl, SqL.of e, ?_⟩
      have := k H' (s1.trans sm)
      rw [List.all_map]
      exact this
    · obtain ⟨⟨v, rfl⟩, sm, e⟩ := p
      obtain ⟨rfl, hx⟩ := y
      have hx' := hx _ (SqL.of (sm _ _ hV))
      rw [List.getElem?_map] at hx'
      obtain ⟨t, hti, rfl⟩ := Option.map_eq_some_iff.mp hx'
      have ot : TxOk t := hok t (List.mem_filter.mp (List.mem_of_getElem? hti)).1
      refine ⟨_, rfl, _, rfl, keyD t, ks.map keyD, dat_tx ot, .lst (SqL.of (sm _ _ (s1 _ _ hL))) (dats_tx hks), Nat.le_trans (depth_tx ks) (by decide), ?_⟩
      rw [any_tx]
      refine ⟨_, e, ?_, ⟨_, rfl⟩, sm.set hD, ?_⟩
      · rw [List.length_map, List.length_map, List.length_take]
        exact Nat.lt_of_lt_of_le (show _ < 1000 by omega) (by decide)
      · rw [upd_same, List.take_succ, hti, List.map_append, List.map_append]
        rfl
end
end Wy
namespace Wy
open PySem L2
def bodyV (as : List AT) : List Key := as.flatMap fun e => varsK e.2
theorem fmStep {α β : Type} {as : List α} {f : α → List β} {i : Nat} {e : α} (h : as[i]? = some e) : (as.take (i + 1)).flatMap f = (as.take i).flatMap f ++ f e := by
  rw [List.take_succ, h, List.flatMap_append]
  simp
theorem filtStep {α : Type} {as : List α} {f : α → Bool} {i : Nat} {e : α} (h : as[i]? = some e) : (as.take (i + 1)).filter f = (as.take i).filter f ++ (if f e = true then [e] else []) := by
  rw [List.take_succ, h, List.filter_append]
  congr 1
  show List.filter f [e] = _
  by_cases c : f e = true
  · rw [if_pos c, List.filter_cons_of_pos c]
    rfl
  · rw [if_neg c, List.filter_cons_of_neg c]
    rfl
structure AGood (H : Hp) (e : V × AT) : Prop where
  at_ : AVh H e
  ok : ∀ t ∈ e.2.2, TxOk t
  len : e.2.2.length ≤ 100
structure CGood (H : Hp) (e : V × CT) : Prop where
  at_ : CVh H e
  o1 : TxOk e.2.2.1
  o2 : TxOk e.2.2.2
theorem AGood.same {H H' : Hp} {e : V × AT} (h : AGood H e) (s : Same H H') : AGood H' e := ⟨h.at_.same s, h.ok, h.len⟩
theorem CGood.same {H H' : Hp} {e : V × CT} (h : CGood H e) (s : Same H H') : CGood H' e := ⟨h.at_.same s, h.o1, h.o2⟩
def chK (ks : List Key) (e : CT) : Bool := knownK ks [e.2.1, e.2.2]
section
variable {P : Program} {w : World} {K : PySem.W.Frag} {mg : Str → Option Value} {base : Heap}
def sp_vob (K : PySem.W.Frag) : Sp := fun vs H Q _ => ∃ (b : Addr) (as : List (V × AT)), vs = [.ref b] ∧ SqT K H b (as.map (·.1)) ∧ (∀ e ∈ as, AGood H e) ∧ as.length ≤ 100 ∧ ∀ L H', Same H H' → H L = none → H' L = some (.lst ((bodyV (as.map (·.2))).map kV)) → (bodyV (as.map (·.2))).length ≤ 10000 → Q (.ref L) H'
theorem ok_variables_of_body (T : Txt K mg) : Def P w K mg base 4 "variables_of_body" ["body"] (sp_vob K) := by
  refine T.t_variables_of_body.ok sc_variables_of_body (fun vs H Q E h => ?_) fun f cdv A outer s H vs Q E hr h => ?_
  · obtain ⟨b, as, rfl, _⟩ := h
    rfl
  · obtain ⟨b, as, rfl, hb, ok, la, k⟩ := h
    refine ⟨_, (pss_3
      (ps_set (i := 1) sc_variables_of_body.nd rfl (Or.inl rfl) (pe_lst pa_nil))
      (ps_for PassesOwn.never rfl (pi_tupK K (pv 0)) (pg_tup rfl (pgs_cons (pg_name (i := 2) sc_variables_of_body.nd rfl (Or.inl rfl)) (pgs_cons (pg_name (i := 3) sc_variables_of_body.nd rfl (Or.inl rfl)) pgs_nil))) (pss_one (ps_expr (pe_bm PySem.F.plainAttrs_list PySem.F.slot_list_extend PySem.F.type_list_extend mt_extend (pv 1) (pa_1 (pe_def (ok_variables_in T) hr rfl (pa_1 (pv 3))))))))
      (ps_ret (pv 1))), ?_⟩
    refine ⟨by decide, fun L hL => ?_⟩
    have s1 := same_upd (o := HO.lst []) hL
    refine ⟨_, rfl, b, rfl, ⟨_, s1.seqT hb⟩, for_tup (xs := as.map (·.1)) (fun i σ H' => ∃ v2 v3 : Option V, σ = [some (.ref b), some (.ref L), v2, v3] ∧ Same H H' ∧ H' L = some (.lst ((bodyV ((as.map (·.2)).take i)).map kV)) ∧ (bodyV ((as.map (·.2)).take i)).length ≤ 100 * i) ⟨none, none, rfl, s1, upd_same, Nat.le_refl _⟩ (fun i σ H' _ p => by obtain ⟨_, _, _, z, _⟩ := p; exact z.seqT hb) ?_ ?_⟩
    · rintro i x σ H1 hx ⟨v2, v3, rfl, sm, hl, lb⟩
      rw [List.getElem?_map] at hx
      obtain ⟨e, hei, rfl⟩ := Option.map_eq_some_iff.mp hx
      have hil := (List.getElem?_eq_some_iff.mp hei).1
      have ge := (ok e (List.mem_of_getElem? hei)).same sm
      obtain ⟨p, q, ep, hp, hq⟩ := ge.at_
      have hei2 : (as.map (·.2))[i]? = some e.2 := by rw [List.getElem?_map, hei]; rfl
      have st : bodyV ((as.map (·.2)).take (i + 1)) = bodyV ((as.map (·.2)).take i) ++ varsK e.2.2 := fmStep hei2
      refine ⟨p, _, ep, SqT.of hp, rfl, _, _, rfl, _, _, rfl, rfl, ?_⟩
      refine ⟨_, rfl, .inl ⟨rfl, _, SqL.of hl⟩, _, rfl, q, e.2.2, rfl, SqT.of hq, ge.ok, ge.len, fun L2 H2 s2 hL2 h2 => ?_⟩
      have vl := varsK_len e.2.2
      have le := ge.len
      refine ⟨L, L2, _, _, rfl, rfl, s2 _ _ hl, h2, ?_, ?_⟩
      · rw [List.length_map, List.length_map]
        exact Nat.le_trans (show _ ≤ 100000 by omega) (by decide)
      · refine ⟨_, _, rfl, (sm.trans s2).set hL, ?_, ?_⟩
        · rw [upd_same, st, List.map_append]
        · rw [st, List.length_append]
          omega
    · rintro σ H1 ⟨v2, v3, rfl, sm, hl, lb⟩
      rw [List.length_map, ← List.length_map (·.2), List.take_length] at hl
      rw [List.length_map, ← List.length_map (f := (·.2)) (as := as), List.take_length] at lb
      exact ⟨_, rfl, k L H1 sm hL hl (by rw [List.length_map] at lb; omega)⟩
def sp_ck (K : PySem.W.Frag) : Sp := fun vs H Q _ => ∃ (a L : Addr) (cs : List (V × CT)) (ks : List Key), vs = [.ref a, .ref L] ∧ SqT K H a (cs.map (·.1)) ∧ (∀ e ∈ cs, CGood H e) ∧ cs.length ≤ 100 ∧ H L = some (.lst (ks.map kV)) ∧ (∀ t ∈ ks, TxOk t) ∧
  ∀ D H', Same H H' → H D = none → H' D = some (.lst ((cs.filter fun e => chK ks e.2).map (·.1))) → Q (.ref D) H'
theorem ok_choices_known (T : Txt K mg) : Def P w K mg base 5 "choices_known" ["choices", "known"] (sp_ck K) := by
  refine T.t_choices_known.ok sc_choices_known (fun vs H Q E h => ?_) fun f cdv A outer s H vs Q E hr h => ?_
  · obtain ⟨a, L, cs, ks, rfl, _⟩ := h
    rfl
  · obtain ⟨a, L, cs, ks, rfl, ha, ok, lc, hL, hks, k⟩ := h
    refine ⟨_, (pss_one (ps_ret (pe_comp (N := ["choice", "known"]) (caps := [none, some 1]) rfl (by with_unfolding_all rfl) (pi_tupK K (pv 0)) (fun _ _ _ _ _ => (pg_name (i := 0) (show (["choice", "known"] : List Str).Nodup by decide +kernel) rfl (Or.inl rfl))) (fun _ _ _ _ _ => pf_one (pt_val (pe_def (ok_are_known T) hr rfl (pa_2 (pe_slice (sl_tupA K) (pv 0) (po_some pe_int) po_none) (pv 1))))) (fun _ _ _ _ _ => (pv 0))))), ?_⟩
    refine ⟨_, rfl, a, rfl, ⟨_, ha⟩, fun D hD => ?_⟩
    refine comp_by (cs.map (·.1)).length (fun i σ' H' => (∃ v, σ' = [v, some (.ref L)]) ∧ Same H H' ∧ H' D = some (.lst (((cs.take i).filter fun e => chK ks e.2).map (·.1)))) ⟨⟨_, rfl⟩, same_upd hD, upd_same⟩ (fun i σ' H' hi p => ?_) (fun σ' H' p => ⟨?_, ?_⟩) (fun i σ' H' hi p x H2 y => ?_)
    · obtain ⟨_, sm, _⟩ := p
      exact ⟨_, _, sm.seqT ha, List.getElem?_eq_getElem hi⟩
    · obtain ⟨_, sm, _⟩ := p
      exact ⟨_, sm.seqT ha, Nat.le_refl _⟩
    · obtain ⟨_, sm, e⟩ := p
      rw [List.length_map, List.take_length] at e
      exact k D H' sm hD e
    · obtain ⟨⟨v, rfl⟩, sm, e⟩ := p
      obtain ⟨rfl, hx⟩ := y
      have hx' := hx _ (sm.seqT ha)
      rw [List.getElem?_map] at hx'
      obtain ⟨c, hci, rfl⟩ := Option.map_eq_some_iff.mp hx'
      have gc := (ok c (List.mem_of_getElem? hci)).same sm
      obtain ⟨pc, ep, hpc⟩ := gc.at_
      have st : ((cs.take (i + 1)).filter fun e => chK ks e.2) = ((cs.take i).filter fun e => chK ks e.2) ++ (if chK ks c.2 = true then [c] else []) := filtStep (f := fun e : V × CT => chK ks e.2) hci
      refine ⟨_, rfl, _, rfl, _, _, ep, SqT.of hpc, fun q2 H3 s3 hq2 => ?_⟩
      have hq2 : SqT K H3 q2 (([c.2.2.1, c.2.2.2] : List Key).map kV) := hq2
      refine ⟨_, rfl, q2, L, [c.2.2.1, c.2.2.2], ks, rfl, hq2, ?_, by show 2 ≤ 100; decide, (sm.trans s3) _ _ hL, hks, fun H4 s4 => ⟨_, rfl, ite2 (fun h1 => ?_) (fun h1 => ?_)⟩⟩
      · intro t ht
        simp only [List.mem_cons, List.not_mem_nil, or_false] at ht
        rcases ht with rfl | rfl
        · exact gc.o1
        · exact gc.o2
      · refine ⟨_, rfl, _, (s3.trans s4) _ _ e, ?_, ⟨_, rfl⟩, (sm.trans (s3.trans s4)).set hD, ?_⟩
        · have := List.length_filter_le (fun e : V × CT => chK ks e.2) (cs.take i)
          rw [List.length_take] at this
          rw [List.length_map]
          exact Nat.lt_of_lt_of_le (show _ < 1000 by omega) (by decide)
        · rw [upd_same, st, if_pos (show chK ks c.2 = true from h1), List.map_append]
          rfl
      · refine ⟨⟨_, rfl⟩, sm.trans (s3.trans s4), ?_⟩
        rw [st, if_neg (show ¬ chK ks c.2 = true from h1), List.append_nil]
        exact (s3.trans s4) _ _ e
def sp_cd (K : PySem.W.Frag) : Sp := fun vs H Q _ => ∃ (a A L : Addr) (cs : List (V × CT)) (as ks : List Key), vs = [.ref a, .ref A, .ref L] ∧ SqT K H a (cs.map (·.1)) ∧ (∀ e ∈ cs, CGood H e) ∧ cs.length ≤ 100 ∧ H A = some (.lst (as.map kV)) ∧ (∀ t ∈ as, TxOk t) ∧ H L = some (.lst (ks.map kV)) ∧ (∀ t ∈ ks, TxOk t) ∧
  ∀ D H', Same H H' → H D = none → H' D = some (.lst (((cs.filter fun e => chK ks e.2).filter fun e => !chK as e.2).map (·.1))) → Q (.ref D) H'
theorem ok_choices_due (T : Txt K mg) : Def P w K mg base 6 "choices_due" ["choices", "ahead", "known"] (sp_cd K) := by
  refine T.t_choices_due.ok sc_choices_due (fun vs H Q E h => ?_) fun f cdv A outer s H vs Q E hr h => ?_
  · obtain ⟨a, A, L, cs, as, ks, rfl, _⟩ := h
    rfl
  · obtain ⟨a, A', L, cs, as, ks, rfl, ha, ok, lc, hA, has, hL, hks, k⟩ := h
    refine ⟨_, (pss_one (ps_ret (pe_comp (N := ["choice", "ahead"]) (caps := [none, some 1]) rfl (by with_unfolding_all rfl) (pi_listK K (pe_def (ok_choices_known T) hr rfl (pa_2 (pv 0) (pv 2)))) (fun _ _ _ _ _ => (pg_name (i := 0) (show (["choice", "ahead"] : List Str).Nodup by decide +kernel) rfl (Or.inl rfl))) (fun _ _ _ _ _ => pf_one (pt_not (pt_val (pe_def (ok_are_known T) hr rfl (pa_2 (pe_slice (sl_tupA K) (pv 0) (po_some pe_int) po_none) (pv 1)))))) (fun _ _ _ _ _ => (pv 0))))), ?_⟩
    refine ⟨_, rfl, _, rfl, a, L, cs, ks, rfl, ha, ok, lc, hL, hks, fun D1 H1 s1 hD1 h1 => ?_⟩
    have l1 := List.length_filter_le (fun e : V × CT => chK ks e.2) cs
    have ok1 : ∀ e ∈ (cs.filter fun e => chK ks e.2), CGood H1 e := fun e he => (ok e (List.mem_filter.mp he).1).same s1
    have k : ∀ D H', Same H1 H' → H1 D = none → H' D = some (.lst (((cs.filter fun e => chK ks e.2).filter fun e => !chK as e.2).map (·.1))) → Q (.ref D) H' := fun D H' s' hD h' => k D H' (s1.trans s') (s1.free hD) h'
    generalize (cs.filter fun e => chK ks e.2) = ds at h1 k l1 ok1
    refine ⟨D1, rfl, ⟨_, SqL.of h1⟩, fun D hD => ?_⟩
    refine comp_by (ds.map (·.1)).length (fun i σ' H' => (∃ v, σ' = [v, some (.ref A')]) ∧ Same H1 H' ∧ H' D = some (.lst (((ds.take i).filter fun e => !chK as e.2).map (·.1)))) ⟨⟨_, rfl⟩, same_upd hD, upd_same⟩ (fun i σ' H' hi p => ?_) (fun σ' H' p => ⟨?_, ?_⟩) (fun i σ' H' hi p x H2 y => ?_)
    · obtain ⟨_, sm, _⟩ := p
      exact ⟨_, _, SqL.of (sm _ _ h1), List.getElem?_eq_getElem hi⟩
    · obtain ⟨_, sm, _⟩ := p
      exact ⟨_, SqL.of (sm _ _ h1), Nat.le_refl _⟩
    · obtain ⟨_, sm, e⟩ := p
      rw [List.length_map, List.take_length] at e
      exact k D H' sm hD e
    · obtain ⟨⟨v, rfl⟩, sm, e⟩ := p
      obtain ⟨rfl, hx⟩ := y
      have hx' := hx _ (SqL.of (sm _ _ h1))
      rw [List.getElem?_map] at hx'
      obtain ⟨c, hci, rfl⟩ := Option.map_eq_some_iff.mp hx'
      have gc := (ok1 c (List.mem_of_getElem? hci)).same sm
      obtain ⟨pc, ep, hpc⟩ := gc.at_
      have st : ((ds.take (i + 1)).filter fun e => !chK as e.2) = ((ds.take i).filter fun e => !chK as e.2) ++ (if (!chK as c.2) = true then [c] else []) := filtStep (f := fun e : V × CT => !chK as e.2) hci
      refine ⟨_, rfl, _, rfl, _, _, ep, SqT.of hpc, fun q2 H3 s3 hq2 => ?_⟩
      have hq2 : SqT K H3 q2 (([c.2.2.1, c.2.2.2] : List Key).map kV) := hq2
      refine ⟨_, rfl, q2, A', [c.2.2.1, c.2.2.2], as, rfl, hq2, ?_, by show 2 ≤ 100; decide, (s1.trans (sm.trans s3)) _ _ hA, has, fun H4 s4 => ⟨_, rfl, ite2 (fun h1 => ?_) (fun h1 => ?_)⟩⟩
      · intro t ht
        simp only [List.mem_cons, List.not_mem_nil, or_false] at ht
        rcases ht with rfl | rfl
        · exact gc.o1
        · exact gc.o2
      · refine ⟨_, rfl, _, (s3.trans s4) _ _ e, ?_, ⟨_, rfl⟩, (sm.trans (s3.trans s4)).set hD, ?_⟩
        · have := List.length_filter_le (fun e : V × CT => !chK as e.2) (ds.take i)
          rw [List.length_take] at this
          rw [List.length_map]
          exact Nat.lt_of_lt_of_le (show _ < 1000 by omega) (by decide)
        · rw [upd_same, st, if_pos (show (!chK as c.2) = true from h1), List.map_append]
          rfl
      · refine ⟨⟨_, rfl⟩, sm.trans (s3.trans s4), ?_⟩
        rw [st, if_neg (show ¬ (!chK as c.2) = true from h1), List.append_nil]
        exact (s3.trans s4) _ _ e
def vK : V → Key
  | .int i => .inl i
  | .str z => .inr z
  | _ => .inl 0
theorem vK_kV : ∀ u : Key, vK (kV u) = u
  | .inl _ => rfl
  | .inr _ => rfl
def HOk (kvs : List (Key × V)) (e : CT) : Prop := ∃ u v : Key, tv kvs e.2.1 = kV u ∧ tv kvs e.2.2 = kV v ∧ OkK u ∧ OkK v
def holdsB (kvs : List (Key × V)) (e : CT) : Bool :=
  if e.1 = sgE then decide (tv kvs e.2.1 = tv kvs e.2.2) else if e.1 = sgN then !decide (tv kvs e.2.1 = tv kvs e.2.2) else befK (vK (tv kvs e.2.1)) (vK (tv kvs e.2.2))
def sp_ah (K : PySem.W.Frag) : Sp := fun vs H Q _ => ∃ (a b : Addr) (cs : List (V × CT)) (kvs : List (Key × V)), vs = [.ref a, .ref b] ∧ SqL K H a (cs.map (·.1)) ∧ (∀ e ∈ cs, CVh H e ∧ HOk kvs e.2) ∧ cs.length ≤ 100 ∧ H b = some (.dK kvs) ∧
  ∀ H', Same H H' → Q (.bl (cs.all fun e => holdsB kvs e.2)) H'
theorem ok_all_hold (T : Txt K mg) : Def P w K mg base 5 "all_hold" ["choices", "binding"] (sp_ah K) := by
  refine T.t_all_hold.ok sc_all_hold (fun vs H Q E h => ?_) fun f cdv A outer s H vs Q E hr h => ?_
  · obtain ⟨a, b, cs, kvs, rfl, _⟩ := h
    rfl
  · obtain ⟨a, b, cs, kvs, rfl, ha, ok, lc, hb, k⟩ := h
    refine ⟨_, (pss_one (ps_ret (pe_callB (call_allL rfl K) rfl T.b_all bt_all (pa_1 (pe_comp (N := ["choice", "binding"]) (caps := [none, some 1]) rfl (by with_unfolding_all rfl) (pi_listK K (pv 0)) (fun _ _ _ _ _ => (pg_name (i := 0) (show (["choice", "binding"] : List Str).Nodup by decide +kernel) rfl (Or.inl rfl))) (fun _ _ _ _ _ => pf_nil) (fun _ _ _ _ _ => (pe_def (ok_holds T) hr rfl (pa_2 (pv 0) (pv 1))))))))), ?_⟩
    refine ⟨_, rfl, a, rfl, ⟨_, ha⟩, fun D hD => ?_⟩
    refine comp_by (cs.map (·.1)).length (fun i σ' H' => (∃ v, σ' = [v, some (.ref b)]) ∧ Same H H' ∧ H' D = some (.lst (((cs.take i).map fun e => holdsB kvs e.2).map V.bl))) ⟨⟨_, rfl⟩, same_upd hD, upd_same⟩ (fun i σ' H' hi p => ?_) (fun σ' H' p => ⟨?_, ?_⟩) (fun i σ' H' hi p x H2 y => ?_)
    · obtain ⟨_, sm, _⟩ := p
      exact ⟨_, _, sm.seq ha, List.getElem?_eq_getElem hi⟩
    · obtain ⟨_, sm, _⟩ := p
      exact ⟨_, sm.seq ha, Nat.le_refl _⟩
    · obtain ⟨_, sm, e⟩ := p
      rw [List.length_map, List.take_length] at e
      refine ⟨D, _, rfl, SqL.of e, ?_⟩
      have := k H' sm
      rw [List.all_map]
      exact this
    · obtain ⟨⟨v, rfl⟩, sm, e⟩ := p
      obtain ⟨rfl, hx⟩ := y
      have hx' := hx _ (sm.seq ha)
      rw [List.getElem?_map] at hx'
      obtain ⟨c, hci, rfl⟩ := Option.map_eq_some_iff.mp hx'
      obtain ⟨cv, u, v, eu, ev, ou, ov⟩ := ok c (List.mem_of_getElem? hci)
      obtain ⟨pc, ep, hpc⟩ := cv.same sm
      refine ⟨_, rfl, _, rfl, pc, b, c.2.1, c.2.2.1, c.2.2.2, u, v, kvs, by rw [ep]; rfl, hpc, sm _ _ hb, eu, ev, ou, ov, fun H3 s3 => ?_⟩
      have eB : (if c.2.1 = sgE then decide (kV u = kV v) else if c.2.1 = sgN then !decide (kV u = kV v) else befK u v) = holdsB kvs c.2 := by
        unfold holdsB
        rw [eu, ev, vK_kV, vK_kV]
      rw [eB]
      refine ⟨_, s3 _ _ e, ?_, ⟨_, rfl⟩, (sm.trans s3).set hD, ?_⟩
      · rw [List.length_map, List.length_map, List.length_take]
        rw [List.length_map] at hi
        exact Nat.lt_of_lt_of_le (show _ < 1000 by omega) (by decide)
      · rw [upd_same, List.take_succ, hci, List.map_append, List.map_append]
        rfl
end
end Wy
namespace Wy
open PySem L2
def mKey (sh : List Key) (bk : List (Key × V)) : List Key := sh.map fun t => vK (tv bk t)
theorem tv_key {bk : List (Key × V)} (h : AllK bk) (t : Key) : tv bk t = kV (vK (tv bk t)) := by
  obtain ⟨j, e⟩ := h.get t
  have e' : tv bk t = kV j := e
  rw [e', vK_kV]
theorem mKey_is {bk : List (Key × V)} (h : AllK bk) (sh : List Key) : sh.map (tv bk) = (mKey sh bk).map kV := by
  unfold mKey
  rw [List.map_map]
  exact List.map_congr_left fun t _ => tv_key h t
theorem AllK.step {kvs k2 : List (Key × V)} {t v : Key} (h : AllK kvs) (e : mStep kvs t v = some k2) : AllK k2 := by
  unfold mStep at e
  split at e
  · cases e
    exact h.put t v
  · cases e
theorem AllK.all : ∀ {l : List (Key × Key)} {kvs k2 : List (Key × V)}, AllK kvs → mAll kvs l = some k2 → AllK k2
  | [], _, _, h, e => by cases e; exact h
  | p :: l, kvs, k2, h, e => by
    have e' : (mStep kvs p.1 p.2).bind (fun k => mAll k l) = some k2 := e
    cases q : mStep kvs p.1 p.2 with
    | none => rw [q] at e'; cases e'
    | some k => rw [q] at e'; exact AllK.all (h.step q) e'
abbrev RW := V × List Key
def RowV (K : PySem.W.Frag) (H : Hp) (e : RW) : Prop := ∃ p, e.1 = .ref p ∧ SqT K H p (e.2.map kV)
theorem RowV.same {K : PySem.W.Frag} {H H' : Hp} {e : RW} (s : Same H H') (h : RowV K H e) : RowV K H' e := let ⟨p, e1, h1⟩ := h; ⟨p, e1, s.seqT h1⟩
abbrev MR := RW × List (Key × V)
def mOne (ts : List Key) (e : RW) : Option MR := if ts.length = e.2.length then (mAll [] (ts.zip e.2)).map fun b => (e, b) else none
def PrV (H : Hp) (x : V) (m : MR) : Prop := ∃ p q, x = .ref p ∧ H p = some (.tup [m.1.1, .ref q]) ∧ H q = some (.dK m.2)
theorem PrV.same {H H' : Hp} {x : V} {m : MR} (s : Same H H') (h : PrV H x m) : PrV H' x m := let ⟨p, q, e, h1, h2⟩ := h; ⟨p, q, e, s _ _ h1, s _ _ h2⟩
def ofKey (sh : List Key) (k : List Key) (ms : List MR) : List MR := ms.filter fun m => decide (mKey sh m.2 = k)
structure Grp (H0 H : Hp) (sh : List Key) (ms : List MR) (kvs : List (List Key × V)) : Prop where
  at_ : ∀ k, (valV kvs k = none ∧ ofKey sh k ms = []) ∨ ∃ L xs, valV kvs k = some (.ref L) ∧ H0 L = none ∧ H L = some (.lst xs) ∧ Paired (PrV H) xs (ofKey sh k ms)
  inj : ∀ k k' L, valV kvs k = some (.ref L) → valV kvs k' = some (.ref L) → k = k'
theorem fmapStep {α β : Type} {as : List α} {f : α → Option β} {i : Nat} {e : α} (h : as[i]? = some e) : (as.take (i + 1)).filterMap f = (as.take i).filterMap f ++ (f e).toList := by
  rw [List.take_succ, h, List.filterMap_append]
  congr 1
theorem ofKey_app (sh k : List Key) (ms : List MR) (m : MR) : ofKey sh k (ms ++ [m]) = if mKey sh m.2 = k then ofKey sh k ms ++ [m] else ofKey sh k ms := by
  unfold ofKey
  rw [List.filter_append]
  by_cases h : mKey sh m.2 = k
  · rw [if_pos h, List.filter_cons_of_pos (p := fun m : MR => decide (mKey sh m.2 = k)) (decide_eq_true h)]
    rfl
  · rw [if_neg h, List.filter_cons_of_neg (p := fun m : MR => decide (mKey sh m.2 = k)) (by simpa using h)]
    exact List.append_nil _
theorem Grp.same {H0 H H' : Hp} {sh : List Key} {ms : List MR} {kvs : List (List Key × V)} (s : Same H H') (g : Grp H0 H sh ms kvs) : Grp H0 H' sh ms kvs :=
  ⟨fun k => (g.at_ k).elim .inl fun ⟨L, xs, e, f, h, r⟩ => .inr ⟨L, xs, e, f, s _ _ h, L2.Paired.mapP r fun _ _ z => z.same s⟩, g.inj⟩
theorem Grp.old {H0 H H' : Hp} {sh : List Key} {ms : List MR} {kvs : List (List Key × V)} {m : MR} {L p : Addr} {xs : List V} (g : Grp H0 H sh ms kvs) (ev : valV kvs (mKey sh m.2) = some (.ref L)) (hL : H' L = some (.lst (xs ++ [.ref p])))
    (hx : H L = some (.lst xs)) (st : ∀ b o, b ≠ L → H b = some o → H' b = some o) (hp : PrV H' (.ref p) m) : Grp H0 H' sh (ms ++ [m]) kvs := by
  have kp : ∀ {x n}, PrV H x n → PrV H' x n := fun ⟨p, q, e, h1, h2⟩ => ⟨p, q, e, st _ _ (fun z => by rw [z, hx] at h1; cases h1) h1, st _ _ (fun z => by rw [z, hx] at h2; cases h2) h2⟩
  refine ⟨fun k => ?_, g.inj⟩
  rw [ofKey_app]
  by_cases h : mKey sh m.2 = k
  · subst h
    rw [if_pos rfl]
    rcases g.at_ (mKey sh m.2) with ⟨z, _⟩ | ⟨L9, ys, e2, f2, h2, r2⟩
    · rw [z] at ev
      cases ev
    · rw [ev] at e2
      injection e2 with e2
      injection e2 with e2
      subst e2
      rw [hx] at h2
      injection h2 with h2
      injection h2 with h2
      subst h2
      exact .inr ⟨L, _, ev, f2, hL, paired_app (L2.Paired.mapP r2 fun _ _ z => kp z) hp⟩
  · rw [if_neg h]
    rcases g.at_ k with z | ⟨L9, ys, e2, f2, h2, r2⟩
    · exact .inl z
    · exact .inr ⟨L9, ys, e2, f2, st _ _ (fun z => h (g.inj _ _ L (ev) (by rw [← z]; exact e2))) h2, L2.Paired.mapP r2 fun _ _ z => kp z⟩
theorem Grp.new {H0 H H' : Hp} {sh : List Key} {ms : List MR} {kvs : List (List Key × V)} {m : MR} {L p : Addr} (g : Grp H0 H sh ms kvs) (ev : valV kvs (mKey sh m.2) = none) (hL : H' L = some (.lst [.ref p])) (fL : H0 L = none)
    (hx : H L = none) (st : ∀ k n, (∃ L' xs, valV kvs k = some (.ref L') ∧ L' = n ∧ H n = some (.lst xs)) → H' n = H n) (kp : ∀ {x n}, PrV H x n → PrV H' x n) (hp : PrV H' (.ref p) m) : Grp H0 H' sh (ms ++ [m]) (putK kvs (mKey sh m.2) (.ref L)) := by
  refine ⟨fun k => ?_, fun k k' L2 h1 h2 => ?_⟩
  · rw [ofKey_app, valV_put]
    by_cases h : mKey sh m.2 = k
    · subst h
      rw [if_pos rfl, if_pos rfl]
      rcases g.at_ (mKey sh m.2) with ⟨_, z⟩ | ⟨L2, ys, e2, _⟩
      · rw [z]
        exact .inr ⟨L, _, rfl, fL, hL, .cons hp .nil⟩
      · rw [ev] at e2
        cases e2
    · rw [if_neg h, if_neg (fun z => h z.symm)]
      rcases g.at_ k with z | ⟨L9, ys, e2, f2, h2, r2⟩
      · exact .inl z
      · exact .inr ⟨L9, ys, e2, f2, by rw [st k L9 ⟨L9, ys, e2, rfl, h2⟩]; exact h2, L2.Paired.mapP r2 fun _ _ z => kp z⟩
  · rw [valV_put] at h1 h2
    have no : ∀ j, valV kvs j = some (.ref L) → False := fun j hj => by
      rcases g.at_ j with ⟨z, _⟩ | ⟨L3, ys, e3, _, h3, _⟩
      · rw [z] at hj
        cases hj
      · rw [hj] at e3
        injection e3 with e3
        injection e3 with e3
        rw [← e3, hx] at h3
        cases h3
    split at h1
    · rename_i q1
      split at h2
      · rename_i q2
        rw [q1, q2]
      · injection h1 with h1
        injection h1 with h1
        rw [← h1] at h2
        exact (no _ h2).elim
    · split at h2
      · injection h2 with h2
        injection h2 with h2
        rw [← h2] at h1
        exact (no _ h1).elim
      · exact g.inj _ _ _ h1 h2
section
variable {P : Program} {w : World} {K : PySem.W.Frag} {mg : Str → Option Value} {base : Heap}
def sp_rbs (K : PySem.W.Frag) : Sp := fun vs H Q _ => ∃ (a b c : Addr) (ts sh : List Key) (rs : List RW), vs = [.ref a, .ref b, .ref c] ∧ SqT K H a (ts.map kV) ∧ SqL K H b (rs.map (·.1)) ∧ (∀ e ∈ rs, RowV K H e) ∧ SqT K H c (sh.map kV) ∧ (∀ t ∈ ts, TxOk t) ∧ ts.length ≤ 100 ∧ sh.length ≤ 100 ∧ rs.length ≤ 1000 ∧
  ∀ d kvs H', Same H H' → H d = none → H' d = some (.dT kvs) → Grp H H' sh (rs.filterMap (mOne ts)) kvs → Q (.ref d) H'
theorem ok_rows_by_shared (T : Txt K mg) : Def P w K mg base 4 "rows_by_shared" ["terms", "rows", "shared"] (sp_rbs K) := by
  refine T.t_rows_by_shared.ok sc_rows_by_shared (fun vs H Q E h => ?_) fun f cdv A outer s H vs Q E hr h => ?_
  · obtain ⟨a, b, c, ts, sh, rs, rfl, _⟩ := h
    rfl
  · obtain ⟨a, b, c, ts, sh, rs, rfl, ha, hb, hrs, hc, hts, lt, ls, lr, k⟩ := h
    refine ⟨_, (pss_3
      (ps_set (i := 3) sc_rows_by_shared.nd rfl (Or.inl rfl) pe_dnewT)
      (ps_for PassesOwn.never rfl (pi_listK K (pv 1)) (pg_name (i := 4) sc_rows_by_shared.nd rfl (Or.inl rfl)) (pss_2
      (ps_set (i := 5) sc_rows_by_shared.nd rfl (Or.inl rfl) (pe_def (ok_matched T) hr rfl (pa_3 (pv 0) (pv 4) pe_dnewK)))
      (ps_if (pt_cmpR op_notN (pv 5) pe_non (nomark _)) (pss_one (ps_expr (pe_bm PySem.F.plainAttrs_list PySem.F.slot_list_append PySem.F.type_list_append mt_append (pe_dsetdT (hu_of hr) (pv 3) (pe_def (ok_put_in T) hr rfl (pa_2 (pv 2) (pv 5))) (pe_lst pa_nil) ⟨rfl, rfl, rfl, rfl⟩) (pa_1 (pe_tup (pa_2 (pv 4) (pv 5))))))) pss_nil)))
      (ps_ret (pv 3))), ?_⟩
    refine fun d hd => ?_
    have s1 := same_upd (o := HO.dT []) hd
    refine ⟨_, rfl, b, rfl, ⟨_, s1.seq hb⟩, for_list (xs := rs.map (·.1)) (fun i σ H' => ∃ (v1 v2 : Option V) (kvs : List (List Key × V)), σ = [some (.ref a), some (.ref b), some (.ref c), some (.ref d), v1, v2] ∧ Same H H' ∧ H' d = some (.dT kvs) ∧ kvs.length ≤ i ∧ Grp H H' sh ((rs.take i).filterMap (mOne ts)) kvs) ⟨none, none, [], rfl, s1, upd_same, Nat.le_refl _, ⟨fun k => .inl ⟨rfl, rfl⟩, fun k k' L e => nomatch e⟩⟩ (fun i σ H' _ p => ?_) ?_ ?_⟩
    · obtain ⟨_, _, _, _, z, _⟩ := p
      exact z.seq hb
    · rintro i x σ H1 hx ⟨v1, v2, kvs, rfl, sm, hD, lk, g⟩
      rw [List.getElem?_map] at hx
      obtain ⟨e, hei, rfl⟩ := Option.map_eq_some_iff.mp hx
      obtain ⟨p, ep, hp⟩ := (hrs e (List.mem_of_getElem? hei)).same sm
      have st := fmapStep (f := mOne ts) hei
      have hil := (List.getElem?_eq_some_iff.mp hei).1
      refine ⟨_, rfl, _, rfl, fun q hq => ?_⟩
      have s2 := same_upd (o := HO.dK []) hq
      refine ⟨a, p, q, ts, e.2, [], by rw [ep]; rfl, (sm.trans s2).seqT ha, s2.seqT hp, upd_same, hts, (fun _ z => nomatch z), lt, by decide, fun hno H2 s3 => ?_, fun bk r H2 el em s3 hr0 hr2 => ?_⟩
      · refine ⟨_, rfl, rfl, _, rfl, iteFb rfl ?_⟩
        have e0 : mOne ts e = none := by
          unfold mOne
          rcases hno with z | z
          · rw [if_neg z]
          · rw [z]
            split <;> rfl
        have s23 := s2.trans s3
        refine ⟨_, _, kvs, rfl, sm.trans s23, s23 _ _ hD, by omega, ?_⟩
        rw [st, e0]
        show Grp H H2 sh (_ ++ []) kvs
        rw [List.append_nil]
        exact g.same s23
      · refine ⟨_, rfl, rfl, _, rfl, iteTb rfl ?_⟩
        have e1 : mOne ts e = some (e, bk) := by
          unfold mOne
          rw [if_pos el, em]
          rfl
        have ab : AllK bk := AllK.all (kvs := []) (fun _ z => nomatch z) em
        have s23 := s2.trans s3
        have sm2 := sm.trans s23
        refine ⟨_, rfl, d, rfl, .inr ⟨_, .inl (s23 _ _ hD)⟩, _, rfl, _, rfl, c, r, sh, bk, rfl, sm2.seqT hc, hr2, ls, fun b2 H3 s4 hb2 => ?_⟩
        refine ⟨by decide, fun z hz => ?_⟩
        have s5 := same_upd (o := HO.lst []) hz
        rw [mKey_is ab] at hb2
        have s35 := s23.trans (s4.trans s5)
        have g5 := g.same s35
        refine ⟨kvs, mKey sh bk, b2, s35 _ _ hD, rfl, s5 _ _ hb2, Nat.lt_of_lt_of_le (show _ < 2000 by omega) (by decide), fun v ev => ?_, fun en => ?_⟩
        · rcases g5.at_ (mKey sh bk) with ⟨z0, _⟩ | ⟨L, xs, e2, f2, h2, r2⟩
          · rw [z0] at ev
            cases ev
          · rw [e2] at ev
            cases ev
            have lx : xs.length ≤ 1000 := by
              have h1 := r2.length
              have h2 := List.length_filter_le (fun m : MR => decide (mKey sh m.2 = mKey sh bk)) ((rs.take i).filterMap (mOne ts))
              have h3 := List.length_filterMap_le (mOne ts) (rs.take i)
              have h4 : xs.length = (List.filter (fun m : MR => decide (mKey sh m.2 = mKey sh bk)) ((rs.take i).filterMap (mOne ts))).length := h1
              rw [List.length_take] at h3
              omega
            have hD5 := s35 _ _ hD
            have hr5 := (s4.trans s5) _ _ hr2
            generalize upd H3 z (.lst []) = H5 at *
            refine ⟨.inl ⟨rfl, _, SqL.of h2⟩, _, rfl, _, rfl, by show 2 ≤ sizeLine; decide, fun w hw => ?_⟩
            have s6 := same_upd (o := HO.tup [e.1, .ref r]) hw
            have h6 := s6 _ _ h2
            have hD6 := s6 _ _ hD5
            refine ⟨L, xs, _, rfl, rfl, h6, Nat.lt_of_lt_of_le (show _ < 2000 by omega) (by decide), _, _, kvs, rfl, (sm.trans (s35.trans s6)).set f2, ?_, by omega, ?_⟩
            · rw [upd_ne (fun z => by rw [z, h6] at hD6; cases hD6)]
              exact hD6
            · rw [st, e1]
              refine (g5.same s6).old (m := (e, bk)) e2 upd_same h6 (fun b o n h => by rw [upd_ne n]; exact h) ⟨w, r, rfl, ?_, ?_⟩
              · rw [upd_ne (fun z => by rw [← z, upd_same] at h6; cases h6)]
                exact upd_same
              · have hr6 := s6 _ _ hr5
                have nL : r ≠ L := fun z => by
                  have hr7 := hr5
                  rw [z, h2] at hr7
                  cases hr7
                rw [upd_ne nL]
                exact hr6
        · have hD3 := (s23.trans s4) _ _ hD
          have g3 := g.same (s23.trans s4)
          have hz0 : H z = none := (sm2.trans s4).free hz
          have zd : z ≠ d := fun q => by rw [q, hD3] at hz; cases hz
          have hr3 := s4 _ _ hr2
          have eD : upd (upd H3 z (.lst [])) d (.dT (putK kvs (mKey sh bk) (.ref z))) z = some (.lst []) := by
            rw [upd_ne zd]
            exact upd_same
          refine ⟨.inl ⟨rfl, _, SqL.of eD⟩, _, rfl, _, rfl, by show 2 ≤ sizeLine; decide, fun w hw => ?_⟩
          have s6 := same_upd (o := HO.tup [e.1, .ref r]) hw
          have sH : Same H (upd (upd (upd (upd H3 z (.lst [])) d (.dT (putK kvs (mKey sh bk) (.ref z)))) w (.tup [e.1, .ref r])) z (.lst [.ref w])) := (((sm.trans s35).set hd).trans s6).set hz0
          have stay : ∀ n o, H3 n = some o → n ≠ d → upd (upd (upd (upd H3 z (.lst [])) d (.dT (putK kvs (mKey sh bk) (.ref z)))) w (.tup [e.1, .ref r])) z (.lst [.ref w]) n = some o := fun n o h nd => by
            have nz : n ≠ z := fun q => by rw [q, hz] at h; cases h
            have h6 : upd (upd H3 z (.lst [])) d (.dT (putK kvs (mKey sh bk) (.ref z))) n = some o := by rw [upd_ne nd, upd_ne nz]; exact h
            rw [upd_ne nz]
            exact s6 _ _ h6
          have zw : w ≠ z := fun q => by rw [q, eD] at hw; cases hw
          have dw : d ≠ w := fun q => by rw [← q, upd_same] at hw; cases hw
          refine ⟨z, [], _, rfl, rfl, s6 _ _ eD, by decide, _, _, putK kvs (mKey sh bk) (.ref z), rfl, sH, ?_, ?_, ?_⟩
          · rw [upd_ne (Ne.symm zd), upd_ne dw]
            exact upd_same
          · have := length_putK kvs (mKey sh bk) (.ref z)
            omega
          · rw [st, e1]
            refine g3.new (m := (e, bk)) (p := w) en upd_same hz0 hz ?_ (fun ⟨p, q, e, h1, h2⟩ => ⟨p, q, e, stay _ _ h1 (fun z => by rw [z, hD3] at h1; cases h1), stay _ _ h2 (fun z => by rw [z, hD3] at h2; cases h2)⟩) ⟨w, r, rfl, ?_, stay _ _ hr3 (fun z => by rw [z, hD3] at hr3; cases hr3)⟩
            · rintro k n ⟨L', xs, e1, rfl, h1⟩
              rw [h1]
              exact stay _ _ h1 (fun z => by rw [z, hD3] at h1; cases h1)
            · rw [upd_ne zw]
              exact upd_same
    · rintro σ H1 ⟨v1, v2, kvs, rfl, sm, hD, lk, g⟩
      rw [List.length_map, List.take_length] at g
      exact ⟨_, rfl, k d kvs H1 sm hd hD g⟩
end
end Wy
namespace Wy
open PySem L2
structure RuleAt (K : PySem.W.Frag) (H : Hp) (r : Addr) (hd : V) (as : List (V × AT)) (cs : List (V × CT)) : Prop where
  at_ : ∃ b c, SqT K H r [hd, .ref b, .ref c] ∧ SqT K H b (as.map (·.1)) ∧ SqT K H c (cs.map (·.1))
  body : ∀ e ∈ as, AGood H e
  chs : ∀ e ∈ cs, CGood H e
  la : as.length ≤ 20
  lc : cs.length ≤ 20
theorem RuleAt.same {K : PySem.W.Frag} {H H' : Hp} {r : Addr} {hd : V} {as : List (V × AT)} {cs : List (V × CT)} (s : Same H H') (h : RuleAt K H r hd as cs) : RuleAt K H' r hd as cs :=
  ⟨let ⟨b, c, h1, h2, h3⟩ := h.at_; ⟨b, c, s.seqT h1, s.seqT h2, s.seqT h3⟩, fun e he => (h.body e he).same s, fun e he => (h.chs e he).same s, h.la, h.lc⟩
theorem cutV_from (xs : List V) (n : Nat) (h : n ≤ xs.length) : cutV xs (some (n : Int)) none = xs.drop n := by
  unfold cutV
  rw [HT.sIx_nat, HT.sIx_none, Nat.min_eq_left h, List.take_of_length_le (by rw [List.length_drop]; exact Nat.le_refl _)]
theorem nodup_le {α : Type} [DecidableEq α] : ∀ {l m : List α}, l.Nodup → (∀ x ∈ l, x ∈ m) → l.length ≤ m.length
  | [], _, _, _ => Nat.zero_le _
  | x :: l, m, h, hs => by
    obtain ⟨h1, h2⟩ := List.nodup_cons.mp h
    have hx := hs x (List.mem_cons_self ..)
    have ih := nodup_le (m := m.erase x) h2 fun y hy => (List.mem_erase_of_ne (fun e : y = x => h1 (e ▸ hy))).mpr (hs y (List.mem_cons_of_mem _ hy))
    rw [List.length_erase_of_mem hx] at ih
    have : 0 < m.length := List.length_pos_of_mem hx
    rw [List.length_cons]
    omega
def laterK (ws ks : List Key) (n : Nat) (as : List AT) (cs : List CT) : List Key := ws ++ bodyV (as.drop n) ++ (cs.filter fun e => !chK ks e).flatMap fun e => varsK [e.2.1, e.2.2]
theorem laterK_ok {ws ks : List Key} {n : Nat} {as : List AT} {cs : List CT} (h1 : ∀ t ∈ ws, TxOk t) (h2 : ∀ e ∈ as, ∀ t ∈ e.2, TxOk t) (h3 : ∀ e ∈ cs, TxOk e.2.1 ∧ TxOk e.2.2) : ∀ t ∈ laterK ws ks n as cs, TxOk t := fun t ht => by
  unfold laterK at ht
  rcases List.mem_append.mp ht with ht | ht
  · rcases List.mem_append.mp ht with ht | ht
    · exact h1 t ht
    · obtain ⟨e, he, hm⟩ := List.mem_flatMap.mp ht
      exact h2 e (List.mem_of_mem_drop he) t (List.mem_filter.mp hm).1
  · obtain ⟨e, he, hm⟩ := List.mem_flatMap.mp ht
    have hm := (List.mem_filter.mp hm).1
    have he := (List.mem_filter.mp he).1
    simp only [List.mem_cons, List.not_mem_nil, or_false] at hm
    rcases hm with rfl | rfl
    · exact (h3 e he).1
    · exact (h3 e he).2
section
variable {P : Program} {w : World} {K : PySem.W.Frag} {mg : Str → Option Value} {base : Heap}
def sp_later (K : PySem.W.Frag) : Sp := fun vs H Q _ => ∃ (r L W : Addr) (n : Nat) (hd : V) (as : List (V × AT)) (cs : List (V × CT)) (ws : List Key) (zs : List Str), vs = [.ref r, .int n, .ref L, .ref W] ∧ RuleAt K H r hd as cs ∧ H L = some (.lst (zs.map V.str)) ∧ H W = some (.lst (ws.map kV)) ∧
  (∀ z ∈ zs, TxOk (.inr z)) ∧ (∀ t ∈ ws, TxOk t) ∧ zs.length ≤ 4000 ∧ ws.length ≤ 1000 ∧ zs.length < 64 ∧ n ≤ as.length ∧
  ∀ (q : Addr) (us : List Str) (H' : Hp), Same H H' → H' q = some (.tup (us.map V.str)) → (∀ z, z ∈ us ↔ z ∈ zs ∧ Sum.inr z ∈ laterK ws (zs.map Sum.inr) n (as.map (·.2)) (cs.map (·.2))) → Q (.ref q) H'
theorem ok_asked_later (T : Txt K mg) : Def P w K mg base 6 "asked_later" ["rule", "place", "known", "wanted"] (sp_later K) := by
  refine T.t_asked_later.ok sc_asked_later (fun vs H Q E h => ?_) fun f cdv A outer s H vs Q E hr h => ?_
  · obtain ⟨r, L, W, n, hd, as, cs, ws, zs, rfl, _⟩ := h
    rfl
  · obtain ⟨r, L, W, n, hd, as, cs, ws, zs, rfl, hR, hL, hW, oz, ow, lz, lw, lz6, hn, k⟩ := h
    refine ⟨_, (pss_3
      (ps_set (i := 4) sc_asked_later.nd rfl (Or.inr rfl) (pe_op op_cat (pv 3) (pe_def (ok_variables_of_body T) hr rfl (pa_1 (pe_slice (sl_tupA K) (pe_ix (ix_tupK K) (pv 0) pe_int (fun _ _ => rfl)) (po_some (pv 1)) po_none)))))
      (ps_for PassesOwn.never rfl (pi_tupK K (pe_ix (ix_tupK K) (pv 0) pe_int (fun _ _ => rfl))) (pg_name (i := 5) sc_asked_later.nd rfl (Or.inl rfl)) (pss_one (ps_if (pt_not (pt_val (pe_def (ok_are_known T) hr rfl (pa_2 (pe_slice (sl_tupA K) (pv 5) (po_some pe_int) po_none) (pv 2))))) (pss_one (ps_set (i := 4) sc_asked_later.nd rfl (Or.inr rfl) (pe_op op_cat (pv 4) (pe_def (ok_variables_in T) hr rfl (pa_1 (pe_slice (sl_tupA K) (pv 5) (po_some pe_int) po_none)))))) pss_nil)))
      (ps_ret (pe_callTy (call_tupleK K) rfl T.b_tuple bt_tuple (pa_1 (pe_comp (N := ["variable", "later"]) (caps := [none, some 4]) rfl (by with_unfolding_all rfl) (pi_listK K (pe_callB (call_sortedTs rfl P w) rfl T.b_sorted bt_sorted (pa_1 (pe_callTy (call_setS rfl P w K) rfl T.b_set bt_set (pa_1 (pv 2)))))) (fun _ _ _ _ _ => (pg_name (i := 0) (show (["variable", "later"] : List Str).Nodup by decide +kernel) rfl (Or.inl rfl))) (fun _ _ _ _ _ => pf_one (pt_cmpR (op_inLD hr.units K) (pv 0) (pv 1) (by with_unfolding_all rfl))) (fun _ _ _ _ _ => (pv 0))))))), ?_⟩
    obtain ⟨b, c, hr1, hb, hc⟩ := hR.at_
    refine ⟨_, rfl, _, rfl, _, _, _, _, rfl, rfl, hr1, atI_nat (j := 1) rfl, _, rfl, _, rfl, b, _, rfl, hb, fun b2 H1 s1 hb2 => ?_⟩
    rw [cutV_from _ _ (by rw [List.length_map]; exact hn), ← List.map_drop] at hb2
    have la := hR.la
    have lc := hR.lc
    refine ⟨b2, as.drop n, rfl, hb2, fun e he => (hR.body e (List.mem_of_mem_drop he)).same s1, by rw [List.length_drop]; omega, fun V1 H2 s2 hV0 hV lV => ?_⟩
    have s12 := s1.trans s2
    refine ⟨_, _, _, _, rfl, rfl, s12 _ _ hW, hV, by rw [List.length_map, List.length_map]; exact Nat.le_trans (show _ ≤ 100000 by omega) (by decide), fun l0 hl0 => ?_⟩
    have s3 := same_upd (o := HO.lst (ws.map kV ++ (bodyV ((as.drop n).map (·.2))).map kV)) hl0
    have hl1 := upd_same (H := H2) (a := l0) (o := HO.lst (ws.map kV ++ (bodyV ((as.drop n).map (·.2))).map kV))
    have S3 := s12.trans s3
    generalize upd H2 l0 (.lst (ws.map kV ++ (bodyV ((as.drop n).map (·.2))).map kV)) = H3 at *
    rw [← List.map_append] at hl1
    rw [List.map_drop] at hl1 lV
    obtain ⟨kz, ekz⟩ : ∃ kz : List Key, kz = zs.map Sum.inr := ⟨_, rfl⟩
    have hL' : ∀ {H'}, Same H H' → H' L = some (.lst (kz.map kV)) := fun s => by
      rw [s _ _ hL, ekz, List.map_map]
      rfl
    have okz : ∀ t ∈ kz, TxOk t := fun t ht => by
      rw [ekz] at ht
      obtain ⟨z, hz, rfl⟩ := List.mem_map.mp ht
      exact oz z hz
    rw [← ekz] at k
    refine ⟨_, rfl, _, _, _, _, rfl, rfl, S3.seqT hr1, atI_nat (j := 2) rfl, c, rfl, ⟨_, S3.seqT hc⟩, for_tup (xs := cs.map (·.1)) (fun i σ H' => ∃ (l : Addr) (v : Option V) (ls : List Key), σ = [some (.ref r), some (.int n), some (.ref L), some (.ref W), some (.ref l), v] ∧ Same H H' ∧ H' l = some (.lst (ls.map kV)) ∧ ls.length ≤ 11000 + 2 * i ∧ ls = laterK ws kz n (as.map (·.2)) ((cs.map (·.2)).take i)) ⟨l0, none, _, rfl, S3, hl1, by rw [List.length_append]; omega, by unfold laterK; simp⟩ (fun i σ H' _ p => ?_) ?_ ?_⟩
    · obtain ⟨_, _, _, _, z, _⟩ := p
      exact z.seqT hc
    · rintro i x σ H4 hx ⟨l, v, ls, rfl, sm, hl, ll, el⟩
      rw [List.getElem?_map] at hx
      obtain ⟨e, hei, rfl⟩ := Option.map_eq_some_iff.mp hx
      have gc := (hR.chs e (List.mem_of_getElem? hei)).same sm
      obtain ⟨pc, ep, hpc⟩ := gc.at_
      have hei2 : (cs.map (·.2))[i]? = some e.2 := by rw [List.getElem?_map, hei]; rfl
      have st : laterK ws kz n (as.map (·.2)) ((cs.map (·.2)).take (i + 1)) = ls ++ (if (!chK kz e.2) = true then varsK [e.2.2.1, e.2.2.2] else []) := by
        rw [el]
        unfold laterK
        rw [filtStep (f := fun e : CT => !chK kz e) hei2, List.flatMap_append]
        split
        · rw [List.append_assoc _ _ (varsK _)]
          congr 2
          simp
        · simp
      have o2 : ∀ t ∈ ([e.2.2.1, e.2.2.2] : List Key), TxOk t := fun t ht => by
        simp only [List.mem_cons, List.not_mem_nil, or_false] at ht
        rcases ht with rfl | rfl
        · exact gc.o1
        · exact gc.o2
      refine ⟨_, rfl, _, rfl, _, _, ep, SqT.of hpc, fun q2 H5 s5 hq2 => ?_⟩
      have hq2 : SqT K H5 q2 (([e.2.2.1, e.2.2.2] : List Key).map kV) := hq2
      refine ⟨_, rfl, q2, L, [e.2.2.1, e.2.2.2], kz, rfl, hq2, o2, by show 2 ≤ 100; decide, hL' (sm.trans s5), okz, fun H6 s6 => ⟨_, rfl, ite2 (fun h1 => ?_) (fun h1 => ?_)⟩⟩
      · have s56 := s5.trans s6
        refine ⟨_, rfl, _, rfl, _, rfl, _, _, ep, SqT.of (s56 _ _ hpc), fun q3 H7 s7 hq3 => ?_⟩
        have hq3 : SqT K H7 q3 (([e.2.2.1, e.2.2.2] : List Key).map kV) := hq3
        refine ⟨q3, _, rfl, hq3, o2, by show 2 ≤ 100; decide, fun V2 H8 s8 hV20 hV2 => ?_⟩
        have s58 := s56.trans (s7.trans s8)
        have vl := varsK_len [e.2.2.1, e.2.2.2]
        have vl2 : (varsK [e.2.2.1, e.2.2.2]).length ≤ 2 := vl
        have lei := (List.getElem?_eq_some_iff.mp hei).1
        refine ⟨_, _, _, _, rfl, rfl, s58 _ _ hl, hV2, by rw [List.length_map, List.length_map]; exact Nat.le_trans (show _ ≤ 100000 by omega) (by decide), fun l9 hl9 => ?_⟩
        refine ⟨l9, _, ls ++ varsK [e.2.2.1, e.2.2.2], rfl, sm.trans (s58.trans (same_upd hl9)), by rw [upd_same, List.map_append], by rw [List.length_append]; omega, ?_⟩
        rw [st, if_pos (show (!chK kz e.2) = true from h1)]
      · refine ⟨l, _, ls, rfl, sm.trans (s5.trans s6), (s5.trans s6) _ _ hl, by omega, ?_⟩
        rw [st, if_neg (show ¬ (!chK kz e.2) = true from h1), List.append_nil]
    · rintro σ H4 ⟨l, v, ls, rfl, sm, hl, ll, el⟩
      rw [List.length_map, ← List.length_map (f := fun x : V × CT => x.2) (as := cs), List.take_length] at el
      refine ⟨_, rfl, L, zs, rfl, .inl (SqL.of (sm _ _ hL)), lz, fun sa ys hsa nd mem => ?_⟩
      have sx := same_upd (o := SetH P w sa ys) hsa
      refine ⟨sa, ys, rfl, upd_same, by have := nodup_le nd (fun x hx => (mem x).mp hx); omega, fun o ho => ?_⟩
      have sy := same_upd (o := HO.lst ((Tim.srt L2.strLt ys).map V.str)) ho
      have ho1 := upd_same (H := upd H4 sa (SetH P w sa ys)) (a := o) (o := HO.lst ((Tim.srt L2.strLt ys).map V.str))
      have S5 := sx.trans sy
      generalize upd (upd H4 sa (SetH P w sa ys)) o (.lst ((Tim.srt L2.strLt ys).map V.str)) = H5 at *
      have mm : ∀ z, z ∈ Tim.srt L2.strLt ys ↔ z ∈ zs := fun z => by rw [(Tim.srt_perm L2.strLt ys).mem_iff]; exact mem z
      have len : (Tim.srt L2.strLt ys).length ≤ 63 := by
        have := nodup_le nd (fun x hx => (mem x).mp hx)
        rw [(Tim.srt_perm L2.strLt ys).length_eq]
        omega
      generalize Tim.srt L2.strLt ys = us at *
      refine ⟨o, rfl, ⟨_, SqL.of ho1⟩, fun D hD => ?_⟩
      refine comp_by (us.map V.str).length (fun i σ' H' => (∃ v, σ' = [v, some (.ref l)]) ∧ Same H5 H' ∧ H' D = some (.lst (((us.take i).filter fun z => inK ls (.inr z)).map V.str))) ⟨⟨_, rfl⟩, same_upd hD, upd_same⟩ (fun i σ' H' hi p => ?_) (fun σ' H' p => ⟨?_, ?_⟩) (fun i σ' H' hi p x H2 y => ?_)
      · obtain ⟨_, sm, _⟩ := p
        exact ⟨_, _, SqL.of (sm _ _ ho1), List.getElem?_eq_getElem hi⟩
      · obtain ⟨_, sm, _⟩ := p
        exact ⟨_, SqL.of (sm _ _ ho1), Nat.le_refl _⟩
      · obtain ⟨_, s6, e⟩ := p
        rw [List.length_map, List.take_length] at e
        refine ⟨_, _, rfl, .inl ⟨SqL.of e, fun q hq => ?_⟩⟩
        refine k q _ _ (sm.trans (S5.trans (s6.trans (same_upd hq)))) upd_same fun z => ?_
        rw [List.mem_filter, inK_iff, mm, el]
      · obtain ⟨⟨v, rfl⟩, s6, e⟩ := p
        obtain ⟨rfl, hx⟩ := y
        have hx' := hx _ (SqL.of (s6 _ _ ho1))
        rw [List.getElem?_map] at hx'
        obtain ⟨t, hti, rfl⟩ := Option.map_eq_some_iff.mp hx'
        have ot : TxOk (.inr t) := oz t ((mm t).mp (List.mem_of_getElem? hti))
        have st := filtStep (f := fun z : Str => inK ls (.inr z)) hti
        have okl : ∀ u ∈ ls, TxOk u := by rw [el]; exact laterK_ok ow (fun e he => by obtain ⟨e, he9, rfl⟩ := List.mem_map.mp he; exact (hR.body e he9).ok) fun e he => by obtain ⟨e, he9, rfl⟩ := List.mem_map.mp he; exact ⟨(hR.chs e he9).o1, (hR.chs e he9).o2⟩
        refine ⟨_, rfl, _, rfl, keyD (.inr t), ls.map keyD, dat_tx ot, .lst (SqL.of ((S5.trans s6) _ _ hl)) (dats_tx okl), Nat.le_trans (depth_tx ls) (by decide), ?_⟩
        rw [any_tx]
        refine ⟨_, rfl, ite2 (fun h1 => ?_) (fun h1 => ?_)⟩
        · refine ⟨_, rfl, _, e, ?_, ⟨_, rfl⟩, s6.set hD, ?_⟩
          · have h8 := List.length_filter_le (fun z : Str => inK ls (.inr z)) (us.take i)
            rw [List.length_take] at h8
            rw [List.length_map]
            exact Nat.lt_of_lt_of_le (show _ < 1000 by omega) (by decide)
          · rw [upd_same, st, if_pos h1, List.map_append]
            rfl
        · refine ⟨⟨_, rfl⟩, s6, ?_⟩
          rw [st, if_neg h1, List.append_nil]
          exact e
end
end Wy
namespace Wy
open PySem L2
def Keep (p : Addr) (H H' : Hp) : Prop := ∀ a o, a ≠ p → H a = some o → H' a = some o
theorem Keep.of {p : Addr} {H H' : Hp} (s : Same H H') : Keep p H H' := fun a o _ h => s _ _ h
theorem Keep.trans {p : Addr} {H H' H2 : Hp} (s : Keep p H H') (t : Keep p H' H2) : Keep p H H2 := fun a o n h => t _ _ n (s _ _ n h)
def IsIns (H : Hp) (p : Addr) : Prop := ∃ o, H p = some o ∧ ((∃ C dx fs, o = .ins C dx fs) ∨ ∃ xs, o = .lst xs)
theorem Keep.at_ {p a C dx : Addr} {fs : List (Str × V)} {H H' : Hp} {o : HO} (s : Keep p H H') (hp : H p = some (.ins C dx fs)) (h : H a = some o) (n : ∀ C dx fs, o ≠ .ins C dx fs) : H' a = some o :=
  s _ _ (fun z => by rw [z, hp] at h; injection h with h; exact n _ _ _ h.symm) h
theorem Keep.at2 {p a : Addr} {H H' : Hp} {o : HO} (s : Keep p H H') (hp : IsIns H p) (h : H a = some o) (n : ∀ C dx fs, o ≠ .ins C dx fs) (n2 : ∀ xs, o ≠ .lst xs) : H' a = some o :=
  s _ _ (fun z => by
    obtain ⟨o2, q, r⟩ := hp
    rw [z, q] at h
    injection h with h
    rcases r with ⟨C, dx, fs, r⟩ | ⟨xs, r⟩
    · exact n _ _ _ (h.symm.trans r)
    · exact n2 _ (h.symm.trans r)) h
theorem Keep.seqT {K : PySem.W.Frag} {p a : Addr} {H H' : Hp} {xs : List V} (s : Keep p H H') (hp : IsIns H p) (h : SqT K H a xs) : SqT K H' a xs := by
  rcases h with (h | ⟨o, h⟩) | h
  · exact .inl (.inl (s.at2 hp h nofun nofun))
  · exact .inl (.inr ⟨o, s.at2 hp h nofun nofun⟩)
  · exact .inr h
theorem RowV.keep {K : PySem.W.Frag} {p : Addr} {H H' : Hp} {e : RW} (s : Keep p H H') (hp : IsIns H p) (h : RowV K H e) : RowV K H' e := let ⟨q, e1, h1⟩ := h; ⟨q, e1, s.seqT hp h1⟩
theorem CGood.keep {p : Addr} {H H' : Hp} {e : V × CT} (s : Keep p H H') (hp : IsIns H p) (h : CGood H e) : CGood H' e := ⟨let ⟨q, e1, h1⟩ := h.at_; ⟨q, e1, s.at2 hp h1 nofun nofun⟩, h.o1, h.o2⟩
theorem PrV.keep {p : Addr} {H H' : Hp} {x : V} {m : MR} (s : Keep p H H') (hp : IsIns H p) (h : PrV H x m) : PrV H' x m := let ⟨q, r, e, h1, h2⟩ := h; ⟨q, r, e, s.at2 hp h1 nofun nofun, s.at2 hp h2 nofun nofun⟩
theorem Grp.keep {p : Addr} {H0 H H' : Hp} {sh : List Key} {ms : List MR} {kvs : List (List Key × V)} (s : Keep p H H') {C dx : Addr} {fs : List (Str × V)} (hp : H p = some (.ins C dx fs)) (g : Grp H0 H sh ms kvs) : Grp H0 H' sh ms kvs :=
  ⟨fun k => (g.at_ k).elim .inl fun ⟨L, xs, e, f, h, r⟩ => .inr ⟨L, xs, e, f, s.at_ hp h nofun, L2.Paired.mapP r fun _ _ z => z.keep s ⟨_, hp, .inl ⟨_, _, _, rfl⟩⟩⟩, g.inj⟩
theorem putF_new {f : Str} {v : V} : ∀ {fs : List (Str × V)} (ns : List Str), fs.map (·.1) = ns → ns.contains f = false → putF f v fs = fs ++ [(f, v)]
  | [], _, _, _ => rfl
  | (g, x) :: r, [], e, _ => nomatch e
  | (g, x) :: r, n :: ns, e, h => by
    injection e with e1 e2
    have e1 : g = n := e1
    rw [List.contains_cons, Bool.or_eq_false_iff] at h
    have ne : ¬ g = f := fun z => by
      rw [← e1, z] at h
      simp at h
    show (if g = f then (g, v) :: r else (g, x) :: putF f v r) = _
    rw [if_neg ne, putF_new ns e2 h.2]
    rfl
theorem fld_on {K : PySem.W.Frag} {H0 H1 : Hp} {p C dx : Addr} {fs : List (Str × V)} {f : Str} {y : V} {N : L2.St → Hp → Prop} {σ : L2.St} (ns : List Str) (S1 : Same H0 H1) (hp0 : H0 p = none) (hp : H1 p = some (.ins C dx fs)) (hc : Cls K C) (hn : NoAttr K C f) (hl : fs.length < 1000) (e : fs.map (·.1) = ns) (nw : ns.contains f = false)
    (h : ∀ H2, Same H0 H2 → H2 p = some (.ins C dx (fs ++ [(f, y)])) → (∀ a o, a ≠ p → H1 a = some o → H2 a = some o) → N σ H2) :
    ∃ a C dx fs, V.ref p = .ref a ∧ H1 a = some (.ins C dx fs) ∧ Cls K C ∧ NoAttr K C f ∧ fs.length < 1000 ∧ N σ (upd H1 a (.ins C dx (putF f y fs))) :=
  ⟨p, C, dx, fs, rfl, hp, hc, hn, hl, h _ (S1.set hp0) (by rw [upd_same, putF_new ns e nw]) fun a o n z => by rw [upd_ne n]; exact z⟩
structure TabsAt (K : PySem.W.Frag) (H : Hp) (t : Addr) (tvs : List (Key × V)) (tb : Str → List RW) : Prop where
  at_ : H t = some (.dK tvs)
  get : ∀ z, (valV tvs (.inr z) = none ∧ tb z = []) ∨ ∃ a, valV tvs (.inr z) = some (.ref a) ∧ H a = some (.lst ((tb z).map (·.1)))
  rows : ∀ z, ∀ e ∈ tb z, RowV K H e
  len : ∀ z, (tb z).length ≤ 1000
theorem TabsAt.same {K : PySem.W.Frag} {H H' : Hp} {t : Addr} {tvs : List (Key × V)} {tb : Str → List RW} (s : Same H H') (h : TabsAt K H t tvs tb) : TabsAt K H' t tvs tb :=
  ⟨s _ _ h.at_, fun z => (h.get z).elim .inl fun ⟨a, e, q⟩ => .inr ⟨a, e, s _ _ q⟩, fun z e he => (h.rows z e he).same s, h.len⟩
section
variable {P : Program} {w : World} {K : PySem.W.Frag} {mg : Str → Option Value} {base : Heap}
structure SD where
  atom : AT
  rows : List RW
  shared : List Key
  due : List (V × CT)
structure StepAt (K : PySem.W.Frag) (mg : Str → Option Value) (H : Hp) (p : Addr) (d : SD) (by_ : V) : Prop where
  at_ : ∃ dx tq rq sq dq aq, H p = some (.ins (cA mg "Step") dx [("table", .str d.atom.1), ("terms", .ref tq), ("rows", .ref rq), ("shared", .ref sq), ("by_shared", by_), ("due", .ref dq), ("asks", .ref aq)]) ∧
    H tq = some (.tup (d.atom.2.map kV)) ∧ H rq = some (.lst (d.rows.map (·.1))) ∧ H sq = some (.tup (d.shared.map kV)) ∧ H dq = some (.lst (d.due.map (·.1)))
  rows : ∀ e ∈ d.rows, RowV K H e
  due : ∀ e ∈ d.due, CGood H e
  terms : ∀ t ∈ d.atom.2, TxOk t
  lt : d.atom.2.length ≤ 100
  lr : d.rows.length ≤ 1000
  ls : d.shared.length ≤ 100
  ld : d.due.length ≤ 100
def sdOf (ks : List Key) (cs : List (V × CT)) (tb : Str → List RW) (a : AT) : SD :=
  ⟨a, tb a.1, (varsK a.2).filter (inK ks), (cs.filter fun e => chK (ks ++ varsK a.2) e.2).filter fun e => !chK ks e.2⟩
def sp_sinit (K : PySem.W.Frag) (mg : Str → Option Value) : Sp := fun vs H Q _ => ∃ (H0 : Hp) (p dx r t L W : Addr) (n : Nat) (hd : V) (as : List (V × AT)) (cs : List (V × CT)) (ws : List Key) (zs : List Str) (tvs : List (Key × V)) (tb : Str → List RW) (e : V × AT),
  vs = [.ref p, .ref r, .int n, .ref t, .ref L, .ref W] ∧ Same H0 H ∧ H0 p = none ∧ H p = some (.ins (cA mg "Step") dx []) ∧ RuleAt K H0 r hd as cs ∧ TabsAt K H0 t tvs tb ∧ H0 L = some (.lst (zs.map V.str)) ∧ H0 W = some (.lst (ws.map kV)) ∧
  (∀ z ∈ zs, TxOk (.inr z)) ∧ (∀ t ∈ ws, TxOk t) ∧ ws.length ≤ 1000 ∧ zs.length < 64 ∧ as[n]? = some e ∧
  ∀ H', Same H0 H' → StepAt K mg H' p (sdOf (zs.map Sum.inr) cs tb e.2) .non → (∀ A ys, H0 A = some (.lst ys) → (∀ z, valV tvs (.inr z) ≠ some (.ref A)) → ∀ o, StepAt K mg (upd H' A o) p (sdOf (zs.map Sum.inr) cs tb e.2) .non) → Q .non H'
theorem ok_Step_init (T : Txt K mg) : MDef P w K mg base 7 (cA mg "Step") "__init__" ["self", "rule", "place", "tables", "known", "wanted"] (sp_sinit K mg) := by
  refine T.t_Step_init.ok sc_Step_init (fun vs H Q E h => ?_) fun f cdv A outer s H vs Q E hr h => ?_
  · obtain ⟨H0, p, dx, r, t, L, W, n, hd, as, cs, ws, zs, tvs, tb, e, rfl, _⟩ := h
    rfl
  · obtain ⟨H0, p, dx, r, t, L, W, n, hd, as, cs, ws, zs, tvs, tb, e, rfl, s0, hp0, hp, hR, hT, hL, hW, oz, ow, lw, lz, he, k⟩ := h
    refine ⟨_, (pss_9
      (ps_set (i := 6) sc_Step_init.nd rfl (Or.inl rfl) (pe_ix (ix_tupK K) (pe_ix (ix_tupK K) (pv 1) pe_int (fun _ _ => rfl)) (pv 2) (fun _ _ => rfl)))
      (ps_set (i := 7) sc_Step_init.nd rfl (Or.inl rfl) (pe_def (ok_variables_in T) hr rfl (pa_1 (pe_ix (ix_tupK K) (pv 6) pe_int (fun _ _ => rfl)))))
      (ps_fld (pv 0) (pe_ix (ix_tupK K) (pv 6) pe_int (fun _ _ => rfl)) rfl)
      (ps_fld (pv 0) (pe_ix (ix_tupK K) (pv 6) pe_int (fun _ _ => rfl)) rfl)
      (ps_fld (pv 0) (pe_dget2 (hu_of hr) (pv 3) (pe_ix (ix_tupK K) (pv 6) pe_int (fun _ _ => rfl)) (pe_lst pa_nil) ⟨rfl, rfl, rfl, rfl⟩) rfl)
      (ps_fld (pv 0) (pe_callTy (call_tupleK K) rfl T.b_tuple bt_tuple (pa_1 (pe_comp (N := ["variable", "known"]) (caps := [none, some 4]) rfl (by with_unfolding_all rfl) (pi_listK K (pv 7)) (fun _ _ _ _ _ => (pg_name (i := 0) (show (["variable", "known"] : List Str).Nodup by decide +kernel) rfl (Or.inl rfl))) (fun _ _ _ _ _ => pf_one (pt_cmpR (op_inLD hr.units K) (pv 0) (pv 1) (by with_unfolding_all rfl))) (fun _ _ _ _ _ => (pv 0))))) rfl)
      (ps_fld (pv 0) pe_non rfl)
      (ps_fld (pv 0) (pe_def (ok_choices_due T) hr rfl (pa_3 (pe_ix (ix_tupK K) (pv 1) pe_int (fun _ _ => rfl)) (pv 4) (pe_op op_cat (pv 4) (pv 7)))) rfl)
      (ps_fld (pv 0) (pe_def (ok_asked_later T) hr rfl (pa_4 (pv 1) (pv 2) (pv 4) (pv 5))) rfl)), ?_⟩
    obtain ⟨b, c, hr1, hb, hc⟩ := hR.at_
    have ge := hR.body e (List.mem_of_getElem? he)
    obtain ⟨pe, qe, ee, hpe, hqe⟩ := ge.at_
    have hn : n ≤ as.length := Nat.le_of_lt (List.getElem?_eq_some_iff.mp he).1
    have ae : atI (as.map (·.1)) n = some e.1 := atI_nat (j := n) (by rw [List.getElem?_map, he]; rfl)
    refine ⟨_, rfl, _, _, _, _, rfl, rfl, s0.seqT hr1, atI_nat (j := 1) rfl, _, rfl, _, _, _, _, rfl, rfl, s0.seqT hb, ae, ?_⟩
    rw [ee]
    refine ⟨_, rfl, _, _, _, _, rfl, rfl, SqT.of (s0 _ _ hpe), atI_nat (j := 1) rfl, qe, e.2.2, rfl, SqT.of (s0 _ _ hqe), ge.ok, ge.len, fun V1 H1 s1 hV0 hV => ?_⟩
    have S1 := s0.trans s1
    have hp1 := s1 _ _ hp
    have vp : V1 ≠ p := fun z => by rw [z, hp1] at hV; cases hV
    refine ⟨_, rfl, _, _, _, _, rfl, rfl, SqT.of (S1 _ _ hpe), atI_nat (j := 0) rfl, _, rfl, ?_⟩
    refine fld_on [] S1 hp0 hp1 T.cl_Step T.n_Step_table (by show 0 < 1000; decide) rfl rfl fun H2 S2 hp2 K2 => ?_
    have hV2 := K2 _ _ vp hV
    refine ⟨_, rfl, _, _, _, _, rfl, rfl, SqT.of (S2 _ _ hpe), atI_nat (j := 1) rfl, _, rfl, ?_⟩
    refine fld_on ["table"] S2 hp0 hp2 T.cl_Step T.n_Step_terms (by show 1 < 1000; decide) rfl (by decide +kernel) fun H3 S3 hp3 K3 => ?_
    have hV3 := K3 _ _ vp hV2
    have hT3 := hT.same S3
    refine ⟨_, rfl, t, rfl, .inl ⟨_, .inl hT3.at_⟩, _, rfl, _, _, _, _, rfl, rfl, SqT.of (S3 _ _ hpe), atI_nat (j := 0) rfl, by decide, fun em hem => ?_⟩
    have s4 := same_upd (o := HO.lst []) hem
    have hp4 := s4 _ _ hp3
    have hV4 := s4 _ _ hV3
    have S4 := S3.trans s4
    have eem := upd_same (H := H3) (a := em) (o := HO.lst [])
    generalize upd H3 em (.lst []) = H4 at *
    refine ⟨_, DGet.k (k := .inr e.2.1) (S4 _ _ hT.at_), _, rfl, ?_⟩
    obtain ⟨rq, erq, hrq⟩ : ∃ rq, (valV tvs (.inr e.2.1)).getD (.ref em) = V.ref rq ∧ H4 rq = some (.lst ((tb e.2.1).map (·.1))) := by
      rcases hT.get e.2.1 with ⟨e1, e2⟩ | ⟨a, e1, e2⟩
      · rw [e1, e2]
        exact ⟨em, rfl, eem⟩
      · rw [e1]
        exact ⟨a, rfl, S4 _ _ e2⟩
    rw [erq]
    have rp : rq ≠ p := fun z => by rw [z, hp4] at hrq; cases hrq
    refine fld_on ["table", "terms"] S4 hp0 hp4 T.cl_Step T.n_Step_rows (by show 2 < 1000; decide) rfl (by decide +kernel) fun H5 S5 hp5 K5 => ?_
    have hV5 := K5 _ _ vp hV4
    have hrq5 := K5 _ _ rp hrq
    obtain ⟨kz, ekz⟩ : ∃ kz : List Key, kz = zs.map Sum.inr := ⟨_, rfl⟩
    have hL' : ∀ {H'}, Same H0 H' → H' L = some (.lst (kz.map kV)) := fun s => by
      rw [s _ _ hL, ekz, List.map_map]
      rfl
    have okz : ∀ t ∈ kz, TxOk t := fun t ht => by
      rw [ekz] at ht
      obtain ⟨z, hz, rfl⟩ := List.mem_map.mp ht
      exact oz z hz
    have lkz : kz.length < 64 := by rw [ekz, List.length_map]; exact lz
    rw [← ekz] at k
    have vl := varsK_len e.2.2
    have lte := ge.len
    have okv : ∀ t ∈ varsK e.2.2, TxOk t := fun t ht => ge.ok t (List.mem_filter.mp ht).1
    refine ⟨_, rfl, V1, rfl, ⟨_, SqL.of hV5⟩, fun D hD => ?_⟩
    refine comp_by ((varsK e.2.2).map kV).length (fun i σ' H' => (∃ v, σ' = [v, some (.ref L)]) ∧ Same H5 H' ∧ H' D = some (.lst ((((varsK e.2.2).take i).filter (inK kz)).map kV))) ⟨⟨_, rfl⟩, same_upd hD, upd_same⟩ (fun i σ' H' hi p => ?_) (fun σ' H' p => ⟨?_, ?_⟩) (fun i σ' H' hi p x H2 y => ?_)
    · obtain ⟨_, sm, _⟩ := p
      exact ⟨_, _, SqL.of (sm _ _ hV5), List.getElem?_eq_getElem hi⟩
    · obtain ⟨_, sm, _⟩ := p
      exact ⟨_, SqL.of (sm _ _ hV5), Nat.le_refl _⟩
    · obtain ⟨_, s6, e6⟩ := p
      rw [List.length_map, List.take_length] at e6
      refine ⟨_, _, rfl, .inl ⟨SqL.of e6, fun q hq => ?_⟩⟩
      have s7 := s6.trans (same_upd (o := HO.tup (((varsK e.2.2).filter (inK kz)).map kV)) hq)
      have eq7 := upd_same (H := H') (a := q) (o := HO.tup (((varsK e.2.2).filter (inK kz)).map kV))
      generalize upd H' q (.tup (((varsK e.2.2).filter (inK kz)).map kV)) = H7 at *
      have S7 := S5.trans s7
      have hp7 := s7 _ _ hp5
      have qp : q ≠ p := fun z => by rw [z, hp7] at eq7; cases eq7
      refine ⟨_, rfl, ?_⟩
      refine fld_on ["table", "terms", "rows"] S7 hp0 hp7 T.cl_Step T.n_Step_shared (by show 3 < 1000; decide) rfl (by decide +kernel) fun H8 S8 hp8 K8 => ?_
      have hV8 := K8 _ _ vp (s7 _ _ hV5)
      have hrq8 := K8 _ _ rp (s7 _ _ hrq5)
      have hq8 := K8 _ _ qp eq7
      refine ⟨_, rfl, ?_⟩
      refine fld_on ["table", "terms", "rows", "shared"] S8 hp0 hp8 T.cl_Step T.n_Step_by_shared (by show 4 < 1000; decide) rfl (by decide +kernel) fun H9 S9 hp9 K9 => ?_
      have hV9 := K9 _ _ vp hV8
      have hrq9 := K9 _ _ rp hrq8
      have hq9 := K9 _ _ qp hq8
      refine ⟨_, rfl, _, _, _, _, rfl, rfl, S9.seqT hr1, atI_nat (j := 2) rfl, _, rfl, _, rfl, _, rfl, _, _, _, _, rfl, rfl, hL' S9, hV9, by rw [List.length_map, List.length_map]; exact Nat.le_trans (show _ ≤ 1000 by omega) (by decide), fun kv hkv => ?_⟩
      have s10 := same_upd (o := HO.lst (kz.map kV ++ (varsK e.2.2).map kV)) hkv
      have ekv := upd_same (H := H9) (a := kv) (o := HO.lst (kz.map kV ++ (varsK e.2.2).map kV))
      generalize upd H9 kv (.lst (kz.map kV ++ (varsK e.2.2).map kV)) = H10 at *
      rw [← List.map_append] at ekv
      have S10 := S9.trans s10
      have lc := hR.lc
      refine ⟨c, L, kv, cs, kz, kz ++ varsK e.2.2, rfl, S10.seqT hc, fun x hx => (hR.chs x hx).same S10, by omega, hL' S10, okz, ekv, ?_, fun D2 H11 s11 hD2 hd11 => ?_⟩
      · intro t ht
        rcases List.mem_append.mp ht with ht | ht
        · exact okz t ht
        · exact okv t ht
      · have s911 := s10.trans s11
        have S11 := S9.trans s911
        have hp11 := s911 _ _ hp9
        have dp : D2 ≠ p := fun z => by rw [z, hp11] at hd11; cases hd11
        refine ⟨_, rfl, ?_⟩
        refine fld_on ["table", "terms", "rows", "shared", "by_shared"] S11 hp0 hp11 T.cl_Step T.n_Step_due (by show 5 < 1000; decide) rfl (by decide +kernel) fun H12 S12 hp12 K12 => ?_
        have hrq12 := K12 _ _ rp (s911 _ _ hrq9)
        have hq12 := K12 _ _ qp (s911 _ _ hq9)
        have hd12 := K12 _ _ dp hd11
        refine ⟨_, rfl, _, rfl, _, rfl, _, rfl, r, L, W, n, hd, as, cs, ws, zs, rfl, hR.same S12, S12 _ _ hL, S12 _ _ hW, oz, ow, by omega, lw, lz, hn, fun aq us H13 s13 haq _ => ?_⟩
        have S13 := S12.trans s13
        have hp13 := s13 _ _ hp12
        refine ⟨_, rfl, ?_⟩
        refine fld_on ["table", "terms", "rows", "shared", "by_shared", "due"] S13 hp0 hp13 T.cl_Step T.n_Step_asks (by show 6 < 1000; decide) rfl (by decide +kernel) fun H14 S14 hp14 K14 => ?_
        have lf := List.length_filter_le (inK kz) (varsK e.2.2)
        have lf1 := List.length_filter_le (fun x : V × CT => chK (kz ++ varsK e.2.2) x.2) cs
        have lf2 := List.length_filter_le (fun x : V × CT => !chK kz x.2) (cs.filter fun x => chK (kz ++ varsK e.2.2) x.2)
        have sat : StepAt K mg H14 p (sdOf kz cs tb e.2) .non := by
          refine ⟨⟨dx, qe, rq, q, D2, aq, hp14, S14 _ _ hqe, K14 _ _ rp (s13 _ _ hrq12), K14 _ _ qp (s13 _ _ hq12), K14 _ _ dp (s13 _ _ hd12)⟩, fun x hx => (hT.rows _ x hx).same S14, fun x hx => (hR.chs x (List.mem_filter.mp (List.mem_filter.mp hx).1).1).same S14, ge.ok, lte, hT.len _, ?_, ?_⟩
          · show ((varsK e.2.2).filter (inK kz)).length ≤ 100
            omega
          · show ((cs.filter fun x => chK (kz ++ varsK e.2.2) x.2).filter fun x => !chK kz x.2).length ≤ 100
            omega
        refine k H14 S14 sat fun A ys hA nT o => ?_
        have hA14 := S14 _ _ hA
        have iA : IsIns H14 A := ⟨_, hA14, .inr ⟨_, rfl⟩⟩
        have kA : Keep A H14 (upd H14 A o) := fun a q n h => by rw [upd_ne n]; exact h
        have rA : rq ≠ A := fun z => by
          rcases hT.get e.2.1 with ⟨e1, _⟩ | ⟨a, e1, _⟩
          · rw [e1] at erq
            have : em = rq := by injection erq
            rw [this, z] at hem
            have := S3 _ _ hA
            rw [hem] at this
            cases this
          · rw [e1] at erq
            have : a = rq := by injection erq
            exact nT _ (by rw [e1, this, z])
        have dA : D2 ≠ A := fun z => by
          have := S10 _ _ hA
          rw [← z, hD2] at this
          cases this
        exact ⟨⟨dx, qe, rq, q, D2, aq, kA _ _ (fun z => by rw [← z, hp14] at hA14; cases hA14) hp14, kA.at2 iA (S14 _ _ hqe) nofun nofun, kA _ _ rA (K14 _ _ rp (s13 _ _ hrq12)), kA.at2 iA (K14 _ _ qp (s13 _ _ hq12)) nofun nofun, kA _ _ dA (K14 _ _ dp (s13 _ _ hd12))⟩, fun x hx => (sat.rows x hx).keep kA iA, fun x hx => (sat.due x hx).keep kA iA, sat.terms, sat.lt, sat.lr, sat.ls, sat.ld⟩
    · obtain ⟨⟨v, rfl⟩, sm, e6⟩ := p
      obtain ⟨rfl, hx⟩ := y
      have hx' := hx _ (SqL.of (sm _ _ hV5))
      rw [List.getElem?_map] at hx'
      obtain ⟨t1, hti, rfl⟩ := Option.map_eq_some_iff.mp hx'
      have ot := okv t1 (List.mem_of_getElem? hti)
      have st := filtStep (f := inK kz) hti
      refine ⟨_, rfl, _, rfl, keyD t1, kz.map keyD, dat_tx ot, .lst (SqL.of (hL' (S5.trans sm))) (dats_tx okz), Nat.le_trans (depth_tx kz) (by decide), ?_⟩
      rw [any_tx]
      refine ⟨_, rfl, ite2 (fun h1 => ?_) (fun h1 => ?_)⟩
      · refine ⟨_, rfl, _, e6, ?_, ⟨_, rfl⟩, sm.set hD, ?_⟩
        · have h8 := List.length_filter_le (inK kz) ((varsK e.2.2).take i)
          rw [List.length_take] at h8
          rw [List.length_map]
          exact Nat.lt_of_lt_of_le (show _ < 1000 by omega) (by decide)
        · rw [upd_same, st, if_pos h1, List.map_append]
          rfl
      · refine ⟨⟨_, rfl⟩, sm, ?_⟩
        rw [st, if_neg h1, List.append_nil]
        exact e6
end
end Wy
namespace Wy
open PySem L2
theorem StepAt.ins {K : PySem.W.Frag} {mg : Str → Option Value} {H : Hp} {p : Addr} {d : SD} {v : V} (h : StepAt K mg H p d v) : ∃ C dx fs, H p = some (.ins C dx fs) := let ⟨dx, _, _, _, _, _, h1, _⟩ := h.at_; ⟨_, dx, _, h1⟩
theorem StepAt.same {K : PySem.W.Frag} {mg : Str → Option Value} {H H' : Hp} {p : Addr} {d : SD} {v : V} (s : Same H H') (h : StepAt K mg H p d v) : StepAt K mg H' p d v :=
  ⟨let ⟨dx, tq, rq, sq, dq, aq, h1, h2, h3, h4, h5⟩ := h.at_; ⟨dx, tq, rq, sq, dq, aq, s _ _ h1, s _ _ h2, s _ _ h3, s _ _ h4, s _ _ h5⟩, fun e he => (h.rows e he).same s, fun e he => (h.due e he).same s, h.terms, h.lt, h.lr, h.ls, h.ld⟩
theorem mAll_len : ∀ {l : List (Key × Key)} {kvs k2 : List (Key × V)}, mAll kvs l = some k2 → k2.length ≤ kvs.length + l.length
  | [], _, _, e => by cases e; exact Nat.le_refl _
  | p :: l, kvs, k2, e => by
    have e' : (mStep kvs p.1 p.2).bind (fun k => mAll k l) = some k2 := e
    cases q : mStep kvs p.1 p.2 with
    | none => rw [q] at e'; cases e'
    | some k =>
      rw [q] at e'
      have h1 := mAll_len (l := l) (kvs := k) e'
      have h2 := length_mPut kvs p.1 p.2
      unfold mStep at q
      split at q
      · cases q
        rw [List.length_cons]
        omega
      · cases q
theorem mOne_len {ts : List Key} {e : RW} {m : MR} (h : mOne ts e = some m) : m.2.length ≤ ts.length := by
  unfold mOne at h
  split at h
  · obtain ⟨b, hb, rfl⟩ := Option.map_eq_some_iff.mp h
    have := mAll_len hb
    rw [List.length_zip, List.length_nil] at this
    show b.length ≤ _
    omega
  · cases h
def ByOk (H : Hp) (d : SD) (v : V) : Prop := v = .non ∨ ∃ g kvs H0, v = .ref g ∧ H g = some (.dT kvs) ∧ Grp H0 H d.shared (d.rows.filterMap (mOne d.atom.2)) kvs
def groupK (d : SD) (kvs : List (Key × V)) : List MR := ofKey d.shared (mKey d.shared kvs) (d.rows.filterMap (mOne d.atom.2))
def joinedK (d : SD) (kvs : List (Key × V)) : List MR := ((groupK d kvs).map fun m => (m.1, mergeK kvs m.2)).filter fun m => d.due.all fun e => holdsB m.2 e.2
def StepOn (K : PySem.W.Frag) (mg : Str → Option Value) (H : Hp) (p : Addr) (d : SD) : Prop := ∃ v, StepAt K mg H p d v ∧ ByOk H d v
def StepFar (K : PySem.W.Frag) (mg : Str → Option Value) (H : Hp) (p : Addr) (d : SD) (lg : Addr) : Prop := ∀ o, StepOn K mg (upd H lg o) p d
theorem upd_cong {H H' : Hp} {A : Addr} (h : ∀ a o, a ≠ A → H a = some o → H' a = some o) (o : HO) : Same (upd H A o) (upd H' A o) := fun a q e => by
  by_cases z : a = A
  · rw [z, upd_same] at e ⊢
    exact e
  · rw [upd_ne z] at e ⊢
    exact h _ _ z e
theorem ByOk.same {H H' : Hp} {d : SD} {v : V} (s : Same H H') (h : ByOk H d v) : ByOk H' d v := h.elim .inl fun ⟨g, k, H0, e, h1, h2⟩ => .inr ⟨g, k, H0, e, s _ _ h1, h2.same s⟩
theorem StepOn.same {K : PySem.W.Frag} {mg : Str → Option Value} {H H' : Hp} {p : Addr} {d : SD} (s : Same H H') (h : StepOn K mg H p d) : StepOn K mg H' p d := let ⟨v, h1, h2⟩ := h; ⟨v, h1.same s, h2.same s⟩
theorem StepFar.same {K : PySem.W.Frag} {mg : Str → Option Value} {H H' : Hp} {p lg : Addr} {d : SD} (s : Same H H') (h : StepFar K mg H p d lg) : StepFar K mg H' p d lg := fun o => (h o).same (upd_cong (fun a q _ e => s _ _ e) o)
theorem StepAt.setby {K : PySem.W.Frag} {mg : Str → Option Value} {H H' : Hp} {p dx tq rq sq dq aq : Addr} {d : SD} {v v2 : V} (h : StepAt K mg H p d v) (kp : Keep p H H')
    (hp : H p = some (.ins (cA mg "Step") dx [("table", .str d.atom.1), ("terms", .ref tq), ("rows", .ref rq), ("shared", .ref sq), ("by_shared", v), ("due", .ref dq), ("asks", .ref aq)]))
    (hp2 : H' p = some (.ins (cA mg "Step") dx [("table", .str d.atom.1), ("terms", .ref tq), ("rows", .ref rq), ("shared", .ref sq), ("by_shared", v2), ("due", .ref dq), ("asks", .ref aq)])) : StepAt K mg H' p d v2 := by
  obtain ⟨dx', tq', rq', sq', dq', aq', h1, h2, h3, h4, h5⟩ := h.at_
  rw [hp] at h1
  cases h1
  have i : IsIns H p := ⟨_, hp, .inl ⟨_, _, _, rfl⟩⟩
  exact ⟨⟨dx, tq, rq, sq, dq, aq, hp2, kp.at_ hp h2 nofun, kp.at_ hp h3 nofun, kp.at_ hp h4 nofun, kp.at_ hp h5 nofun⟩, fun e he => (h.rows e he).keep kp i, fun e he => (h.due e he).keep kp i, h.terms, h.lt, h.lr, h.ls, h.ld⟩
theorem Grp.far {H0 H : Hp} {lg : Addr} {sh : List Key} {ms : List MR} {kvs : List (List Key × V)} {ys zs : List V} (g : Grp H0 H sh ms kvs) (h0 : H0 lg = some (.lst ys)) (h1 : H lg = some (.lst zs)) (o : HO) : Grp H0 (upd H lg o) sh ms kvs := by
  have kA : Keep lg H (upd H lg o) := fun a q n h => by rw [upd_ne n]; exact h
  have i : IsIns H lg := ⟨_, h1, .inr ⟨_, rfl⟩⟩
  refine ⟨fun k => (g.at_ k).elim .inl fun ⟨L, xs, e, f, h, r⟩ => .inr ⟨L, xs, e, f, kA _ _ (fun z => by rw [z, h0] at f; cases f) h, L2.Paired.mapP r fun _ _ z => z.keep kA i⟩, g.inj⟩
section
variable {P : Program} {w : World} {K : PySem.W.Frag} {mg : Str → Option Value} {base : Heap}
def sp_join (K : PySem.W.Frag) (mg : Str → Option Value) : Sp := fun vs H Q _ => ∃ (p b : Addr) (d : SD) (by_ : V) (kvs : List (Key × V)), vs = [.ref p, .ref b] ∧ StepAt K mg H p d by_ ∧ ByOk H d by_ ∧ H b = some (.dK kvs) ∧ AllK kvs ∧ kvs.length ≤ 1000 ∧
  (∀ m ∈ groupK d kvs, ∀ e ∈ d.due, HOk (mergeK kvs m.2) e.2) ∧ ∀ D H' xs, Keep p H H' → StepOn K mg H' p d → (∀ lg ys, H lg = some (.lst ys) → StepFar K mg H p d lg → StepFar K mg H' p d lg) → H D = none → H' D = some (.lst xs) → Paired (PrV H') xs (joinedK d kvs) → Q (.ref D) H'
theorem ok_Step_joined_on (T : Txt K mg) : MDef P w K mg base 6 (cA mg "Step") "joined_on" ["self", "binding"] (sp_join K mg) := by
  refine T.t_Step_joined_on.ok sc_Step_joined_on (fun vs H Q E h => ?_) fun f cdv A outer s H vs Q E hr h => ?_
  · obtain ⟨p, b, d, by_, kvs, rfl, _⟩ := h
    rfl
  · obtain ⟨p, b, d, by_, kvs, rfl, hS, hB, hb, ak, lk, ho, k⟩ := h
    refine join_at 1 (fun σ H' => σ = [some (.ref p), some (.ref b), none, none, none, none] ∧ Keep p H H' ∧ ∃ g gk H0, StepAt K mg H' p d (.ref g) ∧ H' g = some (.dT gk) ∧ Grp H0 H' d.shared (d.rows.filterMap (mOne d.atom.2)) gk ∧ ∀ lg ys, H lg = some (.lst ys) → StepFar K mg H p d lg → StepFar K mg H' p d lg) ⟨_, (pss_3
      (ps_set (i := 2) sc_Step_joined_on.nd rfl (Or.inl rfl) (pe_lst pa_nil))
      (ps_for PassesOwn.never rfl (pi_listK K (pe_dget2 (hu_of hr) (pe_fld (pv 0) rfl) (pe_def (ok_put_in T) hr rfl (pa_2 (pe_fld (pv 0) rfl) (pv 1))) (pe_lst pa_nil) ⟨rfl, rfl, rfl, rfl⟩)) (pg_tup rfl (pgs_cons (pg_name (i := 3) sc_Step_joined_on.nd rfl (Or.inl rfl)) (pgs_cons (pg_name (i := 4) sc_Step_joined_on.nd rfl (Or.inl rfl)) pgs_nil))) (pss_3
      (ps_set (i := 5) sc_Step_joined_on.nd rfl (Or.inl rfl) (pe_callTy call_dictC rfl T.b_dict bt_dict (pa_1 (pv 1))))
      (ps_expr (pe_dupd (pv 5) (pv 4) ⟨rfl, rfl, rfl, rfl⟩))
      (ps_if (pt_val (pe_def (ok_all_hold T) hr rfl (pa_2 (pe_fld (pv 0) rfl) (pv 5)))) (pss_one (ps_expr (pe_bm PySem.F.plainAttrs_list PySem.F.slot_list_append PySem.F.type_list_append mt_append (pv 2) (pa_1 (pe_tup (pa_2 (pv 3) (pv 5))))))) pss_nil)))
      (ps_ret (pv 2))), ?_⟩ (fun u hu hC => ⟨_, (psr_1
      (ps_if (pt_cmpR op_isN (pe_fld (pv 0) rfl) pe_non (nomark _)) (pss_one (ps_fld (pv 0) (pe_def (ok_rows_by_shared T) hr rfl (pa_3 (pe_fld (pv 0) rfl) (pe_fld (pv 0) rfl) (pe_fld (pv 0) rfl))) rfl)) pss_nil)
      hu), ?_⟩)
    · rintro σ H1 ⟨rfl, kp, g, gk, H0, hS1, hg, gr, far⟩
      obtain ⟨_, _, _, hi⟩ := hS.ins
      have hb1 := kp.at_ hi hb nofun
      obtain ⟨dx, tq, rq, sq, dq, aq, hp, htq, hrq, hsq, hdq⟩ := hS1.at_
      refine ⟨by decide, fun D hD => ?_⟩
      have s2 := same_upd (o := HO.lst []) hD
      have hD2 := upd_same (H := H1) (a := D) (o := HO.lst [])
      generalize upd H1 D (.lst []) = H2 at *
      refine ⟨_, rfl, p, _, dx, _, _, rfl, s2 _ _ hp, T.cl_Step, T.n_Step_by_shared, rfl, g, rfl, .inr ⟨_, .inl (s2 _ _ hg)⟩, _, rfl, p, _, dx, _, _, rfl, s2 _ _ hp, T.cl_Step, T.n_Step_shared, rfl, _, rfl, sq, b, d.shared, kvs, rfl, SqT.of (s2 _ _ hsq), s2 _ _ hb1, hS1.ls, fun q H3 s3 hq => ?_⟩
      rw [mKey_is ak] at hq
      refine ⟨by decide, fun em hem => ?_⟩
      have s4 := same_upd (o := HO.lst []) hem
      have hem4 := upd_same (H := H3) (a := em) (o := HO.lst [])
      have eD : em ≠ D := fun z => by
        have := s3 _ _ hD2
        rw [← z, hem] at this
        cases this
      generalize upd H3 em (.lst []) = H4 at *
      have s14 := s2.trans (s3.trans s4)
      have hD4 := (s3.trans s4) _ _ hD2
      obtain ⟨La, xs, eLa, nLa, hLa, pr⟩ : ∃ La xs, (valV gk (mKey d.shared kvs)).getD (.ref em) = V.ref La ∧ La ≠ D ∧ H4 La = some (.lst xs) ∧ Paired (PrV H4) xs (groupK d kvs) := by
        rcases gr.at_ (mKey d.shared kvs) with ⟨e1, e2⟩ | ⟨L, ys, e1, _, h1, r1⟩
        · rw [e1]
          refine ⟨em, [], rfl, eD, hem4, ?_⟩
          unfold groupK
          rw [e2]
          exact .nil
        · rw [e1]
          exact ⟨L, ys, rfl, (fun z => by rw [z, hD] at h1; cases h1), s14 _ _ h1, L2.Paired.mapP r1 fun _ _ z => z.same s14⟩
      have glen : (groupK d kvs).length ≤ 1000 := by
        have h1 := List.length_filter_le (fun m : MR => decide (mKey d.shared m.2 = mKey d.shared kvs)) (d.rows.filterMap (mOne d.atom.2))
        have h2 := List.length_filterMap_le (mOne d.atom.2) d.rows
        have h3 := hS1.lr
        show (List.filter _ _).length ≤ 1000
        omega
      refine ⟨_, DGet.t (s14 _ _ hg) (s4 _ _ hq), La, eLa, ⟨_, SqL.of hLa⟩, for_list (xs := xs) (fun i σ H' => ∃ (v3 v4 v5 : Option V) (ys : List V), σ = [some (.ref p), some (.ref b), some (.ref D), v3, v4, v5] ∧ (∀ a o, a ≠ D → H4 a = some o → H' a = some o) ∧ H' D = some (.lst ys) ∧ ys.length ≤ i ∧ Paired (PrV H') ys ((((groupK d kvs).map fun m => (m.1, mergeK kvs m.2)).take i).filter fun m => d.due.all fun e => holdsB m.2 e.2)) ⟨none, none, none, [], rfl, fun _ _ _ h => h, hD4, Nat.le_refl _, .nil⟩ (fun i σ H' _ z => ?_) ?_ ?_⟩
      · obtain ⟨_, _, _, _, _, z, _⟩ := z
        exact SqL.of (z _ _ nLa hLa)
      · rintro i x σ H5 hx ⟨v3, v4, v5, ys, rfl, k5, hD5, ly, pys⟩
        obtain ⟨m, hm, pp, q0, rfl, hpp, hq0⟩ := paired_at pr hx
        have S5 : Same H1 H5 := fun a o h => k5 _ _ (fun z => by rw [z, hD] at h; cases h) (s14 _ _ h)
        have hpp5 := k5 _ _ (fun z => by rw [z, hD4] at hpp; cases hpp) hpp
        have hq5 := k5 _ _ (fun z => by rw [z, hD4] at hq0; cases hq0) hq0
        have hil := (List.getElem?_eq_some_iff.mp hm).1
        have lm2 : m.2.length ≤ 100 := by
          have h1 := (List.mem_filter.mp (show m ∈ List.filter _ _ from List.mem_of_getElem? hm)).1
          obtain ⟨e, _, he⟩ := List.mem_filterMap.mp h1
          have := mOne_len he
          have := hS1.lt
          omega
        have st := filtStep (f := fun m : MR => d.due.all fun e => holdsB m.2 e.2) (as := (groupK d kvs).map fun m => (m.1, mergeK kvs m.2)) (i := i) (e := (m.1, mergeK kvs m.2)) (by rw [List.getElem?_map, hm]; rfl)
        refine ⟨pp, _, rfl, SqT.of hpp5, rfl, _, _, rfl, _, _, rfl, rfl, ?_⟩
        refine ⟨_, rfl, b, kvs, rfl, .inl (S5 _ _ hb1), fun tg htg => ?_⟩
        have s6 := same_upd (o := HO.dK kvs) htg
        have tq0 : tg ≠ q0 := fun z => by rw [z, hq5] at htg; cases htg
        refine ⟨_, rfl, tg, rfl, .inl ⟨_, .inl upd_same⟩, _, rfl, kvs, m.2, q0, upd_same, rfl, .inl (s6 _ _ hq5), tq0, Nat.le_trans (show _ ≤ 2000 by omega) (by decide), ?_⟩
        have s7 : Same H5 (upd (upd H5 tg (.dK kvs)) tg (.dK (mergeK kvs m.2))) := s6.set htg
        have htg7 := upd_same (H := upd H5 tg (.dK kvs)) (a := tg) (o := HO.dK (mergeK kvs m.2))
        generalize upd (upd H5 tg (.dK kvs)) tg (.dK (mergeK kvs m.2)) = H7 at *
        have S7 := S5.trans s7
        refine ⟨_, rfl, p, _, dx, _, _, rfl, S7 _ _ hp, T.cl_Step, T.n_Step_due, rfl, _, rfl, dq, tg, d.due, mergeK kvs m.2, rfl, SqL.of (S7 _ _ hdq), fun e he => ⟨((hS1.due e he).same S7).at_, ho m (List.mem_of_getElem? hm) e he⟩, hS1.ld, htg7, fun H8 s8 => ⟨_, rfl, ite2 (fun h1 => ?_) (fun h1 => ?_)⟩⟩
        · have s58 := s7.trans s8
          have hD8 := s58 _ _ hD5
          refine ⟨_, rfl, .inl ⟨rfl, _, SqL.of hD8⟩, _, rfl, _, rfl, by show 2 ≤ sizeLine; decide, fun w hw => ?_⟩
          have s9 := same_upd (o := HO.tup [m.1.1, .ref tg]) hw
          have hw9 := upd_same (H := H8) (a := w) (o := HO.tup [m.1.1, .ref tg])
          have hD9 := s9 _ _ hD8
          have htg9 := s9 _ _ (s8 _ _ htg7)
          generalize upd H8 w (.tup [m.1.1, .ref tg]) = H9 at *
          have s59 := s58.trans s9
          have ne : ∀ {a o}, H9 a = some o → (∀ xs, o ≠ .lst xs) → upd H9 D (.lst (ys ++ [.ref w])) a = some o := fun {a o} h n => by
            rw [upd_ne (fun z => by rw [z, hD9] at h; injection h with h; exact n _ h.symm)]
            exact h
          refine ⟨D, ys, _, rfl, rfl, hD9, Nat.lt_of_lt_of_le (show _ < 2000 by omega) (by decide), _, _, _, ys ++ [.ref w], rfl, fun a o n h => by rw [upd_ne n]; exact s59 _ _ (k5 _ _ n h), upd_same, by rw [List.length_append]; show _ + 1 ≤ _; omega, ?_⟩
          rw [st, if_pos h1]
          refine paired_app (L2.Paired.mapP pys fun _ _ ⟨a1, a2, e, h2, h3⟩ => ⟨a1, a2, e, ne (s59 _ _ h2) nofun, ne (s59 _ _ h3) nofun⟩) ⟨w, tg, rfl, ne hw9 nofun, ne htg9 nofun⟩
        · have s58 := s7.trans s8
          refine ⟨_, _, _, ys, rfl, fun a o n h => s58 _ _ (k5 _ _ n h), s58 _ _ hD5, by omega, ?_⟩
          rw [st, if_neg h1, List.append_nil]
          exact L2.Paired.mapP pys fun _ _ z => z.same s58
      · rintro σ H5 ⟨v3, v4, v5, ys, rfl, k5, hD5, ly, pys⟩
        have S5 : Same H1 H5 := fun a o h => k5 _ _ (fun z => by rw [z, hD] at h; cases h) (s14 _ _ h)
        have hD0 : H D = none := by
          cases e : H D with
          | none => rfl
          | some o =>
            have nd : D ≠ p := fun z => by rw [z, hp] at hD; cases hD
            have := kp _ _ nd e
            rw [hD] at this
            cases this
        rw [List.take_of_length_le (by rw [List.length_map, ← pr.length]; exact Nat.le_refl _)] at pys
        exact ⟨_, rfl, k D H5 ys (kp.trans (Keep.of S5)) ⟨.ref g, hS1.same S5, .inr ⟨g, gk, H0, rfl, S5 _ _ hg, gr.same S5⟩⟩ (fun lg zs h1 h2 => (far lg zs h1 h2).same S5) hD0 hD5 pys⟩
    · obtain ⟨dx, tq, rq, sq, dq, aq, hp, htq, hrq, hsq, hdq⟩ := hS.at_
      refine ⟨_, rfl, p, _, dx, _, _, rfl, hp, T.cl_Step, T.n_Step_by_shared, rfl, ?_⟩
      rcases hB with rfl | ⟨g, gk, H0, rfl, hg, gr⟩
      · refine ⟨rfl, _, rfl, iteTb rfl ?_⟩
        refine ⟨_, rfl, p, _, dx, _, _, rfl, hp, T.cl_Step, T.n_Step_terms, rfl, _, rfl, p, _, dx, _, _, rfl, hp, T.cl_Step, T.n_Step_rows, rfl, _, rfl, p, _, dx, _, _, rfl, hp, T.cl_Step, T.n_Step_shared, rfl, tq, rq, sq, d.atom.2, d.shared, d.rows, rfl, SqT.of htq, SqL.of hrq, hS.rows, SqT.of hsq, hS.terms, hS.lt, hS.ls, hS.lr, fun g gk H1 s1 hg0 hg gr => ?_⟩
        have hp1 := s1 _ _ hp
        refine ⟨_, rfl, p, _, dx, _, rfl, hp1, T.cl_Step, T.n_Step_by_shared, (by show 7 < 1000; decide), ?_⟩
        have i1 : IsIns H1 p := ⟨_, hp1, .inl ⟨_, _, _, rfl⟩⟩
        have kp : ∀ o, Keep p H1 (upd H1 p o) := fun o a q n h => by rw [upd_ne n]; exact h
        refine hC _ _ ⟨rfl, (Keep.of s1).trans (kp _), g, gk, H, ⟨⟨dx, tq, rq, sq, dq, aq, upd_same, (kp _).at_ hp1 (s1 _ _ htq) nofun, (kp _).at_ hp1 (s1 _ _ hrq) nofun, (kp _).at_ hp1 (s1 _ _ hsq) nofun, (kp _).at_ hp1 (s1 _ _ hdq) nofun⟩, fun e he => ((hS.rows e he).same s1).keep (kp _) i1, fun e he => ((hS.due e he).same s1).keep (kp _) i1, hS.terms, hS.lt, hS.lr, hS.ls, hS.ld⟩, (kp _).at_ hp1 hg nofun, gr.keep (kp _) hp1, fun lg ys h1 h2 o => ?_⟩
        have lp : p ≠ lg := fun z => by rw [z, h1] at hp; cases hp
        obtain ⟨v0, sat0, _⟩ := h2 o
        have hp0 : upd H lg o p = some (.ins (cA mg "Step") dx [("table", .str d.atom.1), ("terms", .ref tq), ("rows", .ref rq), ("shared", .ref sq), ("by_shared", .non), ("due", .ref dq), ("asks", .ref aq)]) := by rw [upd_ne lp]; exact hp
        have ev : v0 = .non := by
          obtain ⟨_, _, _, _, _, _, q1, _⟩ := sat0.at_
          rw [hp0] at q1
          cases q1
          rfl
        subst ev
        have hlg1 := s1 _ _ h1
        have hlg2 := (kp (.ins (cA mg "Step") dx (putF "by_shared" (.ref g) [("table", .str d.atom.1), ("terms", .ref tq), ("rows", .ref rq), ("shared", .ref sq), ("by_shared", .non), ("due", .ref dq), ("asks", .ref aq)]))).at_ hp1 hlg1 nofun
        refine ⟨.ref g, sat0.setby (fun a q n h => ?_) hp0 (by rw [upd_ne lp]; exact upd_same), .inr ⟨g, gk, H, rfl, ?_, (gr.keep (kp _) hp1).far h1 hlg2 o⟩⟩
        · by_cases z : a = lg
          · rw [z, upd_same] at h ⊢
            exact h
          · rw [upd_ne z] at h ⊢
            rw [upd_ne n]
            exact s1 _ _ h
        · rw [upd_ne (fun z => by rw [z, hlg1] at hg; cases hg)]
          exact (kp _).at_ hp1 hg nofun
      · refine ⟨rfl, _, rfl, iteFb rfl ?_⟩
        exact hC _ _ ⟨rfl, Keep.of (Same.refl H), g, gk, H0, hS, hg, gr, fun _ _ _ h => h⟩
end
end Wy
namespace Wy
open PySem L2
def strK : Key → Str
  | .inr z => z
  | .inl _ => ""
def varsS (ts : List Key) : List Str := (varsK ts).map strK
theorem varsS_is (ts : List Key) : (varsS ts).map Sum.inr = varsK ts := by
  unfold varsS
  rw [List.map_map]
  have : ∀ t ∈ varsK ts, (Sum.inr ∘ strK) t = t := fun t ht => by
    have := (List.mem_filter.mp ht).2
    cases t with
    | inl i => cases this
    | inr z => rfl
  rw [List.map_congr_left this, List.map_id']
def aheadS (zs : List Str) (as : List AT) : List Str := zs ++ as.flatMap fun a => varsS a.2
theorem aheadS_is (zs : List Str) (as : List AT) : (aheadS zs as).map Sum.inr = zs.map Sum.inr ++ bodyV as := by
  unfold aheadS bodyV
  rw [List.map_append, List.map_flatMap]
  congr 2
  funext a
  exact varsS_is a.2
def sdsOf (ks : List Key) (cs : List (V × CT)) (tb : Str → List RW) : List AT → List SD
  | [] => []
  | a :: r => sdOf ks cs tb a :: sdsOf (ks ++ varsK a.2) cs tb r
theorem sds_app (cs : List (V × CT)) (tb : Str → List RW) (a : AT) : ∀ (l : List AT) (ks : List Key), sdsOf ks cs tb (l ++ [a]) = sdsOf ks cs tb l ++ [sdOf (ks ++ bodyV l) cs tb a]
  | [], ks => by
    show [sdOf ks cs tb a] = [sdOf (ks ++ []) cs tb a]
    rw [List.append_nil]
  | b :: l, ks => by
    show sdOf ks cs tb b :: sdsOf (ks ++ varsK b.2) cs tb (l ++ [a]) = sdOf ks cs tb b :: (sdsOf (ks ++ varsK b.2) cs tb l ++ [sdOf (ks ++ bodyV (b :: l)) cs tb a])
    rw [sds_app cs tb a l, List.append_assoc]
    rfl
section
variable {P : Program} {w : World} {K : PySem.W.Frag} {mg : Str → Option Value} {base : Heap}
def sp_steps (K : PySem.W.Frag) (mg : Str → Option Value) : Sp := fun vs H Q _ => ∃ (r t L W : Addr) (hd : V) (as : List (V × AT)) (cs : List (V × CT)) (ws : List Key) (zs : List Str) (tvs : List (Key × V)) (tb : Str → List RW),
  vs = [.ref r, .ref t, .ref L, .ref W] ∧ RuleAt K H r hd as cs ∧ TabsAt K H t tvs tb ∧ H L = some (.lst (zs.map V.str)) ∧ H W = some (.lst (ws.map kV)) ∧ (∀ z ∈ zs, TxOk (.inr z)) ∧ (∀ t ∈ ws, TxOk t) ∧ ws.length ≤ 1000 ∧ (aheadS zs (as.map (·.2))).length < 64 ∧
  ∀ (A : Addr) (ps : List Addr) (H' : Hp), Same H H' → H A = none → H' A = some (.lst (ps.map V.ref)) → (∀ p ∈ ps, H p = none) → ps.Nodup → Paired (fun p d => StepAt K mg H' p d .non) ps (sdsOf (zs.map Sum.inr) cs tb (as.map (·.2))) → Q (.ref A) H'
theorem ok_steps_of (T : Txt K mg) : Def P w K mg base 9 "steps_of" ["rule", "tables", "known", "wanted"] (sp_steps K mg) := by
  refine T.t_steps_of.ok sc_steps_of (fun vs H Q E h => ?_) fun f cdv A outer s H vs Q E hr h => ?_
  · obtain ⟨r, t, L, W, hd, as, cs, ws, zs, tvs, tb, rfl, _⟩ := h
    rfl
  · obtain ⟨r, t, L, W, hd, as, cs, ws, zs, tvs, tb, rfl, hR, hT, hL, hW, oz, ow, lw, lz, k⟩ := h
    refine ⟨_, (pss_4
      (ps_set (i := 4) sc_steps_of.nd rfl (Or.inl rfl) (pe_lst pa_nil))
      (ps_set (i := 5) sc_steps_of.nd rfl (Or.inl rfl) (pv 2))
      (ps_for PassesOwn.never rfl (pi_enumT K rfl T.b_enumerate (pa_1 (pe_ix (ix_tupK K) (pv 0) pe_int (fun _ _ => rfl)))) (pg_tup rfl (pgs_cons (pg_name (i := 6) sc_steps_of.nd rfl (Or.inl rfl)) (pgs_cons (pg_name (i := 7) sc_steps_of.nd rfl (Or.inl rfl)) pgs_nil))) (pss_2
      (ps_expr (pe_bm PySem.F.plainAttrs_list PySem.F.slot_list_append PySem.F.type_list_append mt_append (pv 4) (pa_1 (pe_mkM (ok_Step_init T) T.mk_Step T.kp_Step hr rfl T.g_Step (pa_5 (pv 0) (pv 6) (pv 1) (pv 5) (pv 3))))))
      (ps_set (i := 5) sc_steps_of.nd rfl (Or.inl rfl) (pe_op op_cat (pv 5) (pe_def (ok_variables_in T) hr rfl (pa_1 (pe_ix (ix_tupK K) (pv 7) pe_int (fun _ _ => rfl))))))))
      (ps_ret (pv 4))), ?_⟩
    obtain ⟨b, c, hr1, hb, hc⟩ := hR.at_
    refine ⟨by decide, fun S hS0 => ?_⟩
    have s1 := same_upd (o := HO.lst []) hS0
    have hS1 := upd_same (H := H) (a := S) (o := HO.lst [])
    generalize upd H S (.lst []) = H1 at *
    have nT : ∀ z, valV tvs (.inr z) ≠ some (.ref S) := fun z e => by
      rcases hT.get z with ⟨e1, _⟩ | ⟨a, e1, h1⟩
      · rw [e1] at e
        cases e
      · rw [e1] at e
        injection e with e
        injection e with e
        rw [e, hS0] at h1
        cases h1
    refine ⟨_, rfl, ?_⟩
    refine ⟨_, rfl, _, _, _, _, rfl, rfl, s1.seqT hr1, atI_nat (j := 1) rfl, b, rfl, ⟨_, s1.seqT hb⟩, for_enumT (K := K) (xs := as.map (·.1)) (fun i σ G => ∃ (ah : Addr) (v6 v7 : Option V) (ps : List Addr), σ = [some (.ref r), some (.ref t), some (.ref L), some (.ref W), some (.ref S), some (.ref ah), v6, v7] ∧ Same H G ∧ G S = some (.lst (ps.map V.ref)) ∧ ah ≠ S ∧ G ah = some (.lst ((aheadS zs ((as.map (·.2)).take i)).map V.str)) ∧ (∀ p ∈ ps, H p = none) ∧ ps.Nodup ∧ ps.length ≤ i ∧ Paired (fun p d => ∀ o, StepAt K mg (upd G S o) p d .non) ps (sdsOf (zs.map Sum.inr) cs tb ((as.map (·.2)).take i))) ⟨L, none, none, [], rfl, s1, hS1, (fun z => by rw [z, hS0] at hL; cases hL), (by rw [s1 _ _ hL]; show some (HO.lst (zs.map V.str)) = some (HO.lst ((zs ++ []).map V.str)); rw [List.append_nil]), (fun _ z => nomatch z), List.nodup_nil, Nat.le_refl _, .nil⟩ (fun i σ G _ z => ?_) ?_ ?_⟩
    · obtain ⟨_, _, _, _, _, z, _⟩ := z
      exact z.seqT hb
    · rintro i x pp σ G0 hx hpp ⟨ah, v6, v7, ps, rfl, sg0, hS20, nah, hah0, fr, nd, lps, pr0⟩
      refine ⟨_, _, rfl, SqT.of upd_same, rfl, _, _, rfl, _, _, rfl, rfl, ?_⟩
      have spp := same_upd (o := HO.tup [V.int (i : Nat), x]) hpp
      have sg := sg0.trans spp
      have hS2 := spp _ _ hS20
      have hah := spp _ _ hah0
      have pr := L2.Paired.mapP pr0 fun p d (h : ∀ o, StepAt K mg (upd G0 S o) p d .non) o => (h o).same (upd_cong (fun a q _ e => spp _ _ e) o)
      generalize upd G0 pp (.tup [V.int (i : Nat), x]) = G at *
      rw [List.getElem?_map] at hx
      obtain ⟨e, hei, rfl⟩ := Option.map_eq_some_iff.mp hx
      have hil := (List.getElem?_eq_some_iff.mp hei).1
      have hei2 : (as.map (·.2))[i]? = some e.2 := by rw [List.getElem?_map, hei]; rfl
      have ge := hR.body e (List.mem_of_getElem? hei)
      obtain ⟨pe, qe, ee, hpe, hqe⟩ := ge.at_
      have tk : (as.map (·.2)).take (i + 1) = (as.map (·.2)).take i ++ [e.2] := by rw [List.take_succ, hei2]; rfl
      have la := hR.la
      have lz1 : (aheadS zs ((as.map (·.2)).take i)).length < 64 := by
        refine Nat.lt_of_le_of_lt ?_ lz
        unfold aheadS
        rw [List.length_append, List.length_append]
        have : ((as.map (·.2)).flatMap fun a => varsS a.2).length = (((as.map (·.2)).take i).flatMap fun a => varsS a.2).length + (((as.map (·.2)).drop i).flatMap fun a => varsS a.2).length := by
          rw [← List.length_append, ← List.flatMap_append, List.take_append_drop]
        omega
      have oz1 : ∀ z ∈ aheadS zs ((as.map (·.2)).take i), TxOk (.inr z) := fun z hz => by
        unfold aheadS at hz
        rcases List.mem_append.mp hz with hz | hz
        · exact oz z hz
        · obtain ⟨a, ha, hz⟩ := List.mem_flatMap.mp hz
          obtain ⟨e1, he1, rfl⟩ := List.mem_map.mp (List.mem_of_mem_take ha)
          have : Sum.inr z ∈ varsK e1.2.2 := by rw [← varsS_is]; exact List.mem_map_of_mem hz
          exact (hR.body e1 he1).ok _ (List.mem_filter.mp this).1
      refine ⟨_, rfl, .inl ⟨rfl, _, SqL.of hS2⟩, _, rfl, _, rfl, _, rfl, _, rfl, _, rfl, fun x dx hx hdx ndx => ?_⟩
      refine ⟨G, x, dx, r, t, ah, W, i, hd, as, cs, ws, aheadS zs ((as.map (·.2)).take i), tvs, tb, e, rfl, (same_upd hdx).set hx, hx, upd_same, hR.same sg, hT.same sg, hah, sg _ _ hW, oz1, ow, lw, lz1, hei, fun H2 s2 sat satA => ⟨rfl, ?_⟩⟩
      refine ⟨S, _, _, rfl, rfl, s2 _ _ hS2, by rw [List.length_map]; exact Nat.lt_of_lt_of_le (show _ < 1000 by omega) (by decide), ?_⟩
      have k3 : ∀ a o, a ≠ S → H2 a = some o → upd H2 S (.lst (ps.map V.ref ++ [.ref x])) a = some o := fun a o n h => by rw [upd_ne n]; exact h
      have S3 : Same H (upd H2 S (.lst (ps.map V.ref ++ [.ref x]))) := (sg.trans s2).set hS0
      have hS3 := upd_same (H := H2) (a := S) (o := HO.lst (ps.map V.ref ++ [.ref x]))
      generalize upd H2 S (.lst (ps.map V.ref ++ [.ref x])) = H3 at *
      have hah3 := k3 _ _ nah (s2 _ _ hah)
      refine ⟨_, rfl, _, rfl, _, _, _, _, ee, rfl, SqT.of (S3 _ _ hpe), atI_nat (j := 1) rfl, qe, e.2.2, rfl, SqT.of (S3 _ _ hqe), ge.ok, ge.len, fun V1 H4 s4 hV0 hV => ?_⟩
      have vl := varsK_len e.2.2
      have lte := ge.len
      refine ⟨_, _, _, _, rfl, rfl, s4 _ _ hah3, hV, by rw [List.length_map, List.length_map]; exact Nat.le_trans (show _ ≤ 1000 by omega) (by decide), fun ah2 hah2 => ?_⟩
      have ecat : (aheadS zs ((as.map (·.2)).take i)).map V.str ++ (varsK e.2.2).map kV = (aheadS zs ((as.map (·.2)).take (i + 1))).map V.str := by
        rw [tk]
        unfold aheadS
        rw [List.flatMap_append, ← List.append_assoc, List.map_append (f := V.str) (l₁ := _ ++ _)]
        congr 1
        rw [← varsS_is, List.map_map]
        show (varsS e.2.2).map (kV ∘ Sum.inr) = (varsS e.2.2 ++ []).map V.str
        rw [List.append_nil]
        rfl
      rw [ecat]
      have s5 := same_upd (o := HO.lst ((aheadS zs ((as.map (·.2)).take (i + 1))).map V.str)) hah2
      have hah5 := upd_same (H := H4) (a := ah2) (o := HO.lst ((aheadS zs ((as.map (·.2)).take (i + 1))).map V.str))
      have n2 : ah2 ≠ S := fun z => by
        have := s4 _ _ hS3
        rw [← z, hah2] at this
        cases this
      generalize upd H4 ah2 (.lst ((aheadS zs ((as.map (·.2)).take (i + 1))).map V.str)) = H5 at *
      have k5 : ∀ a o, a ≠ S → H2 a = some o → H5 a = some o := fun a o n h => (s4.trans s5) _ _ (k3 _ _ n h)
      refine ⟨ah2, _, _, ps ++ [x], rfl, S3.trans (s4.trans s5), by rw [(s4.trans s5) _ _ hS3, List.map_append]; rfl, n2, hah5, ?_, ?_, by rw [List.length_append]; show _ + 1 ≤ _; omega, ?_⟩
      · intro p hp
        rcases List.mem_append.mp hp with hp | hp
        · exact fr p hp
        · rw [List.mem_singleton.mp hp]
          exact sg.free hx
      · refine List.nodup_append.mpr ⟨nd, List.nodup_cons.mpr ⟨by simp, List.nodup_nil⟩, fun p hp q hq => ?_⟩
        rw [List.mem_singleton.mp hq]
        rintro rfl
        obtain ⟨j, hj⟩ := List.getElem?_of_mem hp
        obtain ⟨d, _, hd⟩ := paired_at pr hj
        obtain ⟨dx, _, _, _, _, _, h1, _⟩ := (hd (.lst [])).at_
        by_cases z : p = S
        · rw [z, upd_same] at h1
          cases h1
        · rw [upd_ne z, hx] at h1
          cases h1
      · rw [tk, sds_app]
        refine paired_app (L2.Paired.mapP pr fun p d h o => (h o).same (upd_cong (fun a q n e => k5 _ _ n (s2 _ _ e)) o)) fun o => ?_
        have := satA S _ hS2 nT o
        rw [aheadS_is] at this
        exact this.same (upd_cong k5 o)
    · rintro σ G ⟨ah, v6, v7, ps, rfl, sg, hS2, nah, hah, fr, nd, lps, pr⟩
      rw [List.length_map, ← List.length_map (f := fun x : V × AT => x.2) (as := as), List.take_length] at pr
      have eu : upd G S (.lst (ps.map V.ref)) = G := by
        funext a
        by_cases z : a = S
        · rw [z, upd_same, hS2]
        · rw [upd_ne z]
      refine ⟨_, rfl, k S ps G sg hS0 hS2 fr nd (L2.Paired.mapP pr fun p d h => ?_)⟩
      have := h (.lst (ps.map V.ref))
      rw [eu] at this
      exact this
end
end Wy
namespace Wy
open PySem L2
abbrev FD := List RW × List (Key × V)
def FdV (K : PySem.W.Frag) (H : Hp) (x : V) (f : FD) : Prop := ∃ p u b, x = .ref p ∧ H p = some (.tup [.ref u, .ref b]) ∧ H u = some (.tup (f.1.map (·.1))) ∧ H b = some (.dK f.2)
theorem FdV.same {K : PySem.W.Frag} {H H' : Hp} {x : V} {f : FD} (s : Same H H') (h : FdV K H x f) : FdV K H' x f := let ⟨p, u, b, e, h1, h2, h3⟩ := h; ⟨p, u, b, e, s _ _ h1, s _ _ h2, s _ _ h3⟩
theorem FdV.keep {K : PySem.W.Frag} {p : Addr} {H H' : Hp} {x : V} {f : FD} (s : Keep p H H') (hp : IsIns H p) (h : FdV K H x f) : FdV K H' x f := let ⟨p, u, b, e, h1, h2, h3⟩ := h; ⟨p, u, b, e, s.at2 hp h1 nofun nofun, s.at2 hp h2 nofun nofun, s.at2 hp h3 nofun nofun⟩
def nextK (d : SD) (f : FD) : List FD := (joinedK d f.2).map fun m => (f.1 ++ [m.1], m.2)
def foundsK (ini : List FD) : List SD → List FD
  | [] => ini
  | d :: r => foundsK (ini.flatMap (nextK d)) r
theorem founds_app (d : SD) : ∀ (l : List SD) (ini : List FD), foundsK ini (l ++ [d]) = (foundsK ini l).flatMap (nextK d)
  | [], _ => rfl
  | e :: l, ini => founds_app d l (ini.flatMap (nextK e))
def iniK (cs : List CT) : List FD := if ((cs.filter (chK [])).all fun e => holdsB [] e) = true then [([], [])] else []
theorem StepOn.keep {K : PySem.W.Frag} {mg : Str → Option Value} {H H' : Hp} {p q C dx : Addr} {fs : List (Str × V)} {d : SD} (s : Keep q H H') (hq : H q = some (.ins C dx fs)) (ne : p ≠ q) (h : StepOn K mg H p d) : StepOn K mg H' p d := by
  obtain ⟨v, h1, h2⟩ := h
  have i : IsIns H q := ⟨_, hq, .inl ⟨_, _, _, rfl⟩⟩
  refine ⟨v, ⟨let ⟨dx, tq, rq, sq, dq, aq, a1, a2, a3, a4, a5⟩ := h1.at_; ⟨dx, tq, rq, sq, dq, aq, s _ _ ne a1, s.at_ hq a2 nofun, s.at_ hq a3 nofun, s.at_ hq a4 nofun, s.at_ hq a5 nofun⟩, fun e he => (h1.rows e he).keep s i, fun e he => (h1.due e he).keep s i, h1.terms, h1.lt, h1.lr, h1.ls, h1.ld⟩, ?_⟩
  exact h2.elim .inl fun ⟨g, k, H0, e, b1, b2⟩ => .inr ⟨g, k, H0, e, s.at_ hq b1 nofun, b2.keep s hq⟩
theorem paired_cat {α β : Type} {F : α → β → Prop} : ∀ {xs : List α} {as : List β} {ys : List α} {bs : List β}, Paired F xs as → Paired F ys bs → Paired F (xs ++ ys) (as ++ bs)
  | _, _, _, _, .nil, h => h
  | _, _, _, _, .cons a r, h => .cons a (paired_cat r h)
theorem upd_self {H : Hp} {a : Addr} {o : HO} (h : H a = some o) : upd H a o = H := by
  funext b
  by_cases z : b = a
  · rw [z, upd_same, h]
  · rw [upd_ne z]
theorem ini_is (cs : List (V × CT)) : iniK (cs.map (·.2)) = if ((cs.filter fun e => chK [] e.2).all fun e => holdsB [] e.2) = true then [([], [])] else [] := by
  unfold iniK
  rw [List.filter_map, List.all_map]
  rfl
section
variable {P : Program} {w : World} {K : PySem.W.Frag} {mg : Str → Option Value} {base : Heap}
def sp_inst (K : PySem.W.Frag) : Sp := fun vs H Q _ => ∃ (r t hp ht : Addr) (hn : Str) (ts : List Key) (as : List (V × AT)) (cs : List (V × CT)) (tvs : List (Key × V)) (tb : Str → List RW),
  vs = [.ref r, .ref t] ∧ RuleAt K H r (.ref hp) as cs ∧ SqT K H hp [.str hn, .ref ht] ∧ SqT K H ht (ts.map kV) ∧ ts.length ≤ 100 ∧ TabsAt K H t tvs tb ∧ (aheadS [] (as.map (·.2))).length < 64 ∧ (∀ e ∈ cs, chK [] e.2 = true → HOk [] e.2) ∧
  (∀ i, (foundsK (iniK (cs.map (·.2))) ((sdsOf [] cs tb (as.map (·.2))).take i)).length ≤ 10000) ∧
  (∀ (i : Nat) (d : SD), (sdsOf [] cs tb (as.map (·.2)))[i]? = some d → ∀ f ∈ foundsK (iniK (cs.map (·.2))) ((sdsOf [] cs tb (as.map (·.2))).take i), AllK f.2 ∧ f.2.length ≤ 1000 ∧ f.1.length ≤ 1000 ∧ ∀ m ∈ groupK d f.2, ∀ e ∈ d.due, HOk (mergeK f.2 m.2) e.2) ∧
  ∀ (R : Addr) (xs : List V) (H' : Hp), Same H H' → H' R = some (.lst xs) → Paired (fun x (f : FD) => ∃ p h u, x = .ref p ∧ H' p = some (.tup [.ref h, .ref u]) ∧ H' h = some (.tup (ts.map (tv f.2))) ∧ H' u = some (.tup (f.1.map (·.1)))) xs (foundsK (iniK (cs.map (·.2))) (sdsOf [] cs tb (as.map (·.2)))) → Q (.ref R) H'
theorem ok_instances (T : Txt K mg) : Def P w K mg base 10 "instances" ["rule", "tables"] (sp_inst K) := by
  refine T.t_instances.ok sc_instances (fun vs H Q E h => ?_) fun f cdv A outer s H vs Q E hr h => ?_
  · obtain ⟨r, t, hp, ht, hn, ts, as, cs, tvs, tb, rfl, _⟩ := h
    rfl
  · obtain ⟨r, t, hp, ht, hn, ts, as, cs, tvs, tb, rfl, hR, hhp, hht, lts, hT, lz, ho, lf, hG, k⟩ := h
    refine join_at 1 (fun σ G => ∃ (fa : Addr) (xs : List V), σ = [some (.ref r), some (.ref t), some (.ref fa), none, none, none, none] ∧ Same H G ∧ G fa = some (.lst xs) ∧ Paired (FdV K G) xs (iniK (cs.map (·.2)))) ⟨_, (pss_2
      (ps_for PassesOwn.never rfl (pi_listK K (pe_def (ok_steps_of T) hr rfl (pa_4 (pv 0) (pv 1) (pe_lst pa_nil) (pe_lst pa_nil)))) (pg_name (i := 3) sc_instances.nd rfl (Or.inl rfl)) (pss_3
      (ps_set (i := 4) sc_instances.nd rfl (Or.inl rfl) (pe_lst pa_nil))
      (ps_for PassesOwn.never rfl (pi_listK K (pv 2)) (pg_tup rfl (pgs_cons (pg_name (i := 5) sc_instances.nd rfl (Or.inr rfl)) (pgs_cons (pg_name (i := 6) sc_instances.nd rfl (Or.inl rfl)) pgs_nil))) (pss_one (ps_expr (pe_bm PySem.F.plainAttrs_list PySem.F.slot_list_extend PySem.F.type_list_extend mt_extend (pv 4) (pa_1 (pe_comp (N := ["row", "together", "used"]) (caps := [none, none, some 5]) rfl (by with_unfolding_all rfl) (pi_listK K (pe_mdef (ok_Step_joined_on T) T.cl_Step hr (pv 3) (pa_1 (pv 6)))) (fun _ _ _ _ _ => (pg_tupK K (n := 2) rfl (pgs_cons (pg_name (i := 0) (show (["row", "together", "used"] : List Str).Nodup by decide +kernel) rfl (Or.inl rfl)) (pgs_cons (pg_name (i := 1) (show (["row", "together", "used"] : List Str).Nodup by decide +kernel) rfl (Or.inl rfl)) pgs_nil)))) (fun _ _ _ _ _ => pf_nil) (fun _ _ _ _ _ => (pe_tup (pa_2 (pe_op op_catH (pv 2) (pe_tup (pa_1 (pv 0)))) (pv 1))))))))))
      (ps_set (i := 2) sc_instances.nd rfl (Or.inl rfl) (pv 4))))
      (ps_ret (pe_comp (N := ["used", "binding", "rule"]) (caps := [none, none, some 0]) rfl (by with_unfolding_all rfl) (pi_listK K (pv 2)) (fun _ _ _ _ _ => (pg_tupK K (n := 2) rfl (pgs_cons (pg_name (i := 0) (show (["used", "binding", "rule"] : List Str).Nodup by decide +kernel) rfl (Or.inl rfl)) (pgs_cons (pg_name (i := 1) (show (["used", "binding", "rule"] : List Str).Nodup by decide +kernel) rfl (Or.inl rfl)) pgs_nil)))) (fun _ _ _ _ _ => pf_nil) (fun _ _ _ _ _ => (pe_tup (pa_2 (pe_def (ok_put_in T) hr rfl (pa_2 (pe_ix (ix_tupK K) (pe_ix (ix_tupK K) (pv 2) pe_int (fun _ _ => rfl)) pe_int (fun _ _ => rfl)) (pv 1))) (pv 0))))))), ?_⟩ (fun u hu hC => ⟨_, (psr_1
      (ps_set (i := 2) sc_instances.nd rfl (Or.inl rfl) (pe_ifExp (pt_val (pe_def (ok_all_hold T) hr rfl (pa_2 (pe_def (ok_choices_known T) hr rfl (pa_2 (pe_ix (ix_tupK K) (pv 0) pe_int (fun _ _ => rfl)) (pe_lst pa_nil))) pe_dnewK))) (pe_lst (pa_1 (pe_tup (pa_2 (pe_tup pa_nil) pe_dnewK)))) (pe_lst pa_nil)))
      hu), ?_⟩)
    · rintro σ G ⟨fa, xs, rfl, sg, hfa, pr⟩
      refine ⟨_, rfl, _, rfl, by decide, fun l1 hl1 => ?_⟩
      have s1 := same_upd (o := HO.lst []) hl1
      refine ⟨by decide, fun l2 hl2 => ?_⟩
      have s2 := same_upd (o := HO.lst []) hl2
      have hl1' := s2 _ _ (upd_same (H := G) (a := l1) (o := HO.lst []))
      have hl2' := upd_same (H := upd G l1 (.lst [])) (a := l2) (o := HO.lst [])
      have s12 := s1.trans s2
      generalize upd (upd G l1 (.lst [])) l2 (.lst []) = G2 at *
      have sg2 := sg.trans s12
      refine ⟨r, t, l1, l2, .ref hp, as, cs, [], [], tvs, tb, rfl, hR.same sg2, hT.same sg2, hl1', hl2', (fun _ z => nomatch z), (fun _ z => nomatch z), Nat.zero_le _, lz, fun A ps H1 s3 hA0 hA fr nd st => ?_⟩
      have st : Paired (fun p d => StepAt K mg H1 p d .non) ps (sdsOf [] cs tb (as.map (·.2))) := st
      generalize sdsOf [] cs tb (as.map (·.2)) = sds at *
      generalize hini : iniK (cs.map (·.2)) = ini at *
      have s23 := s12.trans s3
      have fr0 : ∀ p ∈ ps, H p = none := fun p hp => sg2.free (fr p hp)
      refine ⟨A, rfl, ⟨_, SqL.of hA⟩, for_list (xs := ps.map V.ref) (fun i σ F => ∃ (fa : Addr) (v3 v4 v5 v6 : Option V) (xs : List V), σ = [some (.ref r), some (.ref t), some (.ref fa), v3, v4, v5, v6] ∧ Same H F ∧ F A = some (.lst (ps.map V.ref)) ∧ F fa = some (.lst xs) ∧ Paired (FdV K F) xs (foundsK ini (sds.take i)) ∧ ∀ (j : Nat) (p : Addr) (d : SD), ps[j]? = some p → sds[j]? = some d → StepOn K mg F p d) ⟨fa, none, none, none, none, xs, rfl, sg.trans s23, hA, s23 _ _ hfa, L2.Paired.mapP pr fun _ _ z => z.same s23, fun j p d h1 h2 => ?_⟩ (fun i σ F _ z => ?_) ?_ ?_⟩
      · obtain ⟨d', h3, h4⟩ := paired_at st h1
        rw [h2] at h3
        cases h3
        exact ⟨.non, h4, .inl rfl⟩
      · obtain ⟨_, _, _, _, _, _, _, _, z, _⟩ := z
        exact SqL.of z
      · rintro i x σ F hx ⟨fa, v3, v4, v5, v6, xs, rfl, sf, hA, hfa, pr, st⟩
        rw [List.getElem?_map] at hx
        obtain ⟨p, hpi, rfl⟩ := Option.map_eq_some_iff.mp hx
        have hp0 := fr0 p (List.mem_of_getElem? hpi)
        obtain ⟨d, hdi, _⟩ := paired_at ‹Paired (fun p d => StepAt K mg H1 p d .non) ps sds› hpi
        have tk : sds.take (i + 1) = sds.take i ++ [d] := by rw [List.take_succ, hdi]; rfl
        have lf2 := lf (i + 1)
        rw [tk, founds_app] at lf2
        have hGi := hG i d hdi
        generalize hfs : foundsK ini (sds.take i) = fs at *
        refine ⟨by decide, fun lg hlg => ?_⟩
        have s5 := same_upd (o := HO.lst []) hlg
        have hlg5 := upd_same (H := F) (a := lg) (o := HO.lst [])
        have far0 : ∀ (j : Nat) (p : Addr) (d : SD), ps[j]? = some p → sds[j]? = some d → StepFar K mg (upd F lg (.lst [])) p d lg := fun j p d h1 h2 o => (st j p d h1 h2).same (s5.set hlg)
        have nfa : fa ≠ lg := fun z => by rw [z, hlg] at hfa; cases hfa
        have nA : A ≠ lg := fun z => by rw [z, hlg] at hA; cases hA
        have hlg0 : H lg = none := sf.free hlg
        have sF := sf.trans s5
        have hA5 := s5 _ _ hA
        have hfa5 := s5 _ _ hfa
        have pr5 := L2.Paired.mapP pr fun _ _ (z : FdV K F _ _) => z.same s5
        generalize upd F lg (.lst []) = F5 at *
        refine ⟨_, rfl, fa, rfl, ⟨_, SqL.of hfa5⟩, for_list (xs := xs) (fun j σ G => ∃ (v5 v6 : Option V) (ys : List V), σ = [some (.ref r), some (.ref t), some (.ref fa), some (.ref p), some (.ref lg), v5, v6] ∧ Same H G ∧ G A = some (.lst (ps.map V.ref)) ∧ G fa = some (.lst xs) ∧ Paired (FdV K G) xs fs ∧ (∀ (j : Nat) (p : Addr) (d : SD), ps[j]? = some p → sds[j]? = some d → StepFar K mg G p d lg) ∧ G lg = some (.lst ys) ∧ Paired (FdV K G) ys ((fs.take j).flatMap (nextK d))) ⟨_, _, [], rfl, sF, hA5, hfa5, pr5, far0, hlg5, .nil⟩ (fun j σ G _ z => ?_) ?_ ?_⟩
        · obtain ⟨_, _, _, _, _, _, z, _⟩ := z
          exact SqL.of z
        · rintro j x σ G hx ⟨v5, v6, ys, rfl, se, hA, hfa, pr, st, hlg, py⟩
          obtain ⟨f, hf, pp, u, b, rfl, hpp, hu, hb⟩ := paired_at pr hx
          obtain ⟨ak, lk, lu, hok⟩ := hGi f (List.mem_of_getElem? hf)
          refine ⟨pp, _, rfl, SqT.of hpp, rfl, _, _, rfl, _, _, rfl, rfl, ?_⟩
          have on := st i p d hpi hdi (.lst ys)
          rw [upd_self hlg] at on
          obtain ⟨v, sat, by_⟩ := on
          obtain ⟨dx, tq, rq, sq, dq, aq, hpG, _⟩ := id sat.at_
          refine ⟨_, rfl, .inl ⟨rfl, _, SqL.of hlg⟩, _, rfl, p, dx, _, rfl, hpG, rfl, _, rfl, p, b, d, v, f.2, rfl, sat, by_, hb, ak, lk, hok, fun D E2 zs kp on2 far2 hD0 hD pz => ?_⟩
          have i2 : IsIns G p := ⟨_, hpG, .inl ⟨_, _, _, rfl⟩⟩
          have hu2 := kp.at_ hpG hu nofun
          have lgD : lg ≠ D := fun z => by rw [z, hD0] at hlg; cases hlg
          refine ⟨D, rfl, ⟨_, SqL.of hD⟩, fun C hC => ?_⟩
          refine comp_by zs.length (fun k σ' E' => (∃ v1 v2, σ' = [v1, v2, some (.ref u)]) ∧ Same E2 E' ∧ ∃ ws, E' C = some (.lst ws) ∧ Paired (FdV K E') ws (((joinedK d f.2).take k).map fun m => (f.1 ++ [m.1], m.2)) ∧ ws.length ≤ k) ⟨⟨_, _, rfl⟩, same_upd hC, [], upd_same, .nil, Nat.le_refl _⟩ (fun k σ' E' hi z => ?_) (fun σ' E' z => ⟨?_, ?_⟩) (fun k σ' E' hi z x E3 y => ?_)
          · obtain ⟨_, sm, _⟩ := z
            exact ⟨_, _, SqL.of (sm _ _ hD), List.getElem?_eq_getElem hi⟩
          · obtain ⟨_, sm, _⟩ := z
            exact ⟨_, SqL.of (sm _ _ hD), Nat.le_refl _⟩
          · obtain ⟨_, sm, ws, hC2, pw, lw⟩ := z
            rw [pz.length, List.take_length] at pw
            have pl : p ≠ lg := fun z => by rw [z, hlg] at hpG; cases hpG
            have hlg2 := sm _ _ (kp.at_ hpG hlg nofun)
            have fst := fmStep (f := nextK d) hf
            have l1 : ys.length + ws.length ≤ 10000 := by
              have h1 := py.length
              have h2 := pw.length
              have h3 : (fs.flatMap (nextK d)).length = ((fs.take (j + 1)).flatMap (nextK d)).length + ((fs.drop (j + 1)).flatMap (nextK d)).length := by rw [← List.length_append, ← List.flatMap_append, List.take_append_drop]
              rw [fst, List.length_append] at h3
              have h4 : (nextK d f).length = ((joinedK d f.2).map fun m => (f.1 ++ [m.1], m.2)).length := rfl
              omega
            have kl : Keep lg E' (upd E' lg (.lst (ys ++ ws))) := fun a q n h => by rw [upd_ne n]; exact h
            have il : IsIns E' lg := ⟨_, hlg2, .inr ⟨_, rfl⟩⟩
            have sE : Same H E' := fun a o h => sm _ _ (kp _ _ (fun z => by rw [z, hp0] at h; cases h) (se _ _ h))
            refine ⟨lg, C, ys, ws, rfl, rfl, hlg2, hC2, Nat.le_trans l1 (by decide), _, _, ys ++ ws, rfl, sE.set hlg0, kl _ _ nA (sm _ _ (kp.at_ hpG hA nofun)), kl _ _ nfa (sm _ _ (kp.at_ hpG hfa nofun)), L2.Paired.mapP pr fun _ _ z => ((z.keep kp i2).same sm).keep kl il, fun j2 p2 d2 h1 h2 => ?_, upd_same, ?_⟩
            · have fE2 : StepFar K mg E2 p2 d2 lg := by
                by_cases e : p2 = p
                · subst e
                  have ej : j2 = i := (List.getElem?_inj (List.getElem?_eq_some_iff.mp h1).1 nd).mp (h1.trans hpi.symm)
                  subst ej
                  rw [hdi] at h2
                  cases h2
                  exact far2 lg ys hlg (st _ _ _ hpi hdi)
                · refine fun o => (st _ _ _ h1 h2 o).keep (q := p) (fun a q n h => ?_) (by rw [upd_ne pl]; exact hpG) e
                  by_cases z : a = lg
                  · rw [z, upd_same] at h ⊢
                    exact h
                  · rw [upd_ne z] at h ⊢
                    exact kp _ _ n h
              exact fun o => (fE2.same sm o).same (upd_cong (fun a q n e => by rw [upd_ne n]; exact e) o)
            · rw [fst]
              exact paired_cat (L2.Paired.mapP py fun _ _ z => ((z.keep kp i2).same sm).keep kl il) (L2.Paired.mapP pw fun _ _ z => z.keep kl il)
          · obtain ⟨⟨v1, v2, rfl⟩, sm, ws, hC2, pw, lw⟩ := z
            obtain ⟨rfl, hx⟩ := y
            have hx' := hx _ (SqL.of (sm _ _ hD))
            obtain ⟨m, hm, p3, q3, rfl, hp3, hq3⟩ := paired_at pz hx'
            refine ⟨p3, _, rfl, SqT.of (sm _ _ hp3), rfl, _, _, rfl, _, _, rfl, rfl, ?_⟩
            refine ⟨_, rfl, _, rfl, by show 1 ≤ sizeLine; decide, fun o1 ho1 => ?_⟩
            have s6 := same_upd (o := HO.tup [m.1.1]) ho1
            refine ⟨u, o1, _, _, rfl, rfl, s6 _ _ (sm _ _ hu2), upd_same, by rw [List.length_map]; exact Nat.le_trans (show _ + 1 ≤ 2000 by omega) (by decide), fun u2 E5 s7 hu5 => ?_⟩
            refine ⟨_, rfl, by show 2 ≤ sizeLine; decide, fun pp2 hpp2 => ?_⟩
            have s8 := same_upd (o := HO.tup [.ref u2, .ref q3]) hpp2
            have e8 := upd_same (H := E5) (a := pp2) (o := HO.tup [.ref u2, .ref q3])
            have hu8 := s8 _ _ hu5
            have s68 := s6.trans (s7.trans s8)
            generalize upd E5 pp2 (.tup [.ref u2, .ref q3]) = E8 at *
            have hC8 := s68 _ _ hC2
            have kc : Keep C E8 (upd E8 C (.lst (ws ++ [.ref pp2]))) := fun a q n h => by rw [upd_ne n]; exact h
            have ic : IsIns E8 C := ⟨_, hC8, .inr ⟨_, rfl⟩⟩
            have glen : zs.length ≤ 100000 := by
              have h1 := pz.length
              have h2 : (fs.flatMap (nextK d)).length = ((fs.take (j + 1)).flatMap (nextK d)).length + ((fs.drop (j + 1)).flatMap (nextK d)).length := by rw [← List.length_append, ← List.flatMap_append, List.take_append_drop]
              rw [fmStep (f := nextK d) hf, List.length_append] at h2
              have h3 : (nextK d f).length = (joinedK d f.2).length := List.length_map ..
              omega
            refine ⟨ws, hC8, Nat.lt_of_lt_of_le (show ws.length < 100001 by omega) (by decide), ⟨_, _, rfl⟩, (sm.trans s68).set hC, ws ++ [.ref pp2], upd_same, ?_, by rw [List.length_append]; show _ + 1 ≤ _; omega⟩
            rw [List.take_succ, hm, List.map_append]
            refine paired_app (L2.Paired.mapP pw fun _ _ z => (z.same s68).keep kc ic) (FdV.keep kc ic ⟨pp2, u2, q3, rfl, e8, ?_, s68 _ _ (sm _ _ hq3)⟩)
            rw [hu8, List.map_append]
            rfl
        · rintro σ G ⟨v5, v6, ys, rfl, se, hA, hfa, pr, st, hlg, py⟩
          rw [pr.length, List.take_length] at py
          refine ⟨_, rfl, lg, _, _, _, _, ys, rfl, se, hA, hlg, ?_, fun j p d h1 h2 => ?_⟩
          · rw [tk, founds_app, hfs]
            exact py
          · have := st j p d h1 h2 (.lst ys)
            rw [upd_self hlg] at this
            exact this
      · rintro σ F ⟨fa, v3, v4, v5, v6, xs, rfl, sf, hA, hfa, pr, st2⟩
        rw [List.length_map, st.length, List.take_length] at pr
        obtain ⟨b, c, hr1, hb, hc⟩ := hR.at_
        have lfin := lf sds.length
        rw [List.take_length] at lfin
        generalize foundsK ini sds = fs at *
        refine ⟨_, rfl, fa, rfl, ⟨_, SqL.of hfa⟩, fun R hR0 => ?_⟩
        refine comp_by xs.length (fun i σ' E' => (∃ v1 v2, σ' = [v1, v2, some (.ref r)]) ∧ Same F E' ∧ ∃ ws, E' R = some (.lst ws) ∧ ws.length ≤ i ∧ Paired (fun x (f : FD) => ∃ p h u, x = .ref p ∧ E' p = some (.tup [.ref h, .ref u]) ∧ E' h = some (.tup (ts.map (tv f.2))) ∧ E' u = some (.tup (f.1.map (·.1)))) ws (fs.take i)) ⟨⟨_, _, rfl⟩, same_upd hR0, [], upd_same, Nat.le_refl _, .nil⟩ (fun i σ' E' hi z => ?_) (fun σ' E' z => ⟨?_, ?_⟩) (fun i σ' E' hi z x E3 y => ?_)
        · obtain ⟨_, sm, _⟩ := z
          exact ⟨_, _, SqL.of (sm _ _ hfa), List.getElem?_eq_getElem hi⟩
        · obtain ⟨_, sm, _⟩ := z
          exact ⟨_, SqL.of (sm _ _ hfa), Nat.le_refl _⟩
        · obtain ⟨_, sm, ws, h1, _, pw⟩ := z
          rw [pr.length, List.take_length] at pw
          exact k R ws E' (sf.trans sm) h1 pw
        · obtain ⟨⟨v1, v2, rfl⟩, sm, ws, h1, lw, pw⟩ := z
          obtain ⟨rfl, hx⟩ := y
          have hx' := hx _ (SqL.of (sm _ _ hfa))
          obtain ⟨f, hf, pp, u, b, rfl, hpp, hu, hb⟩ := paired_at pr hx'
          have S := sf.trans sm
          refine ⟨pp, _, rfl, SqT.of (sm _ _ hpp), rfl, _, _, rfl, _, _, rfl, rfl, ?_⟩
          refine ⟨_, rfl, _, _, _, _, rfl, rfl, S.seqT hr1, atI_nat (j := 0) rfl, _, _, _, _, rfl, rfl, S.seqT hhp, atI_nat (j := 1) rfl, _, rfl, ht, b, ts, f.2, rfl, S.seqT hht, sm _ _ hb, lts, fun h E5 s5 hh => ?_⟩
          refine ⟨_, rfl, by show 2 ≤ sizeLine; decide, fun p2 hp2 => ?_⟩
          have s6 := same_upd (o := HO.tup [.ref h, .ref u]) hp2
          have e6 := upd_same (H := E5) (a := p2) (o := HO.tup [.ref h, .ref u])
          have s56 := s5.trans s6
          have hh6 := s6 _ _ hh
          generalize upd E5 p2 (.tup [.ref h, .ref u]) = E6 at *
          have h16 := s56 _ _ h1
          have kc : Keep R E6 (upd E6 R (.lst (ws ++ [.ref p2]))) := fun a q n h => by rw [upd_ne n]; exact h
          have ic : IsIns E6 R := ⟨_, h16, .inr ⟨_, rfl⟩⟩
          have lx := pr.length
          refine ⟨ws, h16, Nat.lt_of_lt_of_le (show ws.length < 100001 by omega) (by decide), ⟨_, _, rfl⟩, (sm.trans s56).set hR0, ws ++ [.ref p2], upd_same, by rw [List.length_append]; show _ + 1 ≤ _; omega, ?_⟩
          rw [List.take_succ, hf]
          exact paired_app (L2.Paired.mapP pw fun _ _ ⟨a1, a2, a3, e, q1, q2, q3⟩ => ⟨a1, a2, a3, e, kc.at2 ic (s56 _ _ q1) nofun nofun, kc.at2 ic (s56 _ _ q2) nofun nofun, kc.at2 ic (s56 _ _ q3) nofun nofun⟩) ⟨p2, h, u, rfl, kc.at2 ic e6 nofun nofun, kc.at2 ic hh6 nofun nofun, kc.at2 ic (s56 _ _ (sm _ _ hu)) nofun nofun⟩
    · obtain ⟨b, c, hr1, hb, hc⟩ := hR.at_
      have lc := hR.lc
      refine ⟨_, rfl, _, _, _, _, rfl, rfl, hr1, atI_nat (j := 2) rfl, by decide, fun L0 hL0 => ?_⟩
      have s1 := same_upd (o := HO.lst []) hL0
      refine ⟨c, L0, cs, [], rfl, s1.seqT hc, fun e he => (hR.chs e he).same s1, by omega, upd_same, (fun _ z => nomatch z), fun D H1 s2 hD0 hD => ?_⟩
      refine fun q hq => ?_
      have s3 := same_upd (o := HO.dK []) hq
      have s13 := s1.trans (s2.trans s3)
      have lf1 := List.length_filter_le (fun e : V × CT => chK [] e.2) cs
      refine ⟨D, q, cs.filter (fun e => chK [] e.2), [], rfl, SqL.of (s3 _ _ hD), fun e he => ⟨((hR.chs e (List.mem_filter.mp he).1).same s13).at_, ho e (List.mem_filter.mp he).1 (List.mem_filter.mp he).2⟩, by omega, upd_same, fun H2 s4 => ⟨_, rfl, ite2 (fun h1 => ?_) (fun h1 => ?_)⟩⟩
      · have s14 := s13.trans s4
        refine ⟨by decide, fun u hu => ?_⟩
        have s5 := same_upd (o := HO.tup []) hu
        refine fun q2 hq2 => ?_
        have s6 := same_upd (o := HO.dK []) hq2
        refine ⟨by show 2 ≤ sizeLine; decide, fun pp hpp => ?_⟩
        have s7 := same_upd (o := HO.tup [.ref u, .ref q2]) hpp
        refine ⟨by show 1 ≤ sizeLine; decide, fun fa hfa => ?_⟩
        have s8 := same_upd (o := HO.lst [.ref pp]) hfa
        refine hC _ _ ⟨fa, [.ref pp], rfl, s14.trans (s5.trans (s6.trans (s7.trans s8))), upd_same, ?_⟩
        rw [ini_is, if_pos h1]
        exact .cons ⟨pp, u, q2, rfl, s8 _ _ upd_same, (s6.trans (s7.trans s8)) _ _ upd_same, (s7.trans s8) _ _ upd_same⟩ .nil
      · refine ⟨by decide, fun fa hfa => ?_⟩
        have s8 := same_upd (o := HO.lst []) hfa
        refine hC _ _ ⟨fa, [], rfl, s13.trans (s4.trans s8), upd_same, ?_⟩
        rw [ini_is, if_neg h1]
        exact .nil
end
end Wy
namespace Wy
open PySem L2
def EqM (k b : List (Key × V)) : Prop := ∀ t, valV k t = valV b t
theorem EqM.tv {k b : List (Key × V)} (h : EqM k b) (t : Key) : tv k t = Wy.tv b t := by
  unfold Wy.tv
  rw [h t]
theorem EqM.holds {k b : List (Key × V)} (h : EqM k b) (e : CT) : holdsB k e = holdsB b e := by
  unfold holdsB
  rw [h.tv, h.tv]
theorem EqM.key {k b : List (Key × V)} (h : EqM k b) (sh : List Key) : mKey sh k = mKey sh b := by
  unfold mKey
  exact List.map_congr_left fun t _ => by rw [h.tv]
def OnlyV (k : List (Key × V)) : Prop := ∀ t v, valV k t = some v → txtK capS t = true
theorem OnlyV.nil : OnlyV [] := fun _ _ e => nomatch e
theorem mPut_val (k : List (Key × V)) (t v s : Key) : valV (mPut k t v) s = if s = t ∧ txtK capS t = true ∧ valV k t = none then some (kV v) else valV k s := by
  unfold mPut
  by_cases h : txtK capS t = true ∧ valV k t = none
  · rw [if_pos h, valV_put]
    by_cases e : s = t
    · rw [if_pos e, if_pos ⟨e, h⟩]
    · rw [if_neg e, if_neg (fun z => e z.1)]
  · rw [if_neg h, if_neg (fun z => h z.2)]
theorem mStep_put {k k2 : List (Key × V)} {t v : Key} (h : mStep k t v = some k2) : k2 = mPut k t v ∧ Wy.tv k2 t = kV v := by
  unfold mStep at h
  split at h
  · rename_i q
    cases h
    exact ⟨rfl, q⟩
  · cases h
theorem mStep_of {k : List (Key × V)} {t v : Key} (h : Wy.tv (mPut k t v) t = kV v) : mStep k t v = some (mPut k t v) := if_pos h
theorem OnlyV.step {k k2 : List (Key × V)} {t v : Key} (o : OnlyV k) (h : mStep k t v = some k2) : OnlyV k2 := fun s x e => by
  rw [(mStep_put h).1, mPut_val] at e
  split at e
  · rename_i q
    rw [q.1]
    exact q.2.1
  · exact o s x e
theorem OnlyV.all : ∀ {l : List (Key × Key)} {k k2 : List (Key × V)}, OnlyV k → mAll k l = some k2 → OnlyV k2
  | [], _, _, o, h => by cases h; exact o
  | p :: l, k, k2, o, h => by
    have e' : (mStep k p.1 p.2).bind (fun k => mAll k l) = some k2 := h
    cases q : mStep k p.1 p.2 with
    | none => rw [q] at e'; cases e'
    | some k3 => rw [q] at e'; exact OnlyV.all (o.step q) e'
def Both (k0 k b : List (Key × V)) : Prop := ∀ t, valV k t = (valV k0 t).or (valV b t) ∧ ∀ x y, valV k0 t = some x → valV b t = some y → x = y
theorem Both.step {k0 k b k2 : List (Key × V)} {t v : Key} (r : Both k0 k b) (ok : OnlyV k) (h : mStep k t v = some k2) : ∃ b2, mStep b t v = some b2 ∧ Both k0 k2 b2 := by
  obtain ⟨e2, et⟩ := mStep_put h
  obtain ⟨r1, r2⟩ := r t
  have hv : (valV k2 t).getD (kV t) = kV v := et
  rw [e2, mPut_val] at hv
  refine ⟨mPut b t v, mStep_of ?_, fun s => ?_⟩
  · show (valV (mPut b t v) t).getD (kV t) = kV v
    rw [mPut_val]
    cases eb : valV b t with
    | none =>
      by_cases c : txtK capS t = true
      · rw [if_pos ⟨rfl, c, rfl⟩]
        rfl
      · rw [if_neg (fun z => c z.2.1)]
        have kn : valV k t = none := by
          cases q : valV k t with
          | none => rfl
          | some x => exact absurd (ok t x q) c
        rw [if_neg (fun z => c z.2.1), kn] at hv
        exact hv
    | some y =>
      rw [if_neg (fun z => nomatch z.2.2)]
      cases e0 : valV k0 t with
      | none =>
        rw [e0, eb] at r1
        have r1 : valV k t = some y := r1
        rw [if_neg (fun z => by rw [r1] at z; exact nomatch z.2.2), r1] at hv
        exact hv
      | some x =>
        have := r2 x y e0 eb
        rw [e0] at r1
        have r1 : valV k t = some x := r1
        rw [if_neg (fun z => by rw [r1] at z; exact nomatch z.2.2), r1] at hv
        rw [← this]
        exact hv
  · rw [e2, mPut_val, mPut_val]
    obtain ⟨q1, q2⟩ := r s
    by_cases es : s = t
    · subst es
      by_cases c : txtK capS s = true
      · cases ek : valV k s with
        | none =>
          rw [ek] at r1
          have n0 : valV k0 s = none := by
            cases e0 : valV k0 s with
            | none => rfl
            | some x => rw [e0] at r1; cases r1
          have nb : valV b s = none := by
            cases eb : valV b s with
            | none => rfl
            | some x => rw [n0, eb] at r1; cases r1
          rw [if_pos ⟨rfl, c, rfl⟩, if_pos ⟨rfl, c, nb⟩, n0]
          exact ⟨rfl, fun x y e => nomatch e⟩
        | some w =>
          rw [if_neg (fun z => by rw [ek] at z; exact nomatch z.2.2), ek] at hv
          have hw : w = kV v := hv
          rw [if_neg (fun z => nomatch z.2.2)]
          cases eb : valV b s with
          | none =>
            rw [if_pos ⟨rfl, c, rfl⟩]
            rw [ek, eb] at r1
            cases e0 : valV k0 s with
            | none => rw [e0] at r1; cases r1
            | some x =>
              rw [e0] at r1
              have r1 : some w = some x := r1
              injection r1 with r1
              refine ⟨by rw [r1]; rfl, fun a b h1 h2 => ?_⟩
              injection h1 with h1
              injection h2 with h2
              rw [← h1, ← h2, ← r1, hw]
          | some y =>
            rw [if_neg (fun z => nomatch z.2.2), ← eb, ← ek]
            exact ⟨q1, q2⟩
      · rw [if_neg (fun z => c z.2.1), if_neg (fun z => c z.2.1)]
        exact ⟨q1, q2⟩
    · rw [if_neg (fun z => es z.1), if_neg (fun z => es z.1)]
      exact ⟨q1, q2⟩
theorem Both.all : ∀ {l : List (Key × Key)} {k0 k b k2 : List (Key × V)}, Both k0 k b → OnlyV k → mAll k l = some k2 → ∃ b2, mAll b l = some b2 ∧ Both k0 k2 b2
  | [], _, _, b, _, r, _, h => by cases h; exact ⟨b, rfl, r⟩
  | p :: l, k0, k, b, k2, r, o, h => by
    have e' : (mStep k p.1 p.2).bind (fun k => mAll k l) = some k2 := h
    cases q : mStep k p.1 p.2 with
    | none => rw [q] at e'; cases e'
    | some k3 =>
      rw [q] at e'
      obtain ⟨b3, h3, r3⟩ := r.step o q
      obtain ⟨b2, h2, r2⟩ := Both.all (l := l) r3 (o.step q) e'
      exact ⟨b2, by show (mStep b p.1 p.2).bind (fun k => mAll k l) = some b2; rw [h3]; exact h2, r2⟩
theorem mAll_mono : ∀ {l : List (Key × Key)} {k k2 : List (Key × V)} {t : Key} {x : V}, mAll k l = some k2 → valV k t = some x → valV k2 t = some x
  | [], _, _, _, _, h, e => by cases h; exact e
  | p :: l, k, k2, t, x, h, e => by
    have e' : (mStep k p.1 p.2).bind (fun k => mAll k l) = some k2 := h
    cases q : mStep k p.1 p.2 with
    | none => rw [q] at e'; cases e'
    | some k3 =>
      rw [q] at e'
      refine mAll_mono (l := l) (k := k3) e' ?_
      rw [(mStep_put q).1, mPut_val, if_neg]
      · exact e
      · rintro ⟨rfl, _, z⟩
        rw [e] at z
        cases z
theorem tv_none {k : List (Key × V)} {t : Key} (o : OnlyV k) (c : ¬ txtK capS t = true) : Wy.tv k t = kV t := by
  unfold Wy.tv
  cases q : valV k t with
  | none => rfl
  | some x => exact absurd (o t x q) c
theorem mAll_tv : ∀ {l : List (Key × Key)} {k k2 : List (Key × V)} {t v : Key}, OnlyV k → mAll k l = some k2 → (t, v) ∈ l → txtK capS t = true → valV k2 t = some (kV v)
  | [], _, _, _, _, _, _, m, _ => nomatch m
  | p :: l, k, k2, t, v, o, h, m, c => by
    have e' : (mStep k p.1 p.2).bind (fun k => mAll k l) = some k2 := h
    cases q : mStep k p.1 p.2 with
    | none => rw [q] at e'; cases e'
    | some k3 =>
      rw [q] at e'
      rcases List.mem_cons.mp m with rfl | m
      · refine mAll_mono (l := l) (k := k3) e' ?_
        obtain ⟨e3, et⟩ := mStep_put q
        have et : (valV k3 t).getD (kV t) = kV v := et
        cases z : valV k3 t with
        | some x =>
          rw [z] at et
          exact congrArg some et
        | none =>
          rw [e3, mPut_val] at z
          split at z
          · cases z
          · rename_i w
            exact absurd ⟨rfl, c, z⟩ w
      · exact mAll_tv (l := l) (o.step q) e' m c
def NdK (k : List (Key × V)) : Prop := (k.map (·.1)).Nodup
theorem NdK.all : ∀ {l : List (Key × Key)} {k k2 : List (Key × V)}, NdK k → mAll k l = some k2 → NdK k2
  | [], _, _, n, h => by cases h; exact n
  | p :: l, k, k2, n, h => by
    have e' : (mStep k p.1 p.2).bind (fun k => mAll k l) = some k2 := h
    cases q : mStep k p.1 p.2 with
    | none => rw [q] at e'; cases e'
    | some k3 =>
      rw [q] at e'
      refine NdK.all (l := l) (k := k3) ?_ e'
      rw [(mStep_put q).1]
      unfold mPut
      split
      · rename_i w
        exact nd_putK _ n w.2
      · exact n
theorem valV_cons (x : Key) (y : V) (r : List (Key × V)) (t : Key) : valV ((x, y) :: r) t = if x = t then some y else valV r t := by
  unfold valV
  by_cases h : x = t
  · rw [if_pos h, List.find?_cons_of_pos (by simpa using h)]
    rfl
  · rw [if_neg h, List.find?_cons_of_neg (by simpa using h)]
theorem valV_out {r : List (Key × V)} {t : Key} (h : t ∉ r.map (·.1)) : valV r t = none := by
  cases q : valV r t with
  | none => rfl
  | some x => exact absurd (List.mem_map.mpr ⟨_, val_in q, rfl⟩) h
theorem valV_merge : ∀ {b : List (Key × V)} {k : List (Key × V)}, NdK b → ∀ t, valV (mergeK k b) t = (valV b t).or (valV k t)
  | [], _, _, _ => rfl
  | (x, y) :: r, k, n, t => by
    have n' : (x :: r.map (·.1)).Nodup := n
    obtain ⟨n1, n2⟩ := List.nodup_cons.mp n'
    show valV (mergeK (putK k x y) r) t = _
    rw [valV_merge (b := r) n2 t, valV_put, valV_cons]
    by_cases h : x = t
    · subst h
      rw [if_pos rfl, if_pos rfl, valV_out n1]
      rfl
    · rw [if_neg h, if_neg (fun z => h z.symm)]
def zipsK : List AT → List RW → List (Key × Key)
  | a :: as, e :: us => a.2.zip e.2 ++ zipsK as us
  | _, _ => []
theorem holds_on {k b : List (Key × V)} {ks : List Key} {e : CT} (ok : OnlyV k) (ob : OnlyV b) (kn : ∀ t ∈ ks, ∃ x, valV k t = some x ∧ valV b t = some x) (c : chK ks e = true) : holdsB k e = holdsB b e := by
  have side : ∀ t ∈ ([e.2.1, e.2.2] : List Key), Wy.tv k t = Wy.tv b t := fun t ht => by
    by_cases v : txtK capS t = true
    · have : inK ks t = true := List.all_eq_true.mp c t (List.mem_filter.mpr ⟨ht, v⟩)
      obtain ⟨x, h1, h2⟩ := kn t (inK_iff.mp this)
      unfold Wy.tv
      rw [h1, h2]
    · rw [tv_none ok v, tv_none ob v]
  unfold holdsB
  rw [side _ (List.mem_cons_self ..), side _ (List.mem_cons_of_mem _ (List.mem_cons_self ..))]
theorem mem_zip {ts vs : List Key} {t : Key} (h : t ∈ ts) (l : ts.length = vs.length) : ∃ v, (t, v) ∈ ts.zip vs := by
  obtain ⟨i, hi⟩ := List.getElem?_of_mem h
  have il := (List.getElem?_eq_some_iff.mp hi).1
  refine ⟨vs[i]'(by omega), List.mem_of_getElem? (i := i) ?_⟩
  rw [List.getElem?_zip_eq_some]
  exact ⟨hi, List.getElem?_eq_getElem _⟩
theorem found_all {cs : List (V × CT)} {tb : Str → List RW} {bk : List (Key × V)} (hold : ∀ e ∈ cs, holdsB bk e.2 = true) : ∀ (as : List AT) (us : List RW) (ks : List Key) (ini : List FD) (f : FD) (k : List (Key × V)), f ∈ ini → EqM f.2 k → OnlyV k →
    (∀ t ∈ ks, ∃ x, valV k t = some x) → us.length = as.length → (∀ (i : Nat) (a : AT) (e : RW), as[i]? = some a → us[i]? = some e → e ∈ tb a.1 ∧ a.2.length = e.2.length) → mAll k (zipsK as us) = some bk → ∃ g ∈ foundsK ini (sdsOf ks cs tb as), g.1 = f.1 ++ us ∧ EqM g.2 bk
  | [], [], ks, ini, f, k, hf, ef, ok, kn, _, _, h => by
    cases h
    exact ⟨f, hf, (List.append_nil _).symm, ef⟩
  | [], _ :: _, _, _, _, _, _, _, _, _, l, _, _ => nomatch l
  | _ :: _, [], _, _, _, _, _, _, _, _, l, _, _ => nomatch l
  | a :: as, e :: us, ks, ini, f, k, hf, ef, ok, kn, l, hrow, h => by
    obtain ⟨he, la⟩ := hrow 0 a e rfl rfl
    have h : mAll k (a.2.zip e.2 ++ zipsK as us) = some bk := h
    rw [mAll_app] at h
    cases q : mAll k (a.2.zip e.2) with
    | none => rw [q] at h; cases h
    | some k1 =>
      rw [q] at h
      have h : mAll k1 (zipsK as us) = some bk := h
      have ok1 := ok.all q
      have okb := ok1.all h
      obtain ⟨b, hb, bo⟩ := Both.all (k0 := k) (k := k) (b := []) (fun t => ⟨by show _ = (valV k t).or none; rw [Option.or_none], fun x y _ e => nomatch e⟩) ok q
      have nb : NdK b := NdK.all (k := []) List.nodup_nil hb
      have em : EqM (mergeK f.2 b) k1 := fun t => by
        rw [valV_merge nb, ef t]
        obtain ⟨r1, r2⟩ := bo t
        rw [r1]
        cases e1 : valV k t with
        | none => rw [Option.or_none]; rfl
        | some x =>
          cases e2 : valV b t with
          | none => rfl
          | some y => exact congrArg some (r2 x y e1 e2).symm
      have kn1 : ∀ t ∈ ks ++ varsK a.2, ∃ x, valV k1 t = some x := fun t ht => by
        rcases List.mem_append.mp ht with ht | ht
        · obtain ⟨x, hx⟩ := kn t ht
          exact ⟨x, mAll_mono q hx⟩
        · obtain ⟨h1, h2⟩ := List.mem_filter.mp ht
          obtain ⟨v, hv⟩ := mem_zip h1 la
          exact ⟨_, mAll_tv ok q hv h2⟩
      have hm : ((e, b) : MR) ∈ groupK (sdOf ks cs tb a) f.2 := by
        refine List.mem_filter.mpr ⟨List.mem_filterMap.mpr ⟨e, he, ?_⟩, decide_eq_true ?_⟩
        · show mOne a.2 e = some (e, b)
          unfold mOne
          rw [if_pos la, hb]
          rfl
        · rw [ef.key]
          refine List.map_congr_left fun t ht => ?_
          obtain ⟨h1, h2⟩ := List.mem_filter.mp (show t ∈ (varsK a.2).filter (inK ks) from ht)
          obtain ⟨h3, h4⟩ := List.mem_filter.mp h1
          obtain ⟨v, hv⟩ := mem_zip h3 la
          obtain ⟨x, hx⟩ := kn t (inK_iff.mp h2)
          have hbt := mAll_tv OnlyV.nil hb hv h4
          have : x = kV v := (bo t).2 x _ hx hbt
          unfold Wy.tv
          rw [hx, hbt, this]
      have hj : ((e, mergeK f.2 b) : MR) ∈ joinedK (sdOf ks cs tb a) f.2 := by
        refine List.mem_filter.mpr ⟨List.mem_map.mpr ⟨_, hm, rfl⟩, List.all_eq_true.mpr fun x hx => ?_⟩
        obtain ⟨h1, _⟩ := List.mem_filter.mp (show x ∈ (cs.filter fun e => chK (ks ++ varsK a.2) e.2).filter fun e => !chK ks e.2 from hx)
        obtain ⟨h2, h3⟩ := List.mem_filter.mp h1
        show holdsB (mergeK f.2 b) x.2 = true
        rw [em.holds, holds_on ok1 okb (fun t ht => let ⟨x, hx⟩ := kn1 t ht; ⟨x, hx, mAll_mono h hx⟩) h3]
        exact hold x h2
      have hn : ((f.1 ++ [e], mergeK f.2 b) : FD) ∈ ini.flatMap (nextK (sdOf ks cs tb a)) := List.mem_flatMap.mpr ⟨f, hf, List.mem_map.mpr ⟨_, hj, rfl⟩⟩
      obtain ⟨g, hg, g1, g2⟩ := found_all hold as us (ks ++ varsK a.2) (ini.flatMap (nextK (sdOf ks cs tb a))) (f.1 ++ [e], mergeK f.2 b) k1 hn em ok1 kn1 (by simpa using l) (fun i a' e' h1 h2 => hrow (i + 1) a' e' h1 h2) h
      refine ⟨g, hg, ?_, g2⟩
      rw [g1, List.append_assoc]
      rfl
theorem found_whole {cs : List (V × CT)} {tb : Str → List RW} {bk : List (Key × V)} {as : List AT} {us : List RW} (hold : ∀ e ∈ cs, holdsB bk e.2 = true) (l : us.length = as.length) (hrow : ∀ (i : Nat) (a : AT) (e : RW), as[i]? = some a → us[i]? = some e → e ∈ tb a.1 ∧ a.2.length = e.2.length)
    (h : mAll [] (zipsK as us) = some bk) : ∃ g ∈ foundsK (iniK (cs.map (·.2))) (sdsOf [] cs tb as), g.1 = us ∧ EqM g.2 bk := by
  have e : iniK (cs.map (·.2)) = [([], [])] := by
    rw [ini_is, if_pos]
    refine List.all_eq_true.mpr fun x hx => ?_
    obtain ⟨h1, h2⟩ := List.mem_filter.mp hx
    rw [holds_on (b := bk) (ks := []) OnlyV.nil (OnlyV.nil.all h) (fun t z => nomatch z) h2]
    exact hold x h1
  rw [e]
  obtain ⟨g, hg, g1, g2⟩ := found_all hold as us [] [([], [])] ([], []) [] (List.mem_singleton.mpr rfl) (fun _ => rfl) OnlyV.nil (fun t z => nomatch z) l hrow h
  exact ⟨g, hg, g1, g2⟩
end Wy
namespace Wy
open PySem L2
def AllIn (S : List Key) (k : List (Key × V)) : Prop := ∀ kv ∈ k, ∃ u ∈ S, kv.2 = kV u
theorem AllIn.allK {S : List Key} {k : List (Key × V)} (h : AllIn S k) : AllK k := fun kv hk => let ⟨u, _, e⟩ := h kv hk; ⟨u, e⟩
theorem AllIn.merge {S : List Key} : ∀ {b k : List (Key × V)}, AllIn S k → AllIn S b → AllIn S (mergeK k b)
  | [], k, h, _ => h
  | kv :: r, k, h, g => by
    show AllIn S (mergeK (putK k kv.1 kv.2) r)
    refine AllIn.merge (fun x hx => ?_) (fun x hx => g x (List.mem_cons_of_mem _ hx))
    rcases put_mem hx with hx | rfl
    · exact h x hx
    · exact g kv (List.mem_cons_self ..)
theorem AllIn.all {S : List Key} : ∀ {l : List (Key × Key)} {k k2 : List (Key × V)}, AllIn S k → (∀ p ∈ l, p.2 ∈ S) → mAll k l = some k2 → AllIn S k2
  | [], _, _, h, _, e => by cases e; exact h
  | p :: l, k, k2, h, hp, e => by
    have e' : (mStep k p.1 p.2).bind (fun k => mAll k l) = some k2 := e
    cases q : mStep k p.1 p.2 with
    | none => rw [q] at e'; cases e'
    | some k1 =>
      rw [q] at e'
      refine AllIn.all (k := k1) ?_ (fun x hx => hp x (List.mem_cons_of_mem _ hx)) e'
      rw [(mStep_put q).1]
      unfold mPut
      split
      · intro kv hk
        rcases put_mem hk with hk | rfl
        · exact h kv hk
        · exact ⟨p.2, hp p (List.mem_cons_self ..), rfl⟩
      · exact h
theorem AllIn.tv {S : List Key} {k : List (Key × V)} (h : AllIn S k) {t : Key} {x : V} (e : valV k t = some x) : ∃ u ∈ S, Wy.tv k t = kV u := by
  obtain ⟨u, hu, e1⟩ := h _ (val_in e)
  exact ⟨u, hu, by unfold Wy.tv; rw [e]; exact e1⟩
theorem zip_in {ts vs : List Key} {p : Key × Key} (h : p ∈ ts.zip vs) : p.2 ∈ vs := (List.of_mem_zip (a := p.1) (b := p.2) h).2
structure FOk (tb : Str → List RW) (S ks : List Key) (n : Nat) (f : FD) : Prop where
  rows : ∀ e ∈ f.1, ∃ z, e ∈ tb z
  vals : AllIn S f.2
  bnd : ∀ t ∈ ks, ∃ x, valV f.2 t = some x
  ov : OnlyV f.2
  l1 : f.1.length ≤ n
  l2 : f.2.length ≤ 100 * n
theorem group_of {d : SD} {k : List (Key × V)} {m : MR} (h : m ∈ groupK d k) : m.1 ∈ d.rows ∧ d.atom.2.length = m.1.2.length ∧ mAll [] (d.atom.2.zip m.1.2) = some m.2 := by
  obtain ⟨e, he, h1⟩ := List.mem_filterMap.mp (List.mem_filter.mp h).1
  unfold mOne at h1
  split at h1
  · rename_i l
    obtain ⟨b, hb, rfl⟩ := Option.map_eq_some_iff.mp h1
    exact ⟨he, l, hb⟩
  · cases h1
theorem group_len (d : SD) (k : List (Key × V)) : (groupK d k).length ≤ d.rows.length := Nat.le_trans (List.length_filter_le ..) (List.length_filterMap_le ..)
theorem next_len (d : SD) (f : FD) : (nextK d f).length ≤ d.rows.length := by
  unfold nextK joinedK
  rw [List.length_map]
  refine Nat.le_trans (List.length_filter_le ..) ?_
  rw [List.length_map]
  exact group_len d f.2
theorem FOk.more {tb : Str → List RW} {S ks : List Key} {n : Nat} {f : FD} {cs : List (V × CT)} {a : AT} {m : MR} (h : FOk tb S ks n f) (hS : ∀ z, ∀ e ∈ tb z, ∀ x ∈ e.2, x ∈ S) (la : a.2.length ≤ 100) (hm : m ∈ groupK (sdOf ks cs tb a) f.2) : FOk tb S (ks ++ varsK a.2) (n + 1) (f.1 ++ [m.1], mergeK f.2 m.2) := by
  obtain ⟨h1, h2, h3⟩ := group_of hm
  have h1 : m.1 ∈ tb a.1 := h1
  have h2 : a.2.length = m.1.2.length := h2
  have h3 : mAll [] (a.2.zip m.1.2) = some m.2 := h3
  have nb : NdK m.2 := NdK.all (k := []) List.nodup_nil h3
  have ob := OnlyV.nil.all h3
  have lm := mAll_len h3
  rw [List.length_zip, List.length_nil] at lm
  refine ⟨fun e he => ?_, h.vals.merge (AllIn.all (k := []) (fun _ z => nomatch z) (fun p hp => hS _ _ h1 _ (zip_in hp)) h3), fun t ht => ?_, fun t x e => ?_, ?_, ?_⟩
  · rcases List.mem_append.mp he with he | he
    · exact h.rows e he
    · rw [List.mem_singleton.mp he]
      exact ⟨_, h1⟩
  · show ∃ x, valV (mergeK f.2 m.2) t = some x
    rw [valV_merge nb]
    rcases List.mem_append.mp ht with ht | ht
    · obtain ⟨x, hx⟩ := h.bnd t ht
      cases q : valV m.2 t with
      | some y => exact ⟨y, rfl⟩
      | none => exact ⟨x, hx⟩
    · obtain ⟨t1, t2⟩ := List.mem_filter.mp ht
      obtain ⟨v, hv⟩ := mem_zip t1 h2
      rw [mAll_tv OnlyV.nil h3 hv t2]
      exact ⟨_, rfl⟩
  · have e : valV (mergeK f.2 m.2) t = some x := e
    rw [valV_merge nb] at e
    cases q : valV m.2 t with
    | some y => exact ob t y q
    | none =>
      rw [q] at e
      exact h.ov t x e
  · rw [List.length_append]
    exact Nat.add_le_add_right h.l1 1
  · have := length_mergeK m.2 f.2
    have := h.l2
    show (mergeK f.2 m.2).length ≤ _
    omega
theorem flat_len {α β : Type} {g : α → List β} {n : Nat} : ∀ {l : List α}, (∀ x ∈ l, (g x).length ≤ n) → (l.flatMap g).length ≤ l.length * n
  | [], _ => Nat.zero_le _
  | x :: l, h => by
    have h1 := h x (List.mem_cons_self ..)
    have h2 := flat_len (l := l) (fun y hy => h y (List.mem_cons_of_mem _ hy))
    rw [List.flatMap_cons, List.length_append, List.length_cons, Nat.add_mul]
    omega
theorem founds_ok {cs : List (V × CT)} {tb : Str → List RW} {S : List Key} (hS : ∀ z, ∀ e ∈ tb z, ∀ x ∈ e.2, x ∈ S) {N : Nat} (l9 : ∀ z, (tb z).length ≤ N) : ∀ (as : List AT) (ks : List Key) (ini : List FD) (n i : Nat), (∀ f ∈ ini, FOk tb S ks n f) → ini.length ≤ N ^ n → (∀ a ∈ as, a.2.length ≤ 100) → i ≤ as.length →
    (∀ f ∈ foundsK ini ((sdsOf ks cs tb as).take i), FOk tb S (ks ++ bodyV (as.take i)) (n + i) f) ∧ (foundsK ini ((sdsOf ks cs tb as).take i)).length ≤ N ^ (n + i)
  | as, ks, ini, n, 0, h, l, _, _ => ⟨fun f hf => by
      have := h f hf
      rw [show ks ++ bodyV (as.take 0) = ks by rw [List.take_zero]; exact List.append_nil _]
      exact this, l⟩
  | [], _, _, _, _ + 1, _, _, _, li => absurd li (Nat.not_succ_le_zero _)
  | a :: r, ks, ini, n, i + 1, h, l, la, li => by
    have e1 : (sdsOf ks cs tb (a :: r)).take (i + 1) = sdOf ks cs tb a :: (sdsOf (ks ++ varsK a.2) cs tb r).take i := rfl
    rw [e1]
    show (∀ f ∈ foundsK (ini.flatMap (nextK (sdOf ks cs tb a))) ((sdsOf (ks ++ varsK a.2) cs tb r).take i), _) ∧ (foundsK (ini.flatMap (nextK (sdOf ks cs tb a))) ((sdsOf (ks ++ varsK a.2) cs tb r).take i)).length ≤ _
    have ih := founds_ok (cs := cs) hS l9 r (ks ++ varsK a.2) (ini.flatMap (nextK (sdOf ks cs tb a))) (n + 1) i (fun g hg => ?_) ?_ (fun b hb => la b (List.mem_cons_of_mem _ hb)) (Nat.le_of_succ_le_succ li)
    · rw [show n + (i + 1) = n + 1 + i by omega, show ks ++ bodyV ((a :: r).take (i + 1)) = ks ++ varsK a.2 ++ bodyV (r.take i) by rw [List.append_assoc]; rfl]
      exact ih
    · obtain ⟨f, hf, hg⟩ := List.mem_flatMap.mp hg
      obtain ⟨m1, hm1, rfl⟩ := List.mem_map.mp hg
      obtain ⟨m, hm, rfl⟩ := List.mem_map.mp (List.mem_filter.mp hm1).1
      exact (h f hf).more hS (la a (List.mem_cons_self ..)) hm
    · refine Nat.le_trans (flat_len (n := N) fun f _ => Nat.le_trans (next_len _ f) (l9 a.1)) ?_
      rw [Nat.pow_succ]
      exact Nat.mul_le_mul_right N l
theorem sds_at {cs : List (V × CT)} {tb : Str → List RW} : ∀ {as : List AT} {ks : List Key} {i : Nat} {d : SD}, (sdsOf ks cs tb as)[i]? = some d → ∃ a, as[i]? = some a ∧ d = sdOf (ks ++ bodyV (as.take i)) cs tb a
  | [], _, _, _, h => by
    have h : ([] : List SD)[_]? = some _ := h
    simp at h
  | a :: r, ks, 0, d, h => by
    have h : some (sdOf ks cs tb a) = some d := h
    injection h with h
    refine ⟨a, rfl, ?_⟩
    rw [← h]
    show sdOf ks cs tb a = sdOf (ks ++ []) cs tb a
    rw [List.append_nil]
  | a :: r, ks, i + 1, d, h => by
    obtain ⟨b, h1, h2⟩ := sds_at (as := r) (ks := ks ++ varsK a.2) (i := i) (d := d) h
    refine ⟨b, h1, ?_⟩
    rw [h2, List.append_assoc]
    rfl
theorem ini_ok (tb : Str → List RW) (S : List Key) (cs : List CT) : (∀ f ∈ iniK cs, FOk tb S [] 0 f) ∧ (iniK cs).length ≤ 1 := by
  unfold iniK
  split
  · refine ⟨fun f hf => ?_, Nat.le_refl _⟩
    rw [List.mem_singleton.mp hf]
    exact ⟨(fun _ z => nomatch z), (fun _ z => nomatch z), (fun _ z => nomatch z), OnlyV.nil, Nat.le_refl _, Nat.le_refl _⟩
  · exact ⟨(fun _ z => nomatch z), Nat.zero_le _⟩
theorem hok_of {S ks : List Key} {k : List (Key × V)} {e : CT} (ai : AllIn S k) (oS : ∀ u ∈ S, OkK u) (ov : OnlyV k) (bnd : ∀ t ∈ ks, ∃ x, valV k t = some x) (c : chK ks e = true) (h1 : txtK capS e.2.1 = true ∨ OkK e.2.1) (h2 : txtK capS e.2.2 = true ∨ OkK e.2.2) : HOk k e := by
  have side : ∀ t ∈ ([e.2.1, e.2.2] : List Key), (txtK capS t = true ∨ OkK t) → ∃ u, Wy.tv k t = kV u ∧ OkK u := fun t ht o => by
    by_cases v : txtK capS t = true
    · obtain ⟨x, hx⟩ := bnd t (inK_iff.mp (List.all_eq_true.mp c t (List.mem_filter.mpr ⟨ht, v⟩)))
      obtain ⟨u, hu, e1⟩ := ai.tv hx
      exact ⟨u, e1, oS u hu⟩
    · exact ⟨t, tv_none ov v, o.resolve_left v⟩
  obtain ⟨u, u1, u2⟩ := side _ (List.mem_cons_self ..) h1
  obtain ⟨v, v1, v2⟩ := side _ (List.mem_cons_of_mem _ (List.mem_cons_self ..)) h2
  exact ⟨u, v, u1, v1, u2, v2⟩
end Wy
namespace Wy
open PySem L2
def rwD (e : RW) : PyData := .tuple (e.2.map keyD)
def usD (us : List RW) : PyData := .tuple (us.map rwD)
def fdD (h : List Key) (us : List RW) : PyData := .tuple [.tuple (h.map keyD), usD us]
theorem dats_map {α : Type} {K : PySem.W.Frag} {H : Hp} {f : α → PyData} {g : α → V} : ∀ {l : List α}, (∀ x ∈ l, Dat K H (f x) (g x)) → Dats K H (l.map f) (l.map g)
  | [], _ => .nil
  | x :: l, h => .cons (h x (List.mem_cons_self ..)) (dats_map fun y hy => h y (List.mem_cons_of_mem _ hy))
theorem dat_row {K : PySem.W.Frag} {H : Hp} {e : RW} (h : RowV K H e) (o : ∀ u ∈ e.2, TxOk u) : Dat K H (rwD e) e.1 := by
  obtain ⟨p, e1, h1⟩ := h
  rw [e1]
  exact .tup h1 (dats_tx o)
theorem paired_dats {β : Type} {K : PySem.W.Frag} {H : Hp} {F : V → β → Prop} {g : β → PyData} : ∀ {xs : List V} {fs : List β}, Paired F xs fs → (∀ x f, f ∈ fs → F x f → Dat K H (g f) x) → Dats K H (fs.map g) xs
  | _, _, .nil, _ => .nil
  | _, _, .cons a r, h => .cons (h _ _ (List.mem_cons_self ..) a) (paired_dats r fun x f hf => h x f (List.mem_cons_of_mem _ hf))
theorem depth_rows (us : List RW) : PyData.depthAll (us.map rwD) ≤ 1 := by
  induction us with
  | nil => exact Nat.zero_le _
  | cons e r ih =>
    have := depth_tx e.2
    show max (PyData.depthAll (e.2.map keyD) + 1) (PyData.depthAll (r.map rwD)) ≤ 1
    omega
theorem depth_fd (h : List Key) (us : List RW) : (fdD h us).depth ≤ 3 := by
  have h1 := depth_tx h
  have h2 := depth_rows us
  show max (PyData.depthAll (h.map keyD) + 1) (max (PyData.depthAll (us.map rwD) + 1) 0) + 1 ≤ 3
  omega
theorem depth_fds {α : Type} {f : α → PyData} {n : Nat} : ∀ {l : List α}, (∀ x ∈ l, (f x).depth ≤ n) → PyData.depthAll (l.map f) ≤ n
  | [], _ => Nat.zero_le _
  | x :: l, h => by
    have h1 := h x (List.mem_cons_self ..)
    have h2 := depth_fds (l := l) fun y hy => h y (List.mem_cons_of_mem _ hy)
    show max (f x).depth (PyData.depthAll (l.map f)) ≤ n
    omega
theorem ahead_le {n : Nat} : ∀ {as : List AT}, (∀ a ∈ as, a.2.length ≤ n) → (aheadS [] as).length ≤ as.length * n
  | [], _ => Nat.zero_le _
  | a :: r, h => by
    have h1 := ahead_le (as := r) fun b hb => h b (List.mem_cons_of_mem _ hb)
    have h2 := h a (List.mem_cons_self ..)
    have h3 : (varsS a.2).length ≤ a.2.length := by
      unfold varsS
      rw [List.length_map]
      exact varsK_len a.2
    show ([] ++ (varsS a.2 ++ r.flatMap fun a : AT => varsS a.2)).length ≤ (r.length + 1) * n
    have h4 : (r.flatMap fun a : AT => varsS a.2).length ≤ r.length * n := h1
    rw [List.nil_append, List.length_append, Nat.add_mul]
    omega
theorem sds_len {cs : List (V × CT)} {tb : Str → List RW} : ∀ {as : List AT} {ks : List Key}, (sdsOf ks cs tb as).length = as.length
  | [], _ => rfl
  | a :: r, ks => by
    show (sdsOf (ks ++ varsK a.2) cs tb r).length + 1 = r.length + 1
    rw [sds_len]
end Wy
namespace Wy
open PySem L2
theorem cat_ones (ds : List Nat) : (catS (ds.map fun d => (⟨#[d]⟩ : Str))).cps.toList = ds := by
  unfold catS
  rw [List.toList_toArray, List.flatMap_map]
  induction ds with
  | nil => rfl
  | cons d r ih => rw [List.flatMap_cons, ih]; rfl
theorem sum_ones (ds : List Nat) : ((ds.map fun d => (⟨#[d]⟩ : Str)).map (·.length)).sum = ds.length := by
  induction ds with
  | nil => rfl
  | cons d r ih => rw [List.map_cons, List.map_cons, List.sum_cons, ih, List.length_cons]; show 1 + r.length = _; omega
theorem cap_app {c b : Str} {x : Nat} (e : c.cps.toList = [x]) (hx : x ∈ capS.cps.toList) (hb : Wz 11 b) : txtB capS (c ++ b) = true := by
  have lc : c.length = 1 := by rw [← len_list, e]; rfl
  have ll : (c ++ b).length = 1 + b.length := by rw [len_app, lc]
  rw [txtB_ok (by omega) (by have := hb.1; omega), app_list, e]
  show (decide (x ∈ capS.cps.toList) && b.cps.toList.all fun d => decide (d ∈ fur.cps.toList)) = true
  rw [decide_eq_true hx, Bool.true_and, List.all_eq_true]
  exact fun d hd => decide_eq_true (hb.2 d hd)
def lateS : Str := "q7wz3"
theorem late_fur : ∀ c ∈ lateS.cps.toList, c ∈ fur.cps.toList := by decide +kernel
theorem late_len : lateS.cps.toList.length = 5 := by decide +kernel
theorem late_at (x : Int) : ∃ c, atI lateS.cps.toList (x % 5) = some c ∧ c ∈ fur.cps.toList := by
  obtain ⟨c, h1, h2⟩ := atI_in (xs := lateS.cps.toList) (i := x % 5) (Int.emod_nonneg _ (by decide)) (by rw [late_len]; exact Int.emod_lt_of_pos x (by decide))
  exact ⟨c, h1, late_fur c h2⟩
section
variable {P : Program} {w : World} {K : PySem.W.Frag} {mg : Str → Option Value} {base : Heap}
def sp_marks : Sp := fun vs H Q _ => ∃ c : Int, vs = [.int c] ∧ ∀ (p : Addr) (ms : List Str) (H' : Hp), Same H H' → H' p = some (.lst (ms.map V.str)) → ms.length = 4 → (∀ z ∈ ms, txtB capS z = true) → Q (.ref p) H'
theorem ok__law_marks (T : Txt K mg) : Def P w K mg base 1 "_law_marks" ["_law_cell"] sp_marks := by
  refine T.t__law_marks.ok sc__law_marks (fun vs H Q E h => ?_) fun f cdv A outer s H vs Q E hr h => ?_
  · obtain ⟨c, rfl, _⟩ := h
    rfl
  · obtain ⟨c, rfl, k⟩ := h
    refine ⟨_, (pss_4
      (ps_set (i := 1) sc__law_marks.nd rfl (Or.inr rfl) pe_str)
      (ps_set (i := 2) sc__law_marks.nd rfl (Or.inl rfl) (pe_bm PySem.F.plainAttrs_str PySem.F.slot_str_join PySem.F.type_str_join (mt_joinK K) pe_str (pa_1 (pe_comp (N := ["_law_k", "_law_later", "_law_cell"]) (caps := [none, some 1, some 0]) rfl (by with_unfolding_all rfl) (pi_range1 rfl T.b_range (pa_1 (pe_op op_mod (pv 0) pe_int))) (fun _ _ _ _ _ => (pg_name (i := 0) (show (["_law_k", "_law_later", "_law_cell"] : List Str).Nodup by decide +kernel) rfl (Or.inl rfl))) (fun _ _ _ _ _ => pf_nil) (fun _ _ _ _ _ => (pe_ix ix_str (pv 1) (pe_op op_mod (pe_op op_fdiv (pv 2) (pe_op op_add (pv 0) pe_int)) pe_int) (fun _ _ => rfl)))))))
      (ps_if (pt_cmpR op_eq (pe_op op_mod (pe_op op_fdiv (pv 0) pe_int) pe_int) pe_int (nomark _)) (pss_one (ps_ret (pe_lst (pa_4 (pe_op op_add_str pe_str (pv 2)) (pe_op op_add_str pe_str (pv 2)) (pe_op op_add_str pe_str (pv 2)) (pe_op op_add_str pe_str (pv 2)))))) pss_nil)
      (ps_ret (pe_lst (pa_4 (pe_op op_add_str pe_str (pv 2)) (pe_op op_add_str (pe_op op_add_str pe_str (pv 2)) pe_str) (pe_op op_add_str (pe_op op_add_str pe_str (pe_slice sl_str (pv 2) po_none (po_some pe_int))) pe_str) (pe_op op_add_str (pe_op op_add_str pe_str (pe_slice sl_str (pv 2) po_none (po_some pe_int))) pe_str))))), ?_⟩
    have m0 := Int.emod_nonneg c (show (11 : Int) ≠ 0 by decide)
    have m1 := Int.emod_lt_of_pos c (show (0 : Int) < 11 by decide)
    refine ⟨rfl, _, rfl, _, _, rfl, rfl, (by show (0 : Int) < 11; decide), _, rfl, by omega, by omega, fun D hD => ?_⟩
    refine comp_by (c % 11).toNat (fun i σ' H' => (∃ v, σ' = [v, some (.str lateS), some (.int c)]) ∧ Same H H' ∧ ∃ ds : List Nat, H' D = some (.lst ((ds.map fun d => (⟨#[d]⟩ : Str)).map V.str)) ∧ ds.length = i ∧ ∀ d ∈ ds, d ∈ fur.cps.toList) ⟨⟨_, rfl⟩, same_upd hD, [], upd_same, rfl, fun _ z => nomatch z⟩ (fun i σ' H' hi p => hi) (fun σ' H' p => ⟨Nat.le_refl _, ?_⟩) (fun i σ' H' hi p x H2 y => ?_)
    · obtain ⟨_, s1, ds, hd, ld, od⟩ := p
      refine ⟨D, ds.map fun d => (⟨#[d]⟩ : Str), rfl, rfl, SqL.of hd, by rw [sum_ones]; omega, ?_⟩
      have ex := cat_ones ds
      generalize catS (ds.map fun d => (⟨#[d]⟩ : Str)) = x at ex
      have lx : x.length = ds.length := by rw [← len_list, ex]
      have wx : Wz 10 x := ⟨by omega, fun c hc => od c (by rw [← ex]; exact hc)⟩
      have w1 := wx.1
      have one : ∀ c : Str, c.length = 1 → c.length + x.length ≤ sizeLine := fun c h => Nat.le_trans (show _ ≤ 100 by omega) (by decide)
      refine ⟨_, rfl, _, _, rfl, rfl, ⟨by decide, by decide⟩, _, _, rfl, rfl, (by show (0 : Int) < 2; decide), rfl, _, rfl, ite2 (fun _ => ?_) (fun _ => ?_)⟩
      · refine ⟨_, rfl, _, _, rfl, rfl, one _ rfl, _, rfl, _, _, rfl, rfl, one _ rfl, _, rfl, _, _, rfl, rfl, one _ rfl, _, rfl, _, _, rfl, rfl, one _ rfl, by show 4 ≤ sizeLine; decide, fun p hp => ?_⟩
        refine k p ["A" ++ x, "B" ++ x, "M" ++ x, "Z" ++ x] _ (s1.trans (same_upd hp)) upd_same rfl fun z hz => ?_
        simp only [List.mem_cons, List.not_mem_nil, or_false] at hz
        rcases hz with rfl | rfl | rfl | rfl
        · exact cap_app (x := 65) (by decide +kernel) (by decide +kernel) (wx.le (by decide))
        · exact cap_app (x := 66) (by decide +kernel) (by decide +kernel) (wx.le (by decide))
        · exact cap_app (x := 77) (by decide +kernel) (by decide +kernel) (wx.le (by decide))
        · exact cap_app (x := 90) (by decide +kernel) (by decide +kernel) (wx.le (by decide))
      · have c5 := (wx.cut none (some 5)).1
        have c4 := (wx.cut none (some 4)).1
        have l1 : ("K" : Str).length = 1 := rfl
        refine ⟨_, rfl, _, _, rfl, rfl, one _ rfl, _, rfl, _, _, rfl, rfl, one _ rfl, _, _, rfl, rfl, Nat.le_trans (show _ ≤ 100 by rw [len_app, l1, show ("0" : Str).length = 1 from rfl]; omega) (by decide), ?_⟩
        have lxs : x.length ≤ sizeLine := Nat.le_trans (show _ ≤ 100 by omega) (by decide)
        refine ⟨_, rfl, _, rfl, x, rfl, lxs, _, _, rfl, rfl, Nat.le_trans (show _ ≤ 100 by rw [show (Str.ofString "K").length = 1 from rfl]; omega) (by decide), _, _, rfl, rfl, Nat.le_trans (show _ ≤ 100 by rw [len_app, show (Str.ofString "K").length = 1 from rfl, show (Str.ofString "yy").length = 2 from rfl]; omega) (by decide), ?_⟩
        refine ⟨_, rfl, _, rfl, x, rfl, lxs, _, _, rfl, rfl, Nat.le_trans (show _ ≤ 100 by rw [show (Str.ofString "K").length = 1 from rfl]; omega) (by decide), _, _, rfl, rfl, Nat.le_trans (show _ ≤ 100 by rw [len_app, show (Str.ofString "K").length = 1 from rfl, show (Str.ofString "xxx").length = 3 from rfl]; omega) (by decide), ?_⟩
        refine ⟨by show 4 ≤ sizeLine; decide, fun p hp => ?_⟩
        refine k p ["K" ++ x, "K" ++ x ++ "0", "K" ++ cutS x none (some 5) ++ "yy", "K" ++ cutS x none (some 4) ++ "xxx"] _ (s1.trans (same_upd hp)) upd_same rfl fun z hz => ?_
        have cut_le : ∀ n : Nat, (cutS x none (some (n : Int))).length ≤ n := fun n => by
          rw [← len_list]
          unfold cutS
          rw [List.toList_toArray, HT.sIx_none, HT.sIx_nat, List.length_take]
          omega
        have k5 : Wz 5 (cutS x none (some 5)) := ⟨cut_le 5, (wx.cut none (some 5)).2⟩
        have k4 : Wz 4 (cutS x none (some 4)) := ⟨cut_le 4, (wx.cut none (some 4)).2⟩
        have wz : ∀ (n : Nat) (t : Str), t.length = n → (∀ c ∈ t.cps.toList, c ∈ fur.cps.toList) → Wz n t := fun n t h1 h2 => ⟨by omega, h2⟩
        simp only [List.mem_cons, List.not_mem_nil, or_false] at hz
        rcases hz with rfl | rfl | rfl | rfl
        · exact cap_app (x := 75) (by decide +kernel) (by decide +kernel) (wx.le (by decide))
        · rw [Str.append_assoc]
          exact cap_app (x := 75) (by decide +kernel) (by decide +kernel) (wx.app (wz 1 "0" rfl (by decide +kernel)))
        · rw [Str.append_assoc]
          exact cap_app (x := 75) (by decide +kernel) (by decide +kernel) ((k5.app (wz 2 "yy" rfl (by decide +kernel))).le (by decide))
        · rw [Str.append_assoc]
          exact cap_app (x := 75) (by decide +kernel) (by decide +kernel) ((k4.app (wz 3 "xxx" rfl (by decide +kernel))).le (by decide))
    · obtain ⟨⟨v, rfl⟩, sm, ds, e, ld, od⟩ := p
      obtain ⟨rfl, rfl⟩ := y
      obtain ⟨d, hd1, hd2⟩ := late_at (c / (0 + (i : Int) + 1))
      refine ⟨_, rfl, _, rfl, _, rfl, _, _, rfl, rfl, _, _, rfl, rfl, ⟨by omega, by omega⟩, _, _, rfl, rfl, (by show (0 : Int) < 5; decide), _, _, d, rfl, rfl, by decide, hd1, ?_⟩
      refine ⟨_, e, ?_, ⟨_, rfl⟩, sm.set hD, ds ++ [d], ?_, ?_, fun q hq => ?_⟩
      · rw [List.length_map, List.length_map, ld]
        exact small1000 (by omega)
      · rw [upd_same, List.map_append, List.map_append]
        rfl
      · rw [List.length_append, ld]
        rfl
      · rcases List.mem_append.mp hq with hq | hq
        · exact od q hq
        · rw [List.mem_singleton.mp hq]
          exact hd2
end
end Wy
namespace Wy
open PySem L2
def RowsOf (K : PySem.W.Frag) (H : Hp) (vs : List Key) (n : Nat) (rs : List RW) : Prop := ∀ e ∈ rs, RowV K H e ∧ e.2.length = n ∧ ∀ x ∈ e.2, x ∈ vs
theorem RowsOf.same {K : PySem.W.Frag} {H H' : Hp} {vs : List Key} {n : Nat} {rs : List RW} (s : Same H H') (h : RowsOf K H vs n rs) : RowsOf K H' vs n rs := fun e he => ⟨(h e he).1.same s, (h e he).2⟩
theorem RowsOf.app {K : PySem.W.Frag} {H : Hp} {vs : List Key} {n : Nat} {rs : List RW} {p : Addr} {ks : List Key} (h : RowsOf K H vs n rs) (hp : SqT K H p (ks.map kV)) (l : ks.length = n) (m : ∀ x ∈ ks, x ∈ vs) : RowsOf K H vs n (rs ++ [(.ref p, ks)]) := fun e he => by
  rcases List.mem_append.mp he with he | he
  · exact h e he
  · rw [List.mem_singleton.mp he]
    exact ⟨⟨p, rfl, hp⟩, l, m⟩
theorem RowsOf.set {K : PySem.W.Frag} {H : Hp} {vs : List Key} {n : Nat} {rs : List RW} {A : Addr} {xs : List V} {o : HO} (h : RowsOf K H vs n rs) (hA : H A = some (.lst xs)) : RowsOf K (upd H A o) vs n rs := fun e he =>
  ⟨(h e he).1.keep (p := A) (fun a q n h => by rw [upd_ne n]; exact h) ⟨_, hA, .inr ⟨_, rfl⟩⟩, (h e he).2⟩
section
variable {P : Program} {w : World} {K : PySem.W.Frag} {mg : Str → Option Value} {base : Heap}
def sp_pairs (K : PySem.W.Frag) : Sp := fun vs H Q _ => ∃ (c : Int) (a : Addr) (ks : List Key), vs = [.int c, .ref a] ∧ SqL K H a (ks.map kV) ∧ ks.length = 3 ∧
  ∀ (p : Addr) (rs : List RW) (H' : Hp), Same H H' → H p = none → H' p = some (.lst (rs.map (·.1))) → RowsOf K H' ks 2 rs → rs.length ≤ 9 → Q (.ref p) H'
theorem ok__law_pairs (T : Txt K mg) : Def P w K mg base 1 "_law_pairs" ["_law_cell", "_law_values_here"] (sp_pairs K) := by
  refine T.t__law_pairs.ok sc__law_pairs (fun vs H Q E h => ?_) fun f cdv A outer s H vs Q E hr h => ?_
  · obtain ⟨c, a, ks, rfl, _⟩ := h
    rfl
  · obtain ⟨c, a, ks, rfl, ha, l3, k⟩ := h
    refine ⟨_, (pss_3
      (ps_set (i := 2) sc__law_pairs.nd rfl (Or.inl rfl) (pe_lst pa_nil))
      (ps_for PassesOwn.never rfl (pi_listK K (pv 1)) (pg_name (i := 3) sc__law_pairs.nd rfl (Or.inl rfl)) (pss_one (ps_for PassesOwn.never rfl (pi_listK K (pv 1)) (pg_name (i := 4) sc__law_pairs.nd rfl (Or.inl rfl)) (pss_2
      (ps_if (pt_cmpR op_eq (pe_op op_mod (pv 0) pe_int) pe_int (nomark _)) (pss_one (ps_expr (pe_bm PySem.F.plainAttrs_list PySem.F.slot_list_append PySem.F.type_list_append mt_append (pv 2) (pa_1 (pe_tup (pa_2 (pv 3) (pv 4))))))) pss_nil)
      (ps_set (i := 0) sc__law_pairs.nd rfl (Or.inl rfl) (pe_op op_fdiv (pv 0) pe_int))))))
      (ps_ret (pv 2))), ?_⟩
    refine ⟨by decide, fun p hp => ?_⟩
    have s1 := same_upd (o := HO.lst []) hp
    refine ⟨_, rfl, a, rfl, ⟨_, s1.seq ha⟩, for_list (xs := ks.map kV) (fun i σ G => ∃ (c : Int) (v3 v4 : Option V) (rs : List RW), σ = [some (.int c), some (.ref a), some (.ref p), v3, v4] ∧ Same H G ∧ G p = some (.lst (rs.map (·.1))) ∧ RowsOf K G ks 2 rs ∧ rs.length ≤ 3 * i) ⟨c, none, none, [], rfl, s1, upd_same, (fun _ z => nomatch z), Nat.le_refl _⟩ (fun i σ G _ z => ?_) ?_ ?_⟩
    · obtain ⟨_, _, _, _, _, z, _⟩ := z
      exact z.seq ha
    · rintro i x σ G hx ⟨c, v3, v4, rs, rfl, sg, hG, ro, lr⟩
      rw [List.getElem?_map] at hx
      obtain ⟨k1, hk1, rfl⟩ := Option.map_eq_some_iff.mp hx
      refine ⟨_, rfl, a, rfl, ⟨_, sg.seq ha⟩, for_list (xs := ks.map kV) (fun j σ G => ∃ (c : Int) (v4 : Option V) (rs : List RW), σ = [some (.int c), some (.ref a), some (.ref p), some (kV k1), v4] ∧ Same H G ∧ G p = some (.lst (rs.map (·.1))) ∧ RowsOf K G ks 2 rs ∧ rs.length ≤ 3 * i + j) ⟨c, v4, rs, rfl, sg, hG, ro, lr⟩ (fun j σ G _ z => ?_) ?_ ?_⟩
      · obtain ⟨_, _, _, _, z, _⟩ := z
        exact z.seq ha
      · rintro j x σ G hx ⟨c, v4, rs, rfl, sg, hG, ro, lr⟩
        rw [List.getElem?_map] at hx
        obtain ⟨k2, hk2, rfl⟩ := Option.map_eq_some_iff.mp hx
        have il := (List.getElem?_eq_some_iff.mp hk1).1
        have jl := (List.getElem?_eq_some_iff.mp hk2).1
        refine ⟨_, rfl, _, _, rfl, rfl, (by show (0 : Int) < 2; decide), rfl, _, rfl, ite2 (fun _ => ?_) (fun _ => ?_)⟩
        · refine ⟨_, rfl, .inl ⟨rfl, _, SqL.of hG⟩, _, rfl, _, rfl, by show 2 ≤ sizeLine; decide, fun q hq => ?_⟩
          have s2 := same_upd (o := HO.tup [kV k1, kV k2]) hq
          have e2 := upd_same (H := G) (a := q) (o := HO.tup [kV k1, kV k2])
          generalize upd G q (.tup [kV k1, kV k2]) = G2 at *
          have hG2 := s2 _ _ hG
          refine ⟨p, _, _, rfl, rfl, hG2, by rw [List.length_map]; exact small1000 (by omega), ?_⟩
          refine ⟨_, rfl, _, _, rfl, rfl, ⟨by decide, by decide⟩, ?_⟩
          refine ⟨_, _, rs ++ [(.ref q, [k1, k2])], rfl, (sg.trans s2).set hp, by rw [upd_same, List.map_append]; rfl, ((ro.same s2).app (p := q) (ks := [k1, k2]) (SqT.of e2) rfl ?_).set hG2, by rw [List.length_append]; show _ + 1 ≤ _; omega⟩
          intro x hx
          simp only [List.mem_cons, List.not_mem_nil, or_false] at hx
          rcases hx with rfl | rfl
          · exact List.mem_of_getElem? hk1
          · exact List.mem_of_getElem? hk2
        · refine ⟨_, rfl, _, _, rfl, rfl, ⟨by decide, by decide⟩, ?_⟩
          exact ⟨_, _, rs, rfl, sg, hG, ro, by omega⟩
      · rintro σ G ⟨c, v4, rs, rfl, sg, hG, ro, lr⟩
        rw [List.length_map, l3] at lr
        exact ⟨c, _, _, rs, rfl, sg, hG, ro, by omega⟩
    · rintro σ G ⟨c, v3, v4, rs, rfl, sg, hG, ro, lr⟩
      rw [List.length_map, l3] at lr
      exact ⟨_, rfl, k p rs G sg hp hG ro (by omega)⟩
end
end Wy
namespace Wy
open PySem L2
section
variable {P : Program} {w : World} {K : PySem.W.Frag} {mg : Str → Option Value} {base : Heap}
def sp_singles (K : PySem.W.Frag) : Sp := fun vs H Q _ => ∃ (c : Int) (a : Addr) (ks : List Key), vs = [.int c, .ref a] ∧ SqL K H a (ks.map kV) ∧ ks.length = 3 ∧
  ∀ (p : Addr) (rs : List RW) (H' : Hp), Same H H' → H p = none → H' p = some (.lst (rs.map (·.1))) → RowsOf K H' ks 1 rs → rs.length ≤ 3 → Q (.ref p) H'
theorem ok__law_singles (T : Txt K mg) : Def P w K mg base 1 "_law_singles" ["_law_cell", "_law_values_here"] (sp_singles K) := by
  refine T.t__law_singles.ok sc__law_singles (fun vs H Q E h => ?_) fun f cdv A outer s H vs Q E hr h => ?_
  · obtain ⟨c, a, ks, rfl, _⟩ := h
    rfl
  · obtain ⟨c, a, ks, rfl, ha, l3, k⟩ := h
    refine ⟨_, (pss_3
      (ps_set (i := 2) sc__law_singles.nd rfl (Or.inl rfl) (pe_lst pa_nil))
      (ps_for PassesOwn.never rfl (pi_range1 rfl T.b_range (pa_1 pe_int)) (pg_name (i := 3) sc__law_singles.nd rfl (Or.inl rfl)) (pss_one (ps_if (pt_cmpR op_eq (pe_op op_mod (pe_op op_fdiv (pv 0) (pe_ix (ix_listK K) (pe_lst (pa_3 pe_int pe_int pe_int)) (pv 3) (fun _ _ => rfl))) pe_int) pe_int (nomark _)) (pss_one (ps_expr (pe_bm PySem.F.plainAttrs_list PySem.F.slot_list_append PySem.F.type_list_append mt_append (pv 2) (pa_1 (pe_tup (pa_1 (pe_ix (ix_listK K) (pv 1) (pv 3) (fun _ _ => rfl)))))))) pss_nil)))
      (ps_ret (pv 2))), ?_⟩
    refine ⟨by decide, fun p hp => ?_⟩
    have s1 := same_upd (o := HO.lst []) hp
    refine ⟨3, rfl, by decide, by decide, ?_⟩
    refine for_range (lo := 0) (n := 3) (fun i σ G => ∃ (v3 : Option V) (rs : List RW), σ = [some (.int c), some (.ref a), some (.ref p), v3] ∧ Same H G ∧ G p = some (.lst (rs.map (·.1))) ∧ RowsOf K G ks 1 rs ∧ rs.length ≤ i) ⟨none, [], rfl, s1, upd_same, (fun _ z => nomatch z), Nat.le_refl _⟩ ?_ ?_
    · rintro i σ G hi ⟨v3, rs, rfl, sg, hG, ro, lr⟩
      obtain ⟨d, hd, d0⟩ : ∃ d : Int, atI [V.int 1, V.int 2, V.int 4] (0 + (i : Int)) = some (V.int d) ∧ CDiv c d := by
        have : i = 0 ∨ i = 1 ∨ i = 2 := by omega
        rcases this with rfl | rfl | rfl
        · exact ⟨1, rfl, by decide, by decide⟩
        · exact ⟨2, rfl, by decide, by decide⟩
        · exact ⟨4, rfl, by decide, by decide⟩
      refine ⟨_, rfl, by show 3 ≤ sizeLine; decide, fun q hq => ?_⟩
      have s2 := same_upd (o := HO.lst [V.int 1, V.int 2, V.int 4]) hq
      refine ⟨_, rfl, _, _, _, _, rfl, rfl, SqL.of upd_same, hd, _, _, rfl, rfl, d0, _, _, rfl, rfl, (by show (0 : Int) < 2; decide), rfl, _, rfl, ite2 (fun _ => ?_) (fun _ => ?_)⟩
      · obtain ⟨e, he, hm⟩ := atI_in (xs := ks.map kV) (i := 0 + (i : Int)) (by omega) (by rw [List.length_map, l3]; omega)
        obtain ⟨k1, hk1, rfl⟩ := List.mem_map.mp hm
        have sg2 := sg.trans s2
        refine ⟨_, rfl, .inl ⟨rfl, _, SqL.of (s2 _ _ hG)⟩, _, rfl, _, rfl, _, _, _, _, rfl, rfl, sg2.seq ha, he, by show 1 ≤ sizeLine; decide, fun q2 hq2 => ?_⟩
        have s3 := same_upd (o := HO.tup [kV k1]) hq2
        have e3 := upd_same (H := upd G q (.lst [V.int 1, V.int 2, V.int 4])) (a := q2) (o := HO.tup [kV k1])
        generalize upd (upd G q (.lst [V.int 1, V.int 2, V.int 4])) q2 (.tup [kV k1]) = G3 at *
        have hG3 := (s2.trans s3) _ _ hG
        refine ⟨p, _, _, rfl, rfl, hG3, by rw [List.length_map]; exact small1000 (by omega), ?_⟩
        refine ⟨_, rs ++ [(.ref q2, [k1])], rfl, (sg2.trans s3).set hp, by rw [upd_same, List.map_append]; rfl, ((ro.same (s2.trans s3)).app (p := q2) (ks := [k1]) (SqT.of e3) rfl ?_).set hG3, by rw [List.length_append]; show _ + 1 ≤ _; omega⟩
        intro x hx
        rw [List.mem_singleton.mp hx]
        exact hk1
      · exact ⟨_, rs, rfl, sg.trans s2, s2 _ _ hG, ro.same s2, by omega⟩
    · rintro σ G ⟨v3, rs, rfl, sg, hG, ro, lr⟩
      exact ⟨_, rfl, k p rs G sg hp hG ro lr⟩
end
end Wy
namespace Wy
open PySem L2
section
variable {P : Program} {w : World} {K : PySem.W.Frag} {mg : Str → Option Value} {base : Heap}
def sp_term (K : PySem.W.Frag) : Sp := fun vs H Q _ => ∃ (c : Int) (a b : Addr) (ms ks : List Key), vs = [.int c, .ref a, .ref b] ∧ SqL K H a (ms.map kV) ∧ SqL K H b (ks.map kV) ∧ ks.length = 3 ∧ ms.length ≤ 1000 ∧ (∀ t ∈ ms, TxOk t) ∧
  ∀ (t : Key) (H' : Hp), Same H H' → (t ∈ ms ∨ t ∈ ks) → Q (kV t) H'
theorem ok__law_term (T : Txt K mg) : Def P w K mg base 1 "_law_term" ["_law_cell", "_law_marks_here", "_law_values_here"] (sp_term K) := by
  refine T.t__law_term.ok sc__law_term (fun vs H Q E h => ?_) fun f cdv A outer s H vs Q E hr h => ?_
  · obtain ⟨c, a, b, ms, ks, rfl, _⟩ := h
    rfl
  · obtain ⟨c, a, b, ms, ks, rfl, ha, hb, l3, lm, om, k⟩ := h
    refine ⟨_, (pss_3
      (ps_set (i := 3) sc__law_term.nd rfl (Or.inl rfl) (pe_op op_mod (pv 0) pe_int))
      (ps_if (PW.pt (pw_and (pt_cmpR op_lt (pv 3) pe_int (nomark _)) (pw_and1 (pt_cmpR (op_neD hr.units K) (pv 1) (pe_lst pa_nil) (nomark _))))) (pss_one (ps_ret (pe_ix (ix_listK K) (pv 1) (pe_op op_mod (pe_ix (ix_listK K) (pe_lst (pa_7 pe_int pe_int pe_int pe_int pe_int pe_int pe_int)) (pv 3) (fun _ _ => rfl)) (pe_callB (call_lenK K) rfl T.b_len bt_len (pa_1 (pv 1)))) (fun _ _ => rfl)))) pss_nil)
      (ps_ret (pe_ix (ix_listK K) (pv 2) (pe_op op_mod (pe_op op_fdiv (pv 0) pe_int) pe_int) (fun _ _ => rfl)))), ?_⟩
    refine ⟨_, rfl, _, _, rfl, rfl, (by show (0 : Int) < 9; decide), ?_⟩
    obtain ⟨y, hy, my⟩ := atI_in (xs := ks.map kV) (i := c / 9 % 3) (Int.emod_nonneg _ (by decide)) (by rw [List.length_map, l3]; exact Int.emod_lt_of_pos _ (by decide))
    obtain ⟨ky, hky, rfl⟩ := List.mem_map.mp my
    have w0 := Int.emod_nonneg c (show (9 : Int) ≠ 0 by decide)
    refine ⟨_, rfl, _, _, rfl, rfl, _, rfl, ite2 (fun h1 => ?_) (fun h1 => ?_)⟩
    · refine ⟨_, rfl, by decide, fun q hq => ?_⟩
      have s1 := same_upd (o := HO.lst []) hq
      refine ⟨.list (ms.map keyD), .list [], .lst (s1.seq ha) (dats_tx om), .lst (SqL.of upd_same) .nil, ?_, _, rfl, ite2 (fun h2 => ?_) (fun h2 => ?_)⟩
      · have := depth_tx ms
        show PyData.depthAll (ms.map keyD) + 1 ≤ 60
        omega
      · have w7 : c % 9 < 7 := of_decide_eq_true h1
        have nm : 0 < ms.length := by
          cases ms with
          | nil => exact absurd h2 Bool.false_ne_true
          | cons a r => exact Nat.succ_pos _
        obtain ⟨n, hn⟩ : ∃ n : Int, atI [V.int 0, V.int 1, V.int 2, V.int 0, V.int 1, V.int 3, V.int 2] (c % 9) = some (V.int n) := by
          have : c % 9 = 0 ∨ c % 9 = 1 ∨ c % 9 = 2 ∨ c % 9 = 3 ∨ c % 9 = 4 ∨ c % 9 = 5 ∨ c % 9 = 6 := by omega
          rcases this with e | e | e | e | e | e | e <;> rw [e] <;> exact ⟨_, rfl⟩
        obtain ⟨x, hx, mx⟩ := atI_in (xs := ms.map kV) (i := n % (ms.length : Int)) (Int.emod_nonneg _ (by omega)) (by rw [List.length_map]; exact Int.emod_lt_of_pos _ (by omega))
        obtain ⟨kx, hkx, rfl⟩ := List.mem_map.mp mx
        refine ⟨_, rfl, by show 7 ≤ sizeLine; decide, fun q2 hq2 => ?_⟩
        have s2 := same_upd (o := HO.lst [V.int 0, V.int 1, V.int 2, V.int 0, V.int 1, V.int 3, V.int 2]) hq2
        have s12 := s1.trans s2
        refine ⟨_, rfl, _, _, _, _, rfl, rfl, SqL.of upd_same, hn, _, rfl, _, _, rfl, .inl ⟨_, s12.seq ha, rfl⟩, _, _, rfl, rfl, (by rw [List.length_map]; show (0 : Int) < ms.length; omega), _, _, _, _, rfl, rfl, s12.seq ha, ?_, k kx _ s12 (.inl hkx)⟩
        rw [List.length_map]
        exact hx
      · exact ⟨_, rfl, _, rfl, _, _, rfl, rfl, ⟨by decide, by decide⟩, _, _, rfl, rfl, (by show (0 : Int) < 3; decide), _, _, _, _, rfl, rfl, s1.seq hb, hy, k ky _ s1 (.inr hky)⟩
    · exact ⟨_, rfl, _, rfl, _, _, rfl, rfl, ⟨by decide, by decide⟩, _, _, rfl, rfl, (by show (0 : Int) < 3; decide), _, _, _, _, rfl, rfl, hb, hy, k ky _ (Same.refl H) (.inr hky)⟩
end
end Wy
namespace Wy
open PySem L2
theorem zips_at : ∀ {as : List AT} {us : List RW} {i : Nat} {a : AT} {e : RW}, as[i]? = some a → us[i]? = some e → ∃ r, zipsK as us = zipsK (as.take i) (us.take i) ++ (a.2.zip e.2 ++ r) ∧ zipsK (as.take (i + 1)) (us.take (i + 1)) = zipsK (as.take i) (us.take i) ++ a.2.zip e.2
  | [], _, _, _, _, h, _ => by simp at h
  | _ :: _, [], _, _, _, _, h => by simp at h
  | a :: as, e :: us, 0, a', e', h, g => by
    simp only [List.getElem?_cons_zero, Option.some.injEq] at h g
    subst h g
    exact ⟨zipsK as us, rfl, by show a.2.zip e.2 ++ zipsK [] [] = [] ++ a.2.zip e.2; exact List.append_nil _⟩
  | a :: as, e :: us, i + 1, a', e', h, g => by
    obtain ⟨r, h1, h2⟩ := zips_at (as := as) (us := us) (i := i) (by simpa using h) (by simpa using g)
    refine ⟨r, ?_, ?_⟩
    · show a.2.zip e.2 ++ zipsK as us = a.2.zip e.2 ++ zipsK (as.take i) (us.take i) ++ _
      rw [h1, List.append_assoc]
    · show a.2.zip e.2 ++ zipsK (as.take (i + 1)) (us.take (i + 1)) = a.2.zip e.2 ++ zipsK (as.take i) (us.take i) ++ _
      rw [h2, List.append_assoc]
section
variable {P : Program} {w : World} {K : PySem.W.Frag} {mg : Str → Option Value} {base : Heap}
def sp_bind (K : PySem.W.Frag) : Sp := fun vs H Q _ => ∃ (b u a : Addr) (as : List (V × AT)) (us : List RW) (ms : List Key), vs = [.ref b, .ref u, .ref a] ∧ SqT K H b (as.map (·.1)) ∧ (∀ e ∈ as, AGood H e) ∧ SqT K H u (us.map (·.1)) ∧ (∀ e ∈ us, RowV K H e) ∧ us.length = as.length ∧ as.length ≤ 100 ∧ H a = some (.lst (ms.map kV)) ∧ (∀ t ∈ ms, TxOk t) ∧
  (∀ e ∈ as, ∀ t ∈ e.2.2, inK ms t = txtK capS t) ∧
  (mAll [] (zipsK (as.map (·.2)) us) = none → ∀ H', Same H H' → Q .non H') ∧
  ∀ (bk : List (Key × V)) (q : Addr) (H' : Hp), mAll [] (zipsK (as.map (·.2)) us) = some bk → Same H H' → H' q = some (.dK bk) → Q (.ref q) H'
theorem ok__law_binding (T : Txt K mg) : Def P w K mg base 1 "_law_binding" ["_law_body", "_law_used", "_law_marks_here"] (sp_bind K) := by
  refine T.t__law_binding.ok sc__law_binding (fun vs H Q E h => ?_) fun f cdv A outer s H vs Q E hr h => ?_
  · obtain ⟨b, u, a, as, us, ms, rfl, _⟩ := h
    rfl
  · obtain ⟨b, u, a, as, us, ms, rfl, hb, gd, hu, hus, lu, la, ha, oms, hms, kn, ks⟩ := h
    refine ⟨_, (pss_3
      (ps_set (i := 3) sc__law_binding.nd rfl (Or.inl rfl) pe_dnewK)
      (ps_for PassesOwn.never rfl (pi_range1 rfl T.b_range (pa_1 (pe_callB (call_lenK K) rfl T.b_len bt_len (pa_1 (pv 0))))) (pg_name (i := 4) sc__law_binding.nd rfl (Or.inl rfl)) (pss_one (ps_for PassesOwn.never rfl (pi_zip K rfl T.b_zip (pa_2 (pe_ix (ix_tupK K) (pe_ix (ix_tupK K) (pv 0) (pv 4) (fun _ _ => rfl)) pe_int (fun _ _ => rfl)) (pe_ix (ix_tupK K) (pv 1) (pv 4) (fun _ _ => rfl)))) (pg_tup rfl (pgs_cons (pg_name (i := 5) sc__law_binding.nd rfl (Or.inl rfl)) (pgs_cons (pg_name (i := 6) sc__law_binding.nd rfl (Or.inl rfl)) pgs_nil))) (pss_2
      (ps_if (PW.pt (pw_and (pt_cmpR (op_notInD hr.units K) (pv 5) (pv 2) (by with_unfolding_all rfl)) (pw_and1 (pt_cmpR op_ne (pv 5) (pv 6) (nomark _))))) (pss_one (ps_ret pe_non)) pss_nil)
      (ps_if (PW.pt (pw_and (pt_cmpR (op_inLD hr.units K) (pv 5) (pv 2) (by with_unfolding_all rfl)) (pw_and1 (pt_cmpR op_ne (pe_dsetd (pv 3) (pv 5) (pv 6) ⟨rfl, rfl, rfl, rfl⟩) (pv 6) (nomark _))))) (pss_one (ps_ret pe_non)) pss_nil)))))
      (ps_ret (pv 3))), ?_⟩
    refine fun q hq => ?_
    have s1 := same_upd (o := HO.dK []) hq
    refine ⟨_, rfl, _, _, rfl, .inr ⟨_, s1.seqT hb, rfl⟩, _, rfl, by omega, by rw [List.length_map]; omega, ?_⟩
    refine for_range (lo := 0) (n := ((as.map (·.1)).length : Int).toNat) (fun i σ G => ∃ (v4 v5 v6 : Option V) (k : List (Key × V)), σ = [some (.ref b), some (.ref u), some (.ref a), some (.ref q), v4, v5, v6] ∧ Same H G ∧ G q = some (.dK k) ∧ mAll [] (zipsK ((as.map (·.2)).take i) (us.take i)) = some k ∧ k.length ≤ 100 * i) ⟨none, none, none, [], rfl, s1, upd_same, by simp [zipsK, mAll], Nat.le_refl _⟩ ?_ ?_
    · rintro i σ G hi0 ⟨v4, v5, v6, k, rfl, sg, hG, hm, lk⟩
      have hi : i < as.length := by rw [List.length_map] at hi0; omega
      obtain ⟨e, hei⟩ : ∃ e, as[i]? = some e := ⟨_, List.getElem?_eq_getElem hi⟩
      obtain ⟨w1, hwi⟩ : ∃ w1, us[i]? = some w1 := ⟨_, List.getElem?_eq_getElem (by omega)⟩
      have ge := gd e (List.mem_of_getElem? hei)
      obtain ⟨pe, qe, ee, hpe, hqe⟩ := ge.at_
      obtain ⟨pw, ew, hpw⟩ := hus w1 (List.mem_of_getElem? hwi)
      have hei2 : (as.map (·.2))[i]? = some e.2 := by rw [List.getElem?_map, hei]; rfl
      obtain ⟨rest, z1, z2⟩ := zips_at hei2 hwi
      have ae : atI (as.map (·.1)) (0 + (i : Int)) = some (.ref pe) := by
        rw [show (0 + (i : Int) : Int) = ((i : Nat) : Int) by omega]
        exact atI_nat (j := i) (by rw [List.getElem?_map, hei]; exact congrArg some ee)
      have au : atI (us.map (·.1)) (0 + (i : Int)) = some (.ref pw) := by
        rw [show (0 + (i : Int) : Int) = ((i : Nat) : Int) by omega]
        exact atI_nat (j := i) (by rw [List.getElem?_map, hwi]; exact congrArg some ew)
      generalize zipsK ((as.map (·.2)).take i) (us.take i) = Z at *
      refine ⟨_, rfl, _, rfl, _, _, _, _, rfl, rfl, sg.seqT hb, ae, _, _, _, _, rfl, rfl, SqT.of (sg _ _ hpe), atI_nat (j := 1) rfl, _, rfl, _, rfl, _, _, _, _, rfl, rfl, sg.seqT hu, au, qe, pw, rfl, ⟨_, SqT.of (sg _ _ hqe)⟩, ⟨_, sg.seqT hpw⟩, ?_⟩
      have lz : (e.2.2.zip w1.2).length ≤ 100 := by
        rw [List.length_zip]
        have := ge.len
        omega
      refine for_zip (K := K) (xs := e.2.2.map kV) (ys := w1.2.map kV) (fun j σ F => ∃ (v5 v6 : Option V) (k : List (Key × V)), σ = [some (.ref b), some (.ref u), some (.ref a), some (.ref q), some (.int (0 + (i : Int))), v5, v6] ∧ Same H F ∧ F q = some (.dK k) ∧ mAll [] (Z ++ (e.2.2.zip w1.2).take j) = some k ∧ k.length ≤ 100 * i + j) ⟨v5, v6, k, rfl, sg, hG, by rw [List.take_zero, List.append_nil]; exact hm, lk⟩ (fun j σ F _ z => ?_) ?_ ?_
      · obtain ⟨_, _, _, _, z, _⟩ := z
        exact ⟨SqT.of (z _ _ hqe), z.seqT hpw⟩
      · rintro j x y pp σ F hx hy hpp ⟨v5, v6, k, rfl, sf0, hF0, hm, lk⟩
        rw [List.getElem?_map] at hx hy
        obtain ⟨t, ht, rfl⟩ := Option.map_eq_some_iff.mp hx
        obtain ⟨v, hv, rfl⟩ := Option.map_eq_some_iff.mp hy
        have hzip : (e.2.2.zip w1.2)[j]? = some (t, v) := by rw [List.getElem?_zip_eq_some]; exact ⟨ht, hv⟩
        have jl := (List.getElem?_eq_some_iff.mp hzip).1
        have nx : mAll [] (Z ++ (e.2.2.zip w1.2).take (j + 1)) = mStep k t v := by
          rw [List.take_succ, hzip, ← List.append_assoc, mAll_app, hm]
          show (mStep k t v).bind (fun k => some k) = _
          cases mStep k t v <;> rfl
        have stop : mStep k t v = none → mAll [] (zipsK (as.map (·.2)) us) = none := fun h => by
          have e1 : zipsK (as.map (·.2)) us = (Z ++ (e.2.2.zip w1.2).take (j + 1)) ++ ((e.2.2.zip w1.2).drop (j + 1) ++ rest) := by
            rw [z1, List.append_assoc, ← List.append_assoc ((e.2.2.zip w1.2).take (j + 1)), List.take_append_drop]
          rw [e1, mAll_app, nx, h]
          rfl
        have s3 := same_upd (o := HO.tup [kV t, kV v]) hpp
        refine ⟨pp, _, rfl, SqT.of upd_same, rfl, _, _, rfl, _, _, rfl, rfl, ?_⟩
        have sf := sf0.trans s3
        have hF := s3 _ _ hF0
        generalize upd F pp (.tup [kV t, kV v]) = F3 at *
        have ot := ge.ok t (List.mem_of_getElem? ht)
        have ov : OnlyV k := OnlyV.nil.all hm
        have ak : AllK k := AllK.all (kvs := []) (fun _ z => nomatch z) hm
        have hin := hms e (List.mem_of_getElem? hei) t (List.mem_of_getElem? ht)
        have da := fun {F} (s : Same H F) => (Dat.lst (K := K) (SqL.of (s _ _ ha)) (dats_tx oms) : Dat K F (.list (ms.map keyD)) (.ref a))
        have dd := Nat.le_trans (depth_tx ms) (show 0 ≤ 60 by decide)
        refine ⟨_, rfl, _, rfl, keyD t, ms.map keyD, dat_tx ot, da sf, dd, ?_⟩
        rw [any_tx, hin]
        by_cases c : txtK capS t = true
        · rw [c] at hin ⊢
          refine ⟨_, rfl, iteFb rfl ?_⟩
          refine ⟨_, rfl, _, rfl, keyD t, ms.map keyD, dat_tx ot, da sf, dd, ?_⟩
          rw [any_tx, hin]
          refine ⟨_, rfl, iteTb rfl ?_⟩
          refine ⟨_, rfl, q, rfl, .inl ⟨_, .inl hF⟩, _, rfl, _, rfl, k, t, hF, rfl, Nat.lt_of_lt_of_le (show k.length < 20000 by omega) (by decide), fun x ex => ?_, fun en => ?_⟩
          · obtain ⟨j2, ej⟩ := ak _ (val_in ex)
            have ej : x = kV j2 := ej
            subst ej
            have mp : mPut k t v = k := if_neg (fun z => by rw [ex] at z; exact nomatch z.2)
            have mt : (valV (mPut k t v) t).getD (kV t) = kV j2 := by rw [mp, ex]; rfl
            refine ⟨_, rfl, scal_kV j2 v, _, rfl, ite2 (fun h2 => ?_) (fun h2 => ?_)⟩
            · refine kn (stop ?_) _ sf
              unfold mStep
              rw [mt, if_neg]
              intro e9
              rw [decide_eq_true e9] at h2
              cases h2
            · refine ⟨_, _, k, rfl, sf, hF, ?_, by omega⟩
              rw [nx]
              unfold mStep
              rw [mt, mp, if_pos]
              by_cases e9 : kV j2 = kV v
              · exact e9
              · exact absurd (by rw [decide_eq_false e9]; rfl) h2
          · have mp : mPut k t v = putK k t (kV v) := if_pos ⟨c, en⟩
            refine ⟨_, rfl, scal_kV v v, _, rfl, iteFb (by rw [decide_eq_true rfl]; rfl) ?_⟩
            refine ⟨_, _, putK k t (kV v), rfl, sf.set hq, upd_same, ?_, by have := length_putK k t (kV v); omega⟩
            rw [nx]
            unfold mStep
            rw [mp, valV_put, if_pos rfl]
            exact if_pos rfl
        · have c' : txtK capS t = false := by cases z : txtK capS t with | true => exact absurd z c | false => rfl
          rw [c'] at hin ⊢
          refine ⟨_, rfl, iteTb rfl ?_⟩
          have mp : mPut k t v = k := if_neg (fun z => c z.1)
          have mt : (valV (mPut k t v) t).getD (kV t) = kV t := by rw [mp]; exact tv_none ov c
          refine ⟨_, rfl, _, rfl, scal_kV t v, _, rfl, ite2 (fun h2 => ?_) (fun h2 => ?_)⟩
          · refine kn (stop ?_) _ sf
            unfold mStep
            rw [mt, if_neg]
            intro e9
            rw [decide_eq_true e9] at h2
            cases h2
          · refine ⟨_, rfl, _, rfl, keyD t, ms.map keyD, dat_tx ot, da sf, dd, ?_⟩
            rw [any_tx, hin]
            refine ⟨_, rfl, iteFb rfl ?_⟩
            refine ⟨_, _, k, rfl, sf, hF, ?_, by omega⟩
            rw [nx]
            unfold mStep
            rw [mt, mp, if_pos]
            by_cases e9 : kV t = kV v
            · exact e9
            · exact absurd (by rw [decide_eq_false e9]; rfl) h2
      · rintro σ F ⟨v5, v6, k, rfl, sf, hF, hm, lk⟩
        rw [List.length_map, List.length_map, List.take_of_length_le (by rw [List.length_zip]; exact Nat.le_refl _), ← z2] at hm
        refine ⟨_, _, _, k, rfl, sf, hF, hm, ?_⟩
        rw [List.length_map, List.length_map, ← List.length_zip] at lk
        omega
    · rintro σ G ⟨v4, v5, v6, k, rfl, sg, hG, hm, lk⟩
      have el : ((as.map (·.1)).length : Int).toNat = as.length := by rw [List.length_map]; omega
      rw [el, List.take_of_length_le (by rw [List.length_map]; exact Nat.le_refl _), List.take_of_length_le (by omega)] at hm
      exact ⟨_, rfl, ks k q G hm sg hG⟩
end
end Wy
namespace Wy
open PySem L2
def WayOk (tb : Str → List RW) (as : List AT) (us : List RW) : Prop := us.length = as.length ∧ ∀ (i : Nat) (a : AT) (e : RW), as[i]? = some a → us[i]? = some e → e ∈ tb a.1
theorem WayOk.app {tb : Str → List RW} {as : List AT} {us : List RW} {a : AT} {e : RW} (h : WayOk tb as us) (he : e ∈ tb a.1) : WayOk tb (as ++ [a]) (us ++ [e]) := by
  refine ⟨by rw [List.length_append, List.length_append, h.1]; rfl, fun i a' e' h1 h2 => ?_⟩
  by_cases il : i < as.length
  · rw [List.getElem?_append_left il] at h1
    rw [List.getElem?_append_left (by rw [h.1]; exact il)] at h2
    exact h.2 i a' e' h1 h2
  · rw [List.getElem?_append_right (by omega)] at h1
    rw [List.getElem?_append_right (by rw [h.1]; omega), h.1] at h2
    cases q : i - as.length with
    | zero =>
      rw [q] at h1 h2
      simp only [List.getElem?_cons_zero, Option.some.injEq] at h1 h2
      rw [← h1, ← h2]
      exact he
    | succ n =>
      rw [q] at h1
      simp at h1
def WyV (H : Hp) (tb : Str → List RW) (as : List AT) (x : V) : Prop := ∃ w us, x = .ref w ∧ H w = some (.tup (us.map (·.1))) ∧ WayOk tb as us
theorem WyV.same {H H' : Hp} {tb : Str → List RW} {as : List AT} {x : V} (s : Same H H') (h : WyV H tb as x) : WyV H' tb as x := let ⟨w, us, e, h1, h2⟩ := h; ⟨w, us, e, s _ _ h1, h2⟩
section
variable {P : Program} {w : World} {K : PySem.W.Frag} {mg : Str → Option Value} {base : Heap}
def sp_ways (K : PySem.W.Frag) : Sp := fun vs H Q _ => ∃ (b t : Addr) (as : List (V × AT)) (tvs : List (Key × V)) (tb : Str → List RW), vs = [.ref b, .ref t] ∧ SqT K H b (as.map (·.1)) ∧ (∀ e ∈ as, AGood H e) ∧ TabsAt K H t tvs tb ∧ (∀ z, (tb z).length ≤ 9) ∧ as.length ≤ 3 ∧
  ∀ (p : Addr) (xs : List V) (H' : Hp), Same H H' → H' p = some (.lst xs) → (∀ x ∈ xs, WyV H' tb (as.map (·.2)) x) → Q (.ref p) H'
theorem ok__law_all_ways (T : Txt K mg) : Def P w K mg base 1 "_law_all_ways" ["_law_body", "_law_tables"] (sp_ways K) := by
  refine T.t__law_all_ways.ok sc__law_all_ways (fun vs H Q E h => ?_) fun f cdv A outer s H vs Q E hr h => ?_
  · obtain ⟨b, t, as, tvs, tb, rfl, _⟩ := h
    rfl
  · obtain ⟨b, t, as, tvs, tb, rfl, hb, gd, hT, l9, la, k⟩ := h
    refine ⟨_, (pss_3
      (ps_set (i := 2) sc__law_all_ways.nd rfl (Or.inl rfl) (pe_lst (pa_1 (pe_tup pa_nil))))
      (ps_for PassesOwn.never rfl (pi_tupK K (pv 0)) (pg_name (i := 3) sc__law_all_ways.nd rfl (Or.inl rfl)) (pss_3
      (ps_set (i := 4) sc__law_all_ways.nd rfl (Or.inl rfl) (pe_lst pa_nil))
      (ps_for PassesOwn.never rfl (pi_listK K (pv 2)) (pg_name (i := 5) sc__law_all_ways.nd rfl (Or.inr rfl)) (pss_one (ps_set (i := 4) sc__law_all_ways.nd rfl (Or.inl rfl) (pe_op op_cat (pv 4) (pe_comp (N := ["_law_row", "_law_way"]) (caps := [none, some 5]) rfl (by with_unfolding_all rfl) (pi_listK K (pe_dget2 (hu_of hr) (pv 1) (pe_ix (ix_tupK K) (pv 3) pe_int (fun _ _ => rfl)) (pe_lst pa_nil) ⟨rfl, rfl, rfl, rfl⟩)) (fun _ _ _ _ _ => (pg_name (i := 0) (show (["_law_row", "_law_way"] : List Str).Nodup by decide +kernel) rfl (Or.inl rfl))) (fun _ _ _ _ _ => pf_nil) (fun _ _ _ _ _ => (pe_op op_catH (pv 1) (pe_tup (pa_1 (pv 0))))))))))
      (ps_set (i := 2) sc__law_all_ways.nd rfl (Or.inl rfl) (pv 4))))
      (ps_ret (pv 2))), ?_⟩
    refine ⟨by decide, fun u hu => ?_⟩
    have s1 := same_upd (o := HO.tup []) hu
    refine ⟨by show 1 ≤ sizeLine; decide, fun p hp => ?_⟩
    have s2 := same_upd (o := HO.lst [.ref u]) hp
    have s12 := s1.trans s2
    refine ⟨_, rfl, b, rfl, ⟨_, s12.seqT hb⟩, for_tup (xs := as.map (·.1)) (fun i σ G => ∃ (p : Addr) (v3 v4 v5 : Option V) (xs : List V), σ = [some (.ref b), some (.ref t), some (.ref p), v3, v4, v5] ∧ Same H G ∧ G p = some (.lst xs) ∧ xs.length ≤ 9 ^ i ∧ ∀ x ∈ xs, WyV G tb ((as.map (·.2)).take i) x) ⟨p, none, none, none, [.ref u], rfl, s12, upd_same, Nat.le_refl _, ?_⟩ (fun i σ G _ z => ?_) ?_ ?_⟩
    · intro x hx
      rw [List.mem_singleton.mp hx]
      exact ⟨u, [], rfl, s2 _ _ upd_same, rfl, fun i a e h => by simp at h⟩
    · obtain ⟨_, _, _, _, _, _, z, _⟩ := z
      exact z.seqT hb
    · rintro i x σ G hx ⟨p, v3, v4, v5, xs, rfl, sg, hG, lx, wx⟩
      rw [List.getElem?_map] at hx
      obtain ⟨e, hei, rfl⟩ := Option.map_eq_some_iff.mp hx
      have il := (List.getElem?_eq_some_iff.mp hei).1
      have ge := gd e (List.mem_of_getElem? hei)
      obtain ⟨pe, qe, ee, hpe, hqe⟩ := ge.at_
      have hei2 : (as.map (·.2))[i]? = some e.2 := by rw [List.getElem?_map, hei]; rfl
      have tk : (as.map (·.2)).take (i + 1) = (as.map (·.2)).take i ++ [e.2] := by rw [List.take_succ, hei2]; rfl
      have p9 : 9 ^ i ≤ 81 := by
        have : i = 0 ∨ i = 1 ∨ i = 2 := by omega
        rcases this with rfl | rfl | rfl <;> decide
      refine ⟨by decide, fun lg hlg => ?_⟩
      have s3 := same_upd (o := HO.lst []) hlg
      have sg3 := sg.trans s3
      refine ⟨_, rfl, p, rfl, ⟨_, SqL.of (s3 _ _ hG)⟩, for_list (xs := xs) (fun j σ F => ∃ (lg : Addr) (v5 : Option V) (ys : List V), σ = [some (.ref b), some (.ref t), some (.ref p), some e.1, some (.ref lg), v5] ∧ Same G F ∧ F lg = some (.lst ys) ∧ ys.length ≤ 9 * j ∧ ∀ y ∈ ys, WyV F tb ((as.map (·.2)).take (i + 1)) y) ⟨lg, _, [], rfl, s3, upd_same, Nat.le_refl _, (fun _ z => nomatch z)⟩ (fun j σ F _ z => ?_) ?_ ?_⟩
      · obtain ⟨_, _, _, _, z, _⟩ := z
        exact SqL.of (z _ _ hG)
      · rintro j x σ F hx ⟨lg, v5, ys, rfl, sf, hlg, ly, wy⟩
        have jl := (List.getElem?_eq_some_iff.mp hx).1
        obtain ⟨w1, us, rfl, hw1, wo⟩ := (wx x (List.mem_of_getElem? hx)).same sf
        have S := sg.trans sf
        refine ⟨_, rfl, _, rfl, t, rfl, .inl ⟨_, .inl (S _ _ hT.at_)⟩, _, rfl, _, _, _, _, ee, rfl, SqT.of (S _ _ hpe), atI_nat (j := 0) rfl, by decide, fun em hem => ?_⟩
        have s4 := same_upd (o := HO.lst []) hem
        have eem := upd_same (H := F) (a := em) (o := HO.lst [])
        generalize upd F em (.lst []) = F4 at *
        have S4 := S.trans s4
        obtain ⟨rq, erq, hrq⟩ : ∃ rq, (valV tvs (.inr e.2.1)).getD (.ref em) = V.ref rq ∧ F4 rq = some (.lst ((tb e.2.1).map (·.1))) := by
          rcases hT.get e.2.1 with ⟨e1, e2⟩ | ⟨a, e1, e2⟩
          · rw [e1, e2]
            exact ⟨em, rfl, eem⟩
          · rw [e1]
            exact ⟨a, rfl, S4 _ _ e2⟩
        have l9e := l9 e.2.1
        refine ⟨_, DGet.k (k := .inr e.2.1) (S4 _ _ hT.at_), rq, erq, ⟨_, SqL.of hrq⟩, fun D hD => ?_⟩
        refine comp_by ((tb e.2.1).map (·.1)).length (fun n σ' E' => (∃ v, σ' = [v, some (.ref w1)]) ∧ Same F4 E' ∧ ∃ zs, E' D = some (.lst zs) ∧ zs.length ≤ n ∧ ∀ z ∈ zs, WyV E' tb ((as.map (·.2)).take (i + 1)) z) ⟨⟨_, rfl⟩, same_upd hD, [], upd_same, Nat.le_refl _, (fun _ z => nomatch z)⟩ (fun n σ' E' hi z => ?_) (fun σ' E' z => ⟨?_, ?_⟩) (fun n σ' E' hi z x E3 y => ?_)
        · obtain ⟨_, sm, _⟩ := z
          exact ⟨_, _, SqL.of (sm _ _ hrq), List.getElem?_eq_getElem hi⟩
        · obtain ⟨_, sm, _⟩ := z
          exact ⟨_, SqL.of (sm _ _ hrq), Nat.le_refl _⟩
        · obtain ⟨_, sm, zs, hz, lz, wz⟩ := z
          rw [List.length_map] at lz
          have s5 := s4.trans sm
          refine ⟨_, _, _, _, rfl, rfl, s5 _ _ hlg, hz, Nat.le_trans (show _ ≤ 2000 by omega) (by decide), fun l2 hl2 => ?_⟩
          have s6 := same_upd (o := HO.lst (ys ++ zs)) hl2
          refine ⟨l2, _, ys ++ zs, rfl, sf.trans (s5.trans s6), upd_same, by rw [List.length_append]; omega, fun y hy => ?_⟩
          rcases List.mem_append.mp hy with hy | hy
          · exact (wy y hy).same (s5.trans s6)
          · exact (wz y hy).same s6
        · obtain ⟨⟨v, rfl⟩, sm, zs, hz, lz, wz⟩ := z
          obtain ⟨rfl, hx⟩ := y
          have hx' := hx _ (SqL.of (sm _ _ hrq))
          rw [List.getElem?_map] at hx'
          obtain ⟨rw_, hrw, rfl⟩ := Option.map_eq_some_iff.mp hx'
          rw [List.length_map] at hi
          refine ⟨_, rfl, _, rfl, by show 1 ≤ sizeLine; decide, fun o1 ho1 => ?_⟩
          have s6 := same_upd (o := HO.tup [rw_.1]) ho1
          refine ⟨w1, o1, _, _, rfl, rfl, s6 _ _ (sm _ _ (s4 _ _ hw1)), upd_same, ?_, fun u2 E5 s7 hu5 => ?_⟩
          · rw [List.length_map, wo.1, List.length_take]
            exact Nat.le_trans (show _ + 1 ≤ 100 by omega) (by decide)
          · have s67 := s6.trans s7
            have hz5 := s67 _ _ hz
            have kc : ∀ {y}, WyV E5 tb ((as.map (·.2)).take (i + 1)) y → WyV (upd E5 D (.lst (zs ++ [.ref u2]))) tb ((as.map (·.2)).take (i + 1)) y := fun {y} ⟨a1, a2, e1, h1, h2⟩ => ⟨a1, a2, e1, by rw [upd_ne (fun z => by rw [z, hz5] at h1; cases h1)]; exact h1, h2⟩
            refine ⟨zs, hz5, small1000 (by omega), ⟨_, rfl⟩, (sm.trans s67).set hD, zs ++ [.ref u2], upd_same, by rw [List.length_append]; show _ + 1 ≤ _; omega, fun y hy => ?_⟩
            rcases List.mem_append.mp hy with hy | hy
            · exact kc ((wz y hy).same s67)
            · rw [List.mem_singleton.mp hy]
              refine kc ⟨u2, us ++ [rw_], rfl, by rw [hu5, List.map_append]; rfl, ?_⟩
              rw [tk]
              exact wo.app (List.mem_of_getElem? hrw)
      · rintro σ F ⟨lg, v5, ys, rfl, sf, hlg, ly, wy⟩
        refine ⟨_, rfl, lg, _, _, _, ys, rfl, sg.trans sf, hlg, ?_, wy⟩
        rw [Nat.pow_succ]
        omega
    · rintro σ G ⟨p, v3, v4, v5, xs, rfl, sg, hG, lx, wx⟩
      rw [List.length_map, ← List.length_map (f := fun x : V × AT => x.2) (as := as), List.take_length] at wx
      exact ⟨_, rfl, k p xs G sg hG wx⟩
end
end Wy
namespace Wy
open PySem L2
def so3 (x y : Int) (z : Str) : List Key := [.inl x, .inl y, .inr z]
theorem so3_at {x y : Int} {z : Str} (h : x < y) {u : Key} (hu : u ∈ so3 x y z) : ∃ j : Nat, (so3 x y z)[j]? = some u ∧ (∀ m, m < j → (so3 x y z)[m]? ≠ some u) ∧ ((j = 0 ∧ u = .inl x) ∨ (j = 1 ∧ u = .inl y) ∨ (j = 2 ∧ u = .inr z)) := by
  unfold so3 at hu ⊢
  simp only [List.mem_cons, List.not_mem_nil, or_false] at hu
  rcases hu with rfl | rfl | rfl
  · exact ⟨0, rfl, fun m hm => by omega, .inl ⟨rfl, rfl⟩⟩
  · refine ⟨1, rfl, fun m hm => ?_, .inr (.inl ⟨rfl, rfl⟩)⟩
    obtain rfl : m = 0 := by omega
    intro e
    injection e with e
    injection e with e
    omega
  · refine ⟨2, rfl, fun m hm => ?_, .inr (.inr ⟨rfl, rfl⟩)⟩
    have : m = 0 ∨ m = 1 := by omega
    rcases this with rfl | rfl <;> exact fun e => by injection e with e; cases e
def At3 (x y : Int) (z : Str) (j : Nat) (u : Key) : Prop := (j = 0 ∧ u = .inl x) ∨ (j = 1 ∧ u = .inl y) ∨ (j = 2 ∧ u = .inr z)
theorem at3_eq {x y : Int} {z : Str} (h : x < y) {i j : Nat} {u v : Key} (hu : At3 x y z i u) (hv : At3 x y z j v) : decide ((i : Int) = j) = decide (kV u = kV v) := by
  rcases hu with ⟨rfl, rfl⟩ | ⟨rfl, rfl⟩ | ⟨rfl, rfl⟩ <;> rcases hv with ⟨rfl, rfl⟩ | ⟨rfl, rfl⟩ | ⟨rfl, rfl⟩ <;> first | (rw [decide_eq_true rfl, decide_eq_true rfl]) | (rw [decide_eq_false (by omega), decide_eq_false (fun e => by injection e with e; omega)]) | (rw [decide_eq_false (by omega), decide_eq_false (fun e => nomatch e)])
theorem at3_lt {x y : Int} {z : Str} (h : x < y) {i j : Nat} {u v : Key} (hu : At3 x y z i u) (hv : At3 x y z j v) : decide ((j : Int) ≤ i) = !befK u v := by
  rcases hu with ⟨rfl, rfl⟩ | ⟨rfl, rfl⟩ | ⟨rfl, rfl⟩ <;> rcases hv with ⟨rfl, rfl⟩ | ⟨rfl, rfl⟩ | ⟨rfl, rfl⟩ <;> simp [befK, strLt, List.lt_irrefl] <;> omega
section
variable {P : Program} {w : World} {K : PySem.W.Frag} {mg : Str → Option Value} {base : Heap}
def sp_chosen (K : PySem.W.Frag) : Sp := fun vs H Q _ => ∃ (c b s : Addr) (cs : List (V × CT)) (bk : List (Key × V)) (x y : Int) (z : Str), vs = [.ref c, .ref b, .ref s] ∧ SqT K H c (cs.map (·.1)) ∧ (∀ e ∈ cs, CVh H e) ∧ H b = some (.dK bk) ∧ H s = some (.lst ((so3 x y z).map kV)) ∧ x < y ∧
  (∀ e ∈ cs, ∃ u v, u ∈ so3 x y z ∧ v ∈ so3 x y z ∧ tv bk e.2.2.1 = kV u ∧ tv bk e.2.2.2 = kV v ∧ (e.2.1 = sgE ∨ e.2.1 = sgN ∨ e.2.1 = sgL)) ∧ ∀ H', Same H H' → Q (.bl (cs.all fun e => holdsB bk e.2)) H'
theorem ok__law_chosen (T : Txt K mg) : Def P w K mg base 1 "_law_chosen" ["_law_choices", "_law_binding_here", "_law_some"] (sp_chosen K) := by
  refine T.t__law_chosen.ok sc__law_chosen (fun vs H Q E h => ?_) fun f cdv A outer s H vs Q E hr h => ?_
  · obtain ⟨c, b, s, cs, bk, x, y, z, rfl, _⟩ := h
    rfl
  · obtain ⟨c, b, sa, cs, bk, x, y, z, rfl, hc, hcs, hb, hs, xy, hv, k⟩ := h
    refine ⟨_, (pss_2
      (ps_for PassesOwn.never rfl (pi_tupK K (pv 0)) (pg_tup rfl (pgs_cons (pg_name (i := 3) sc__law_chosen.nd rfl (Or.inl rfl)) (pgs_cons (pg_name (i := 4) sc__law_chosen.nd rfl (Or.inl rfl)) (pgs_cons (pg_name (i := 5) sc__law_chosen.nd rfl (Or.inl rfl)) pgs_nil)))) (pss_3
      (ps_set (i := 6) sc__law_chosen.nd rfl (Or.inl rfl) (pe_bm PySem.F.plainAttrs_list PySem.F.slot_list_index PySem.F.type_list_index mt_index (pv 2) (pa_1 (pe_dget2 (hu_of hr) (pv 1) (pv 4) (pv 4) ⟨rfl, rfl, rfl, rfl⟩))))
      (ps_set (i := 7) sc__law_chosen.nd rfl (Or.inl rfl) (pe_bm PySem.F.plainAttrs_list PySem.F.slot_list_index PySem.F.type_list_index mt_index (pv 2) (pa_1 (pe_dget2 (hu_of hr) (pv 1) (pv 5) (pv 5) ⟨rfl, rfl, rfl, rfl⟩))))
      (ps_if (PW.pt (pw_or (PW.pt (pw_and (pt_cmpR op_eq (pv 3) pe_str (nomark _)) (pw_and1 (pt_cmpR op_ge (pv 6) (pv 7) (nomark _))))) (pw_or (PW.pt (pw_and (pt_cmpR op_eq (pv 3) pe_str (nomark _)) (pw_and1 (pt_cmpR op_ne (pv 6) (pv 7) (nomark _))))) (pw_or1 (PW.pt (pw_and (pt_cmpR op_eq (pv 3) pe_str (nomark _)) (pw_and1 (pt_cmpR op_eq (pv 6) (pv 7) (nomark _))))))))) (pss_one (ps_ret pe_bl)) pss_nil)))
      (ps_ret pe_bl)), ?_⟩
    refine ⟨_, rfl, c, rfl, ⟨_, hc⟩, for_tup (xs := cs.map (·.1)) (fun i σ G => ∃ (v3 v4 v5 v6 v7 : Option V), σ = [some (.ref c), some (.ref b), some (.ref sa), v3, v4, v5, v6, v7] ∧ Same H G ∧ (cs.take i).all (fun e => holdsB bk e.2) = true) ⟨none, none, none, none, none, rfl, Same.refl H, rfl⟩ (fun i σ G _ z => ?_) ?_ ?_⟩
    · obtain ⟨_, _, _, _, _, _, z, _⟩ := z
      exact z.seqT hc
    · rintro i x0 σ G hx ⟨v3, v4, v5, v6, v7, rfl, sg, al⟩
      rw [List.getElem?_map] at hx
      obtain ⟨e, hei, rfl⟩ := Option.map_eq_some_iff.mp hx
      obtain ⟨pc, ep, hpc⟩ := hcs e (List.mem_of_getElem? hei)
      obtain ⟨u, v, mu, mv, eu, ev, sgn⟩ := hv e (List.mem_of_getElem? hei)
      obtain ⟨ju, hju, nju, au⟩ := so3_at xy mu
      obtain ⟨jv, hjv, njv, av⟩ := so3_at xy mv
      refine ⟨pc, _, ep, SqT.of (sg _ _ hpc), rfl, _, _, rfl, _, _, rfl, _, _, rfl, rfl, ?_⟩
      have hB : holdsB bk e.2 = (if e.2.1 = sgE then decide (kV u = kV v) else if e.2.1 = sgN then !decide (kV u = kV v) else befK u v) := by
        unfold holdsB
        rw [eu, ev, vK_kV, vK_kV]
      have no : holdsB bk e.2 = false → Q (.bl false) G := fun h => by
        have h1 := k G sg
        rw [show (cs.all fun e => holdsB bk e.2) = false from List.all_eq_false.mpr ⟨e, List.mem_of_getElem? hei, by rw [h]; exact Bool.false_ne_true⟩] at h1
        exact h1
      have yes : holdsB bk e.2 = true → (cs.take (i + 1)).all (fun e => holdsB bk e.2) = true := fun h => by
        rw [List.take_succ, hei, List.all_append, al]
        simp [h]
      refine ⟨_, rfl, .inl ⟨rfl, _, SqL.of (sg _ _ hs)⟩, _, rfl, b, rfl, .inl ⟨bk, .inl (sg _ _ hb)⟩, _, rfl, _, rfl, _, DGet.k (sg _ _ hb), sa, so3 x y z, u, ju, rfl, congrArg (fun q => [q]) eu, sg _ _ hs, hju, nju, ?_⟩
      refine ⟨_, rfl, .inl ⟨rfl, _, SqL.of (sg _ _ hs)⟩, _, rfl, b, rfl, .inl ⟨bk, .inl (sg _ _ hb)⟩, _, rfl, _, rfl, _, DGet.k (sg _ _ hb), sa, so3 x y z, v, jv, rfl, congrArg (fun q => [q]) ev, sg _ _ hs, hjv, njv, ?_⟩
      have eqq := at3_eq xy au av
      have ltq := at3_lt xy au av
      have ieq : decide (V.int (ju : Int) = V.int (jv : Int)) = decide (kV u = kV v) := by
        rw [← eqq]
        exact decide_eq_decide.mpr ⟨fun h => by injection h, fun h => by rw [h]⟩
      have tst : ∀ (a c : Str) (q : Bool), decide (a = c) = q → decide (V.str a = V.str c) = q := fun a c q h => by
        rw [← h]
        exact decide_eq_decide.mpr ⟨fun h => by injection h, fun h => by rw [h]⟩
      refine ⟨_, rfl, rfl, ?_⟩
      rcases sgn with es | es | es
      · rw [es] at hB ⊢
        rw [if_pos rfl] at hB
        refine ⟨_, rfl, iteFb (tst _ _ _ (by decide +kernel)) ?_⟩
        refine ⟨_, rfl, rfl, _, rfl, iteTb (tst _ _ _ (by decide +kernel)) ?_⟩
        refine ⟨_, rfl, _, rfl, rfl, _, rfl, ite2 (fun h1 => ?_) (fun h1 => ?_)⟩
        · have h1 : (!decide (V.int (ju : Int) = V.int (jv : Int))) = true := h1
          rw [ieq, ← hB] at h1
          exact no (by cases q : holdsB bk e.2 with | false => rfl | true => rw [q] at h1; cases h1)
        · have h1 : ¬ (!decide (V.int (ju : Int) = V.int (jv : Int))) = true := h1
          rw [ieq, ← hB] at h1
          refine ⟨_, rfl, rfl, _, rfl, iteFb (tst _ _ _ (by decide +kernel)) ?_⟩
          exact ⟨_, _, _, _, _, rfl, sg, yes (by cases q : holdsB bk e.2 with | true => rfl | false => exact absurd (by rw [q]; rfl) h1)⟩
      · rw [es] at hB ⊢
        rw [if_neg (by decide +kernel), if_pos rfl] at hB
        refine ⟨_, rfl, iteFb (tst _ _ _ (by decide +kernel)) ?_⟩
        refine ⟨_, rfl, rfl, _, rfl, iteFb (tst _ _ _ (by decide +kernel)) ?_⟩
        refine ⟨_, rfl, rfl, _, rfl, iteTb (tst _ _ _ (by decide +kernel)) ?_⟩
        refine ⟨_, rfl, _, rfl, rfl, _, rfl, ite2 (fun h1 => ?_) (fun h1 => ?_)⟩
        · have h1 : decide (V.int (ju : Int) = V.int (jv : Int)) = true := h1
          rw [ieq] at h1
          exact no (by rw [hB, h1]; rfl)
        · have h1 : ¬ decide (V.int (ju : Int) = V.int (jv : Int)) = true := h1
          rw [ieq] at h1
          exact ⟨_, _, _, _, _, rfl, sg, yes (by rw [hB]; cases q : decide (kV u = kV v) with | false => rfl | true => exact absurd q h1)⟩
      · rw [es] at hB ⊢
        rw [if_neg (by decide +kernel), if_neg (by decide +kernel)] at hB
        refine ⟨_, rfl, iteTb (tst _ _ _ (by decide +kernel)) ?_⟩
        refine ⟨_, rfl, _, rfl, _, _, rfl, rfl, _, rfl, ite2 (fun h1 => ?_) (fun h1 => ?_)⟩
        · have h1 : decide ((jv : Int) ≤ ju) = true := h1
          rw [ltq] at h1
          exact no (by rw [hB]; cases q : befK u v with | false => rfl | true => rw [q] at h1; cases h1)
        · have h1 : ¬ decide ((jv : Int) ≤ ju) = true := h1
          rw [ltq] at h1
          refine ⟨_, rfl, rfl, _, rfl, iteFb (tst _ _ _ (by decide +kernel)) ?_⟩
          refine ⟨_, rfl, rfl, _, rfl, iteFb (tst _ _ _ (by decide +kernel)) ?_⟩
          exact ⟨_, _, _, _, _, rfl, sg, yes (by rw [hB]; cases q : befK u v with | true => rfl | false => exact absurd (by rw [q]; rfl) h1)⟩
    · rintro σ G ⟨v3, v4, v5, v6, v7, rfl, sg, al⟩
      rw [List.length_map, List.take_length] at al
      have := k G sg
      rw [al] at this
      exact this
end
end Wy
namespace Wy
open PySem L2
def lowS : Str := "abcdefghijklmnopqrstuvwxyz"
def tailS : Str := "0a1b2c3d4e5"
theorem low_fur : ∀ c ∈ lowS.cps.toList, c ∈ fur.cps.toList ∧ c ∉ capS.cps.toList := by decide +kernel
theorem tail_fur : ∀ c ∈ tailS.cps.toList, c ∈ fur.cps.toList := by decide +kernel
theorem low_word {c : Nat} {m : Int} (h : c ∈ lowS.cps.toList) : Wz 12 (⟨#[c]⟩ ++ cutS tailS none (some m)) ∧ txtB capS (⟨#[c]⟩ ++ cutS tailS none (some m)) = false := by
  have w1 : Wz 11 tailS := ⟨by decide, tail_fur⟩
  have w2 := (Wz.one (low_fur c h).1).app (w1.cut none (some m))
  refine ⟨w2, ?_⟩
  have ll : 1 ≤ (⟨#[c]⟩ ++ cutS tailS none (some m) : Str).length := by rw [len_app]; exact Nat.le_add_right 1 _
  rw [txtB_ok ll w2.1, app_list]
  show (decide (c ∈ capS.cps.toList) && _) = false
  rw [decide_eq_false (low_fur c h).2, Bool.false_and]
theorem srt_two {x y : Int} (h : x ≠ y) : ∃ x' y', x' < y' ∧ Tim.srt intLt [x, y] = [x', y'] := by
  by_cases c : x < y
  · refine ⟨x, y, c, (Tim.srt_eq sto_ints (List.Perm.refl _) ?_).symm⟩
    simp [intLt]
    omega
  · refine ⟨y, x, by omega, (Tim.srt_eq sto_ints (List.Perm.swap x y []) ?_).symm⟩
    simp [intLt]
    omega
section
variable {P : Program} {w : World} {K : PySem.W.Frag} {mg : Str → Option Value} {base : Heap}
def sp_values (K : PySem.W.Frag) : Sp := fun vs H Q _ => ∃ (a : Addr) (ns : List Int), vs = [.ref a] ∧ SqL K H a (ns.map V.int) ∧
  ∀ (p q1 q2 : Addr) (x y : Int) (z : Str) (ks : List Key) (H' : Hp), Same H H' → H' p = some (.tup [.ref q1, .ref q2]) → H' q1 = some (.lst ((so3 x y z).map kV)) → H' q2 = some (.lst (ks.map kV)) → x < y → Wz 12 z → txtB capS z = false → ks.length = 3 → (∀ k ∈ ks, k ∈ so3 x y z) → Q (.ref p) H'
theorem ok__law_values (T : Txt K mg) : Def P w K mg base 2 "_law_values" ["_law_script"] (sp_values K) := by
  refine T.t__law_values.ok sc__law_values (fun vs H Q E h => ?_) fun f cdv A outer s H vs Q E hr h => ?_
  · obtain ⟨a, ns, rfl, _⟩ := h
    rfl
  · obtain ⟨a, ns, rfl, hS, k⟩ := h
    refine join_at 3 (fun σ G => ∃ x y : Int, σ = [some (.ref a), some (.int x), some (.int y), none, none, none] ∧ Same H G ∧ x ≠ y) ⟨_, (pss_5
      (ps_set (i := 3) sc__law_values.nd rfl (Or.inl rfl) (pe_ix ix_str pe_str (pe_op op_mod (pe_op op_fdiv (pe_def (ok__law_cell_at T) hr rfl (pa_2 (pv 0) pe_int)) pe_int) pe_int) (fun _ _ => rfl)))
      (ps_set (i := 3) sc__law_values.nd rfl (Or.inl rfl) (pe_op op_add_str (pv 3) (pe_slice sl_str pe_str po_none (po_some (pe_op op_mod (pe_def (ok__law_cell_at T) hr rfl (pa_2 (pv 0) pe_int)) pe_int)))))
      (ps_set (i := 4) sc__law_values.nd rfl (Or.inl rfl) (pe_op op_cat (pe_callB (call_sortedIs K) rfl T.b_sorted bt_sorted (pa_1 (pe_lst (pa_2 (pv 1) (pv 2))))) (pe_lst (pa_1 (pv 3)))))
      (ps_set (i := 5) sc__law_values.nd rfl (Or.inl rfl) (pe_op op_mod (pe_op op_fdiv (pe_def (ok__law_cell_at T) hr rfl (pa_2 (pv 0) pe_int)) pe_int) pe_int))
      (ps_ret (pe_tup (pa_2 (pv 4) (pe_op op_cat (pe_slice (sl_listK K) (pv 4) (po_some (pv 5)) po_none) (pe_slice (sl_listK K) (pv 4) po_none (po_some (pv 5)))))))), ?_⟩ (fun u hu hC => ⟨_, (psr_3
      (ps_set (i := 1) sc__law_values.nd rfl (Or.inl rfl) (pe_op op_mod (pe_def (ok__law_cell_at T) hr rfl (pa_2 (pv 0) pe_int)) (pe_op op_pow pe_int pe_int)))
      (ps_set (i := 2) sc__law_values.nd rfl (Or.inl rfl) (pe_ix (ix_listK K) (pe_lst (pa_4 (pe_op op_sub pe_int (pv 1)) (pe_op op_add (pv 1) pe_int) (pe_op op_fdiv (pv 1) pe_int) (pe_op op_sub pe_int (pv 1)))) (pe_op op_mod (pe_def (ok__law_cell_at T) hr rfl (pa_2 (pv 0) pe_int)) pe_int) (fun _ _ => rfl)))
      (ps_if (pt_cmpR op_eq (pv 2) (pv 1) (nomark _)) (pss_one (ps_set (i := 2) sc__law_values.nd rfl (Or.inl rfl) (pe_op op_add (pv 1) pe_int))) pss_nil)
      hu), ?_⟩)
    · rintro σ G ⟨x, y, rfl, sg, ne⟩
      have hS1 := sg.seq hS
      obtain ⟨c, hc, mc⟩ := atI_in (xs := ("abcdefghijklmnopqrstuvwxyz" : Str).cps.toList) (i := ns.getD (Int.toNat 1) 0 / 4 % 26) (Int.emod_nonneg _ (by decide)) (by rw [show (("abcdefghijklmnopqrstuvwxyz" : Str).cps.toList.length : Int) = 26 by decide +kernel]; exact Int.emod_lt_of_pos _ (by decide))
      refine ⟨_, rfl, a, ns, 1, rfl, hS1, by decide, _, _, rfl, rfl, ⟨by decide, by decide⟩, _, _, rfl, rfl, (by show (0 : Int) < 26; decide), _, _, c, rfl, rfl, by decide, hc, ?_⟩
      obtain ⟨wz, nv⟩ := low_word (m := ns.getD (Int.toNat 2) 0 % 12) mc
      have lw := wz.1
      rw [len_app] at lw
      refine ⟨_, rfl, _, rfl, a, ns, 2, rfl, hS1, by decide, _, _, rfl, rfl, (by show (0 : Int) < 12; decide), _, rfl, _, rfl, by decide, _, _, rfl, rfl, Nat.le_trans lw (by decide), ?_⟩
      have wz : Wz 12 (⟨#[c]⟩ ++ cutS (Str.ofString "0a1b2c3d4e5") none (some (ns.getD (Int.toNat 2) 0 % 12)) : Str) := wz
      have nv : txtB capS (⟨#[c]⟩ ++ cutS (Str.ofString "0a1b2c3d4e5") none (some (ns.getD (Int.toNat 2) 0 % 12)) : Str) = false := nv
      generalize (⟨#[c]⟩ ++ cutS (Str.ofString "0a1b2c3d4e5") none (some (ns.getD (Int.toNat 2) 0 % 12)) : Str) = z at *
      obtain ⟨x', y', xy, esrt⟩ := srt_two ne
      refine ⟨_, rfl, _, rfl, by show 2 ≤ sizeLine; decide, fun q hq => ?_⟩
      have s1 := same_upd (o := HO.lst [V.int x, V.int y]) hq
      refine ⟨q, [x, y], rfl, .inl (SqL.of upd_same), by show 2 < 64; decide, fun l hl => ?_⟩
      rw [esrt]
      have s2 := same_upd (o := HO.lst ([x', y'].map V.int)) hl
      refine ⟨_, rfl, by show 1 ≤ sizeLine; decide, fun l2 hl2 => ?_⟩
      have s3 := same_upd (o := HO.lst [V.str z]) hl2
      refine ⟨_, _, _, _, rfl, rfl, s3 _ _ upd_same, upd_same, by show 3 ≤ sizeLine; decide, fun sm hsm => ?_⟩
      have s4 := same_upd (o := HO.lst ((so3 x' y' z).map kV)) hsm
      have s14 := sg.trans (s1.trans (s2.trans (s3.trans s4)))
      have e4 : upd (upd (upd (upd G q (.lst [V.int x, V.int y])) l (.lst ([x', y'].map V.int))) l2 (.lst [V.str z])) sm (.lst ([x', y'].map V.int ++ [V.str z])) sm = some (.lst ((so3 x' y' z).map kV)) := upd_same
      have s14 : Same H (upd (upd (upd (upd G q (.lst [V.int x, V.int y])) l (.lst ([x', y'].map V.int))) l2 (.lst [V.str z])) sm (.lst ([x', y'].map V.int ++ [V.str z]))) := s14
      generalize upd (upd (upd (upd G q (.lst [V.int x, V.int y])) l (.lst ([x', y'].map V.int))) l2 (.lst [V.str z])) sm (.lst ([x', y'].map V.int ++ [V.str z])) = G4 at *
      refine ⟨_, rfl, a, ns, 2, rfl, s14.seq hS, by decide, _, _, rfl, rfl, ⟨by decide, by decide⟩, _, _, rfl, rfl, (by show (0 : Int) < 3; decide), ?_⟩
      have t0 := Int.emod_nonneg (ns.getD (Int.toNat 2) 0 / 12) (show (3 : Int) ≠ 0 by decide)
      have t1 := Int.emod_lt_of_pos (ns.getD (Int.toNat 2) 0 / 12) (show (0 : Int) < 3 by decide)
      refine ⟨_, rfl, _, rfl, _, rfl, _, rfl, sm, _, rfl, SqL.of e4, fun l3 hl3 => ?_⟩
      have s5 := same_upd (o := HO.lst (cutV ((so3 x' y' z).map kV) (some (ns.getD (Int.toNat 2) 0 / 12 % 3)) none)) hl3
      refine ⟨_, rfl, _, rfl, _, rfl, sm, _, rfl, SqL.of (s5 _ _ e4), fun l4 hl4 => ?_⟩
      have s6 := same_upd (o := HO.lst (cutV ((so3 x' y' z).map kV) none (some (ns.getD (Int.toNat 2) 0 / 12 % 3)))) hl4
      obtain ⟨ks, eks, lks, mks⟩ : ∃ ks : List Key, cutV ((so3 x' y' z).map kV) (some (ns.getD (Int.toNat 2) 0 / 12 % 3)) none ++ cutV ((so3 x' y' z).map kV) none (some (ns.getD (Int.toNat 2) 0 / 12 % 3)) = ks.map kV ∧ ks.length = 3 ∧ ∀ k ∈ ks, k ∈ so3 x' y' z := by
        have : ns.getD (Int.toNat 2) 0 / 12 % 3 = 0 ∨ ns.getD (Int.toNat 2) 0 / 12 % 3 = 1 ∨ ns.getD (Int.toNat 2) 0 / 12 % 3 = 2 := by omega
        rcases this with e | e | e <;> rw [e]
        · exact ⟨[.inl x', .inl y', .inr z], rfl, rfl, fun k hk => hk⟩
        · exact ⟨[.inl y', .inr z, .inl x'], rfl, rfl, fun k hk => by simp only [so3, List.mem_cons, List.not_mem_nil, or_false] at hk ⊢; rcases hk with h | h | h <;> simp [h]⟩
        · exact ⟨[.inr z, .inl x', .inl y'], rfl, rfl, fun k hk => by simp only [so3, List.mem_cons, List.not_mem_nil, or_false] at hk ⊢; rcases hk with h | h | h <;> simp [h]⟩
      refine ⟨_, _, _, _, rfl, rfl, s6 _ _ upd_same, upd_same, ?_, fun l5 hl5 => ?_⟩
      · rw [← List.length_append, eks, List.length_map, lks]
        decide
      · rw [eks]
        have s7 := same_upd (o := HO.lst (ks.map kV)) hl5
        refine ⟨by show 2 ≤ sizeLine; decide, fun p hp => ?_⟩
        have s8 := same_upd (o := HO.tup [.ref sm, .ref l5]) hp
        exact k p sm l5 x' y' z ks _ (s14.trans (s5.trans (s6.trans (s7.trans s8)))) upd_same ((s5.trans (s6.trans (s7.trans s8))) _ _ e4) (s8 _ _ upd_same) xy wz nv lks mks
    · refine ⟨_, rfl, a, ns, 0, rfl, hS, by decide, _, _, rfl, rfl, ⟨by decide, by decide, by decide⟩, _, _, rfl, rfl, (by show (0 : Int) < 10 ^ 40; decide), ?_⟩
      refine ⟨_, rfl, _, _, rfl, rfl, _, rfl, _, _, rfl, rfl, _, rfl, _, _, rfl, rfl, ⟨by decide, by decide⟩, _, rfl, _, _, rfl, rfl, by show 4 ≤ sizeLine; decide, fun q hq => ?_⟩
      have s1 := same_upd (o := HO.lst [V.int (0 - ns.getD (Int.toNat 0) 0 % 10 ^ Int.toNat 40), V.int (ns.getD (Int.toNat 0) 0 % 10 ^ Int.toNat 40 + 1), V.int (ns.getD (Int.toNat 0) 0 % 10 ^ Int.toNat 40 / 10), V.int (7 - ns.getD (Int.toNat 0) 0 % 10 ^ Int.toNat 40)]) hq
      obtain ⟨y, hy⟩ : ∃ y : Int, atI [V.int (0 - ns.getD (Int.toNat 0) 0 % 10 ^ Int.toNat 40), V.int (ns.getD (Int.toNat 0) 0 % 10 ^ Int.toNat 40 + 1), V.int (ns.getD (Int.toNat 0) 0 % 10 ^ Int.toNat 40 / 10), V.int (7 - ns.getD (Int.toNat 0) 0 % 10 ^ Int.toNat 40)] (ns.getD (Int.toNat 1) 0 % 4) = some (V.int y) := by
        have w0 := Int.emod_nonneg (ns.getD (Int.toNat 1) 0) (show (4 : Int) ≠ 0 by decide)
        have w1 := Int.emod_lt_of_pos (ns.getD (Int.toNat 1) 0) (show (0 : Int) < 4 by decide)
        have : ns.getD (Int.toNat 1) 0 % 4 = 0 ∨ ns.getD (Int.toNat 1) 0 % 4 = 1 ∨ ns.getD (Int.toNat 1) 0 % 4 = 2 ∨ ns.getD (Int.toNat 1) 0 % 4 = 3 := by omega
        rcases this with e | e | e | e <;> rw [e] <;> exact ⟨_, rfl⟩
      refine ⟨_, rfl, a, ns, 1, rfl, s1.seq hS, by decide, _, _, rfl, rfl, (by show (0 : Int) < 4; decide), _, _, _, _, rfl, rfl, SqL.of upd_same, hy, ?_⟩
      refine ⟨_, rfl, _, rfl, rfl, _, rfl, ite2 (fun h1 => ?_) (fun h1 => ?_)⟩
      · refine ⟨_, rfl, _, _, rfl, rfl, hC _ _ ⟨_, _, rfl, s1, ?_⟩⟩
        omega
      · refine hC _ _ ⟨_, y, rfl, s1, fun e9 => h1 (decide_eq_true ?_)⟩
        show V.int y = V.int _
        rw [← e9]
end
end Wy
namespace Wy
open PySem L2
theorem AGood.set {H : Hp} {e : V × AT} {A : Addr} {xs : List V} {o : HO} (h : AGood H e) (hA : H A = some (.lst xs)) : AGood (upd H A o) e := by
  obtain ⟨⟨p, q, e1, h1, h2⟩, h3, h4⟩ := h
  refine ⟨⟨p, q, e1, ?_, ?_⟩, h3, h4⟩
  · rw [upd_ne (fun z => by rw [z, hA] at h1; cases h1)]
    exact h1
  · rw [upd_ne (fun z => by rw [z, hA] at h2; cases h2)]
    exact h2
theorem CGood.set {H : Hp} {e : V × CT} {A : Addr} {xs : List V} {o : HO} (h : CGood H e) (hA : H A = some (.lst xs)) : CGood (upd H A o) e := by
  obtain ⟨⟨p, e1, h1⟩, h3, h4⟩ := h
  refine ⟨⟨p, e1, ?_⟩, h3, h4⟩
  rw [upd_ne (fun z => by rw [z, hA] at h1; cases h1)]
  exact h1
def AtOk (n0 n1 n2 : Str) (ms ks : List Key) (a : AT) : Prop := (((a.1 = n0 ∨ a.1 = n1) ∧ a.2.length = 2) ∨ (a.1 = n2 ∧ a.2.length = 1)) ∧ ∀ t ∈ a.2, t ∈ ms ∨ t ∈ ks
def PV (ms ks : List Key) (as : List (V × AT)) (t : Key) : Prop := t ∈ ks ∨ (t ∈ ms ∧ ∃ e ∈ as, t ∈ e.2.2)
def SgOk (z : Str) : Prop := z = sgE ∨ z = sgN ∨ z = sgL
section
variable {P : Program} {w : World} {K : PySem.W.Frag} {mg : Str → Option Value} {base : Heap}
def sp_lrule (K : PySem.W.Frag) : Sp := fun vs H Q _ => ∃ (a tn m v : Addr) (ns : List Int) (n0 n1 n2 : Str) (ms ks : List Key), vs = [.ref a, .ref tn, .ref m, .ref v] ∧ SqL K H a (ns.map V.int) ∧ SqL K H tn [.str n0, .str n1, .str n2] ∧ SqL K H m (ms.map kV) ∧ SqL K H v (ks.map kV) ∧ ks.length = 3 ∧ ms.length ≤ 4 ∧ (∀ t ∈ ms, TxOk t) ∧ (∀ t ∈ ks, TxOk t) ∧
  ∀ (r hp ht : Addr) (hn : Str) (ts : List Key) (as : List (V × AT)) (cs : List (V × CT)) (H' : Hp), Same H H' → RuleAt K H' r (.ref hp) as cs → H' hp = some (.tup [.str hn, .ref ht]) → H' ht = some (.tup (ts.map kV)) → ts.length ≤ 4 → as.length ≤ 3 → cs.length ≤ 2 → (∀ e ∈ as, AtOk n0 n1 n2 ms ks e.2) → (∀ t ∈ ts, PV ms ks as t) → (∀ e ∈ cs, PV ms ks as e.2.2.1 ∧ PV ms ks as e.2.2.2 ∧ SgOk e.2.1) → Q (.ref r) H'
theorem ok__law_rule (T : Txt K mg) : Def P w K mg base 2 "_law_rule" ["_law_script", "_law_tables", "_law_marks_here", "_law_values_here"] (sp_lrule K) := by
  refine T.t__law_rule.ok sc__law_rule (fun vs H Q E h => ?_) fun f cdv A outer s H vs Q E hr h => ?_
  · obtain ⟨a, tn, m, v, ns, n0, n1, n2, ms, ks, rfl, _⟩ := h
    rfl
  · obtain ⟨a, tn, m, v, ns, n0, n1, n2, ms, ks, rfl, hS, hT, hM, hV, l3, lm, om, ok, k⟩ := h
    have txok : ∀ t, t ∈ ms ∨ t ∈ ks → TxOk t := fun t h => h.elim (om t) (ok t)
    refine join_at 3 (fun σ G => ∃ (bA : Addr) (as : List (V × AT)) (v5 v6 v7 v8 : Option V), σ = [some (.ref a), some (.ref tn), some (.ref m), some (.ref v), some (.ref bA), v5, v6, v7, v8, none, none, none, none, none, none] ∧ Same H G ∧ G bA = some (.lst (as.map (·.1))) ∧ as.length ≤ 3 ∧ ∀ e ∈ as, AGood G e ∧ AtOk n0 n1 n2 ms ks e.2) ⟨_, (pss_7
      (ps_set (i := 9) sc__law_rule.nd rfl (Or.inr rfl) (pe_lst pa_nil))
      (ps_for PassesOwn.never rfl (pi_listK K (pv 4)) (pg_name (i := 10) sc__law_rule.nd rfl (Or.inl rfl)) (pss_one (ps_set (i := 9) sc__law_rule.nd rfl (Or.inr rfl) (pe_op op_cat (pv 9) (pe_comp (N := ["_law_term_here", "_law_marks_here"]) (caps := [none, some 2]) rfl (by with_unfolding_all rfl) (pi_tupK K (pe_ix (ix_tupK K) (pv 10) pe_int (fun _ _ => rfl))) (fun _ _ _ _ _ => (pg_name (i := 0) (show (["_law_term_here", "_law_marks_here"] : List Str).Nodup by decide +kernel) rfl (Or.inl rfl))) (fun _ _ _ _ _ => pf_one (pt_cmpR (op_inLD hr.units K) (pv 0) (pv 1) (by with_unfolding_all rfl))) (fun _ _ _ _ _ => (pv 0)))))))
      (ps_set (i := 11) sc__law_rule.nd rfl (Or.inl rfl) (pe_op op_mod (pe_def (ok__law_cell_at T) hr rfl (pa_2 (pv 0) pe_int)) pe_int))
      (ps_set (i := 12) sc__law_rule.nd rfl (Or.inl rfl) (pe_callTy (call_tupleK K) rfl T.b_tuple bt_tuple (pa_1 (pe_comp (N := ["_law_k", "_law_there", "_law_values_here", "_law_script"]) (caps := [none, some 9, some 3, some 0]) rfl (by with_unfolding_all rfl) (pi_range1 rfl T.b_range (pa_1 (pv 11))) (fun _ _ _ _ _ => (pg_name (i := 0) (show (["_law_k", "_law_there", "_law_values_here", "_law_script"] : List Str).Nodup by decide +kernel) rfl (Or.inl rfl))) (fun _ _ _ _ _ => pf_nil) (fun _ _ _ _ _ => (pe_def (ok__law_term T) hr rfl (pa_3 (pe_def (ok__law_cell_at T) hr rfl (pa_2 (pv 3) (pe_op op_add pe_int (pv 0)))) (pv 1) (pv 2))))))))
      (ps_set (i := 13) sc__law_rule.nd rfl (Or.inl rfl) (pe_lst pa_nil))
      (ps_for PassesOwn.never rfl (pi_range1 rfl T.b_range (pa_1 (pe_ix (ix_listK K) (pe_lst (pa_5 pe_int pe_int pe_int pe_int pe_int)) (pe_op op_mod (pe_op op_fdiv (pe_def (ok__law_cell_at T) hr rfl (pa_2 (pv 0) pe_int)) pe_int) pe_int) (fun _ _ => rfl)))) (pg_name (i := 5) sc__law_rule.nd rfl (Or.inl rfl)) (pss_4
      (ps_set (i := 14) sc__law_rule.nd rfl (Or.inl rfl) (pe_ix (ix_listK K) (pe_lst (pa_3 pe_str pe_str pe_str)) (pe_op op_mod (pe_def (ok__law_cell_at T) hr rfl (pa_2 (pv 0) (pe_op op_add pe_int (pv 5)))) pe_int) (fun _ _ => rfl)))
      (ps_set (i := 6) sc__law_rule.nd rfl (Or.inl rfl) (pe_def (ok__law_term T) hr rfl (pa_3 (pe_def (ok__law_cell_at T) hr rfl (pa_2 (pv 0) (pe_op op_add pe_int (pv 5)))) (pv 9) (pv 3))))
      (ps_set (i := 7) sc__law_rule.nd rfl (Or.inl rfl) (pe_def (ok__law_term T) hr rfl (pa_3 (pe_def (ok__law_cell_at T) hr rfl (pa_2 (pv 0) (pe_op op_add pe_int (pv 5)))) (pv 9) (pv 3))))
      (ps_expr (pe_bm PySem.F.plainAttrs_list PySem.F.slot_list_append PySem.F.type_list_append mt_append (pv 13) (pa_1 (pe_tup (pa_3 (pv 14) (pv 6) (pv 7))))))))
      (ps_ret (pe_tup (pa_3 (pe_tup (pa_2 (pe_ix (ix_listK K) (pv 1) (pe_op op_mod (pe_op op_fdiv (pe_def (ok__law_cell_at T) hr rfl (pa_2 (pv 0) pe_int)) pe_int) pe_int) (fun _ _ => rfl)) (pv 12))) (pe_callTy (call_tupleK K) rfl T.b_tuple bt_tuple (pa_1 (pv 4))) (pe_callTy (call_tupleK K) rfl T.b_tuple bt_tuple (pa_1 (pv 13))))))), ?_⟩ (fun u hu hC => ⟨_, (psr_3
      (ps_set (i := 4) sc__law_rule.nd rfl (Or.inl rfl) (pe_lst pa_nil))
      (ps_for PassesOwn.never rfl (pi_range1 rfl T.b_range (pa_1 (pe_ix (ix_listK K) (pe_lst (pa_6 pe_int pe_int pe_int pe_int pe_int pe_int)) (pe_op op_mod (pe_def (ok__law_cell_at T) hr rfl (pa_2 (pv 0) pe_int)) pe_int) (fun _ _ => rfl)))) (pg_name (i := 5) sc__law_rule.nd rfl (Or.inl rfl)) (pss_3
      (ps_set (i := 6) sc__law_rule.nd rfl (Or.inl rfl) (pe_def (ok__law_term T) hr rfl (pa_3 (pe_def (ok__law_cell_at T) hr rfl (pa_2 (pv 0) (pe_op op_add pe_int (pe_op op_mul pe_int (pv 5))))) (pv 2) (pv 3))))
      (ps_set (i := 7) sc__law_rule.nd rfl (Or.inl rfl) (pe_def (ok__law_term T) hr rfl (pa_3 (pe_def (ok__law_cell_at T) hr rfl (pa_2 (pv 0) (pe_op op_add pe_int (pe_op op_mul pe_int (pv 5))))) (pv 2) (pv 3))))
      (ps_expr (pe_bm PySem.F.plainAttrs_list PySem.F.slot_list_append PySem.F.type_list_append mt_append (pv 4) (pa_1 (pe_tup (pa_2 (pe_ix (ix_listK K) (pv 1) (pe_op op_mod (pe_def (ok__law_cell_at T) hr rfl (pa_2 (pv 0) (pe_op op_add pe_int (pe_op op_mul pe_int (pv 5))))) pe_int) (fun _ _ => rfl)) (pe_tup (pa_2 (pv 6) (pv 7))))))))))
      (ps_if (pt_cmpR op_eq (pe_op op_mod (pe_op op_fdiv (pe_def (ok__law_cell_at T) hr rfl (pa_2 (pv 0) pe_int)) pe_int) pe_int) pe_int (nomark _)) (pss_2
      (ps_set (i := 8) sc__law_rule.nd rfl (Or.inl rfl) (pe_op op_mod (pe_op op_fdiv (pe_def (ok__law_cell_at T) hr rfl (pa_2 (pv 0) pe_int)) pe_int) (pe_op op_add (pe_callB (call_lenK K) rfl T.b_len bt_len (pa_1 (pv 4))) pe_int)))
      (ps_expr (pe_bm PySem.F.plainAttrs_list PySem.F.slot_list_insert PySem.F.type_list_insert mt_insert (pv 4) (pa_2 (pv 8) (pe_tup (pa_2 (pe_ix (ix_listK K) (pv 1) pe_int (fun _ _ => rfl)) (pe_tup (pa_1 (pe_def (ok__law_term T) hr rfl (pa_3 (pe_def (ok__law_cell_at T) hr rfl (pa_2 (pv 0) pe_int)) (pv 2) (pv 3))))))))))) pss_nil)
      hu), ?_⟩)
    · rintro σ G ⟨bA, as, v5, v6, v7, v8, rfl, sg, hb, la, ga⟩
      have hS1 := sg.seq hS
      refine ⟨by decide, fun th0 hth0 => ?_⟩
      have s1 := same_upd (o := HO.lst []) hth0
      have dd := Nat.le_trans (depth_tx ms) (show 0 ≤ 60 by decide)
      refine ⟨_, rfl, bA, rfl, ⟨_, SqL.of (s1 _ _ hb)⟩, for_list (xs := as.map (·.1)) (fun i σ F => ∃ (th : Addr) (v10 : Option V) (zs : List Key), σ = [some (.ref a), some (.ref tn), some (.ref m), some (.ref v), some (.ref bA), v5, v6, v7, v8, some (.ref th), v10, none, none, none, none] ∧ Same G F ∧ F th = some (.lst (zs.map kV)) ∧ zs.length ≤ 2 * i ∧ ∀ t ∈ zs, t ∈ ms ∧ ∃ e ∈ as, t ∈ e.2.2) ⟨th0, none, [], rfl, s1, upd_same, Nat.le_refl _, fun _ z => nomatch z⟩ (fun i σ F _ z => ?_) ?_ ?_⟩
      · obtain ⟨_, _, _, _, z, _⟩ := z
        exact SqL.of (z _ _ hb)
      · rintro i x σ F hx ⟨th, v10, zs, rfl, sf, hth, lz, gz⟩
        rw [List.getElem?_map] at hx
        obtain ⟨e, hei, rfl⟩ := Option.map_eq_some_iff.mp hx
        have he := List.mem_of_getElem? hei
        have il := (List.getElem?_eq_some_iff.mp hei).1
        obtain ⟨ge, ae⟩ := ga e he
        obtain ⟨pe, qe, ee, hpe, hqe⟩ := ge.at_
        have le2 : e.2.2.length ≤ 2 := by rcases ae.1 with z | z <;> omega
        refine ⟨_, rfl, _, rfl, _, _, _, _, ee, rfl, SqT.of (sf _ _ hpe), atI_nat (j := 1) rfl, qe, rfl, ⟨_, SqT.of (sf _ _ hqe)⟩, fun D hD => ?_⟩
        refine comp_by (e.2.2.map kV).length (fun j σ' E' => (∃ v, σ' = [v, some (.ref m)]) ∧ Same F E' ∧ ∃ ys : List Key, E' D = some (.lst (ys.map kV)) ∧ ys.length ≤ j ∧ ∀ t ∈ ys, t ∈ ms ∧ t ∈ e.2.2) ⟨⟨_, rfl⟩, same_upd hD, [], upd_same, Nat.le_refl _, fun _ z => nomatch z⟩ (fun j σ' E' hj p => ?_) (fun σ' E' p => ⟨?_, ?_⟩) (fun j σ' E' hj p x E3 y => ?_)
        · exact ⟨_, (e.2.2.map kV)[j], SqT.of (p.2.1 _ _ (sf _ _ hqe)), List.getElem?_eq_getElem hj⟩
        · exact ⟨_, SqT.of (p.2.1 _ _ (sf _ _ hqe)), Nat.le_refl _⟩
        · obtain ⟨_, sm, ys, hy, ly, gy⟩ := p
          rw [List.length_map] at ly
          refine ⟨_, _, _, _, rfl, rfl, sm _ _ hth, hy, by rw [List.length_map, List.length_map]; exact Nat.le_trans (show _ ≤ 1000 by omega) (by decide), fun q hq => ?_⟩
          have s9 := same_upd (o := HO.lst (zs.map kV ++ ys.map kV)) hq
          refine ⟨q, _, zs ++ ys, rfl, sf.trans (sm.trans s9), by rw [upd_same, List.map_append], by rw [List.length_append]; omega, fun t ht => ?_⟩
          rcases List.mem_append.mp ht with ht | ht
          · exact gz t ht
          · exact ⟨(gy t ht).1, e, he, (gy t ht).2⟩
        · obtain ⟨⟨v', rfl⟩, sm, ys, hy, ly, gy⟩ := p
          obtain ⟨rfl, hx⟩ := y
          have hx' := hx _ (SqT.of (sm _ _ (sf _ _ hqe)))
          rw [List.getElem?_map] at hx'
          obtain ⟨t, ht, rfl⟩ := Option.map_eq_some_iff.mp hx'
          have hm := List.mem_of_getElem? ht
          refine ⟨_, rfl, _, rfl, keyD t, ms.map keyD, dat_tx (ge.ok t hm), .lst ((sg.trans (sf.trans sm)).seq hM) (dats_tx om), dd, ?_⟩
          rw [any_tx]
          refine ⟨_, rfl, ite2 (fun hin => ?_) (fun _ => ⟨⟨_, rfl⟩, sm, ys, hy, by omega, gy⟩)⟩
          refine ⟨_, rfl, _, hy, by rw [List.length_map]; rw [List.length_map] at hj; exact small1000 (by omega), ⟨_, rfl⟩, sm.set hD, ys ++ [t], by rw [upd_same, List.map_append]; rfl, by rw [List.length_append]; exact Nat.add_le_add_right ly 1, fun x hx => ?_⟩
          rcases List.mem_append.mp hx with hx | hx
          · exact gy x hx
          · rw [List.mem_singleton.mp hx]
            exact ⟨inK_iff.mp hin, hm⟩
      · rintro σ F ⟨th, v10, zs, rfl, sf, hth, lz, gz⟩
        rw [List.length_map] at lz
        have SF := sg.trans sf
        have ozs : ∀ t ∈ zs, TxOk t := fun t ht => om t (gz t ht).1
        have pv : ∀ t, t ∈ zs ∨ t ∈ ks → PV ms ks as t := fun t h => h.elim (fun h => .inr (gz t h)) .inl
        have w0 := Int.emod_nonneg (ns.getD (Int.toNat 14) 0) (show (5 : Int) ≠ 0 by decide)
        have w1 := Int.emod_lt_of_pos (ns.getD (Int.toNat 14) 0) (show (0 : Int) < 5 by decide)
        refine ⟨_, rfl, a, ns, 14, rfl, SF.seq hS, by decide, _, _, rfl, rfl, (by show (0 : Int) < 5; decide), ?_⟩
        refine ⟨_, rfl, _, rfl, by omega, by omega, fun D hD => ?_⟩
        refine comp_by (ns.getD (Int.toNat 14) 0 % 5).toNat (fun j σ' E' => (∃ v', σ' = [v', some (.ref th), some (.ref v), some (.ref a)]) ∧ Same F E' ∧ ∃ ts : List Key, E' D = some (.lst (ts.map kV)) ∧ ts.length = j ∧ ∀ t ∈ ts, PV ms ks as t) ⟨⟨_, rfl⟩, same_upd hD, [], upd_same, rfl, fun _ z => nomatch z⟩ (fun i σ' H' hi p => hi) (fun σ' E' p => ⟨Nat.le_refl _, ?_⟩) (fun j σ' E' hj p x E3 y => ?_)
        · obtain ⟨_, sm, ts, hts, lts, gts⟩ := p
          have lt4 : ts.length ≤ 4 := by omega
          refine ⟨_, _, rfl, .inl ⟨SqL.of hts, fun hd hhd => ?_⟩⟩
          have s2 := same_upd (o := HO.tup (ts.map kV)) hhd
          have eh := upd_same (H := E') (a := hd) (o := HO.tup (ts.map kV))
          have SE := sm.trans s2
          generalize upd E' hd (.tup (ts.map kV)) = E2 at *
          refine ⟨by decide, fun cA hcA => ?_⟩
          have s3 := same_upd (o := HO.lst []) hcA
          obtain ⟨n, hn, n0', n2'⟩ : ∃ n : Int, atI [V.int 0, V.int 1, V.int 0, V.int 2, V.int 1] (ns.getD (Int.toNat 14) 0 / 5 % 5) = some (V.int n) ∧ 0 ≤ n ∧ n ≤ 2 := by
            have w0 := Int.emod_nonneg (ns.getD (Int.toNat 14) 0 / 5) (show (5 : Int) ≠ 0 by decide)
            have w1 := Int.emod_lt_of_pos (ns.getD (Int.toNat 14) 0 / 5) (show (0 : Int) < 5 by decide)
            generalize ns.getD (Int.toNat 14) 0 / 5 % 5 = c at *
            have : c = 0 ∨ c = 1 ∨ c = 2 ∨ c = 3 ∨ c = 4 := by omega
            rcases this with rfl | rfl | rfl | rfl | rfl
            · exact ⟨0, rfl, by decide, by decide⟩
            · exact ⟨1, rfl, by decide, by decide⟩
            · exact ⟨0, rfl, by decide, by decide⟩
            · exact ⟨2, rfl, by decide, by decide⟩
            · exact ⟨1, rfl, by decide, by decide⟩
          refine ⟨by show 5 ≤ sizeLine; decide, fun q hq => ?_⟩
          have s4 := same_upd (o := HO.lst [V.int 0, V.int 1, V.int 0, V.int 2, V.int 1]) hq
          have s34 := s3.trans s4
          have hc4 := s4 _ _ (upd_same (H := E2) (a := cA) (o := HO.lst []))
          refine ⟨_, rfl, a, ns, 14, rfl, (SF.trans (SE.trans s34)).seq hS, by decide, _, _, rfl, rfl, ⟨by decide, by decide⟩, _, _, rfl, rfl, (by show (0 : Int) < 5; decide), _, _, _, _, rfl, rfl, SqL.of upd_same, hn, _, rfl, by omega, by omega, ?_⟩
          generalize upd (upd E2 cA (.lst [])) q (.lst [V.int 0, V.int 1, V.int 0, V.int 2, V.int 1]) = E4 at *
          refine for_range (lo := 0) (n := n.toNat) (fun i σ J => ∃ (v5 v6 v7 v14 : Option V) (cs : List (V × CT)), σ = [some (.ref a), some (.ref tn), some (.ref m), some (.ref v), some (.ref bA), v5, v6, v7, v8, some (.ref th), v10, some (.int (ns.getD (Int.toNat 14) 0 % 5)), some (.ref hd), some (.ref cA), v14] ∧ Same E2 J ∧ J cA = some (.lst (cs.map (·.1))) ∧ cs.length = i ∧ ∀ e ∈ cs, CGood J e ∧ PV ms ks as e.2.2.1 ∧ PV ms ks as e.2.2.2 ∧ SgOk e.2.1) ⟨v5, v6, v7, none, [], rfl, s34, hc4, rfl, fun _ z => nomatch z⟩ ?_ ?_
          · rintro i σ J hi ⟨v5, v6, v7, v14, cs, rfl, sj, hc, lc, gc⟩
            have SJ := SF.trans (SE.trans sj)
            have hthJ := (SE.trans sj) _ _ hth
            obtain ⟨z, hz, ez⟩ : ∃ z : Str, atI [V.str "<", V.str "!=", V.str "="] (ns.getD (19 + (0 + (i : Int))).toNat 0 % 3) = some (.str z) ∧ SgOk z := by
              have w0 := Int.emod_nonneg (ns.getD (19 + (0 + (i : Int))).toNat 0) (show (3 : Int) ≠ 0 by decide)
              have w1 := Int.emod_lt_of_pos (ns.getD (19 + (0 + (i : Int))).toNat 0) (show (0 : Int) < 3 by decide)
              generalize ns.getD (19 + (0 + (i : Int))).toNat 0 % 3 = c at *
              have : c = 0 ∨ c = 1 ∨ c = 2 := by omega
              rcases this with rfl | rfl | rfl
              · exact ⟨sgL, rfl, .inr (.inr rfl)⟩
              · exact ⟨sgN, rfl, .inr (.inl rfl)⟩
              · exact ⟨sgE, rfl, .inl rfl⟩
            refine ⟨by show 3 ≤ sizeLine; decide, fun q hq => ?_⟩
            have s5 := same_upd (o := HO.lst [V.str "<", V.str "!=", V.str "="]) hq
            refine ⟨_, rfl, _, rfl, _, _, rfl, rfl, a, ns, _, rfl, (SJ.trans s5).seq hS, by omega, _, _, rfl, rfl, (by show (0 : Int) < 3; decide), _, _, _, _, rfl, rfl, SqL.of upd_same, hz, ?_⟩
            have hc5 := s5 _ _ hc
            have SJ5 := SJ.trans s5
            have hth5 := s5 _ _ hthJ
            have sj5 := sj.trans s5
            have gc5 : ∀ e ∈ cs, CGood (upd J q (.lst [V.str "<", V.str "!=", V.str "="])) e ∧ PV ms ks as e.2.2.1 ∧ PV ms ks as e.2.2.2 ∧ SgOk e.2.1 := fun e he => ⟨(gc e he).1.same s5, (gc e he).2⟩
            generalize upd J q (.lst [V.str "<", V.str "!=", V.str "="]) = J5 at *
            refine ⟨_, rfl, _, rfl, _, _, rfl, rfl, a, ns, _, rfl, SJ5.seq hS, by omega, ?_⟩
            refine ⟨_, rfl, _, rfl, _, th, v, zs, ks, rfl, SqL.of hth5, SJ5.seq hV, l3, by omega, ozs, fun t1 J6 s6 ht1 => ?_⟩
            refine ⟨_, rfl, _, rfl, _, _, rfl, rfl, a, ns, _, rfl, (SJ5.trans s6).seq hS, by omega, ?_⟩
            refine ⟨_, rfl, _, rfl, _, th, v, zs, ks, rfl, SqL.of (s6 _ _ hth5), (SJ5.trans s6).seq hV, l3, by omega, ozs, fun t2 J7 s7 ht2 => ?_⟩
            have s67 := s6.trans s7
            have hc7 := s67 _ _ hc5
            refine ⟨_, rfl, .inl ⟨rfl, _, SqL.of hc7⟩, _, rfl, _, rfl, _, rfl, by show 3 ≤ sizeLine; decide, fun q2 hq2 => ?_⟩
            have s8 := same_upd (o := HO.tup [V.str z, kV t1, kV t2]) hq2
            have e8 := upd_same (H := J7) (a := q2) (o := HO.tup [V.str z, kV t1, kV t2])
            have s68 := s67.trans s8
            generalize upd J7 q2 (.tup [V.str z, kV t1, kV t2]) = J8 at *
            have hc8 := s8 _ _ hc7
            refine ⟨cA, _, _, rfl, rfl, hc8, by rw [List.length_map]; exact small1000 (by omega), ?_⟩
            refine ⟨_, _, _, _, cs ++ [(.ref q2, (z, t1, t2))], rfl, (sj5.trans s68).set hcA, by rw [upd_same, List.map_append]; rfl, by rw [List.length_append, lc]; rfl, fun e he => ?_⟩
            rcases List.mem_append.mp he with he | he
            · exact ⟨((gc5 e he).1.same s68).set hc8, (gc5 e he).2⟩
            · rw [List.mem_singleton.mp he]
              exact ⟨CGood.set ⟨⟨q2, rfl, e8⟩, ht1.elim (ozs _) (ok _), ht2.elim (ozs _) (ok _)⟩ hc8, pv t1 ht1, pv t2 ht2, ez⟩
          · rintro σ J ⟨v5, v6, v7, v14, cs, rfl, sj, hc, lc, gc⟩
            have SJ := SF.trans (SE.trans sj)
            have sGJ := sf.trans (SE.trans sj)
            obtain ⟨z, hz⟩ : ∃ z : Str, atI [V.str n0, V.str n1, V.str n2] (ns.getD (Int.toNat 14) 0 / 25 % 3) = some (.str z) := by
              have w0 := Int.emod_nonneg (ns.getD (Int.toNat 14) 0 / 25) (show (3 : Int) ≠ 0 by decide)
              have w1 := Int.emod_lt_of_pos (ns.getD (Int.toNat 14) 0 / 25) (show (0 : Int) < 3 by decide)
              generalize ns.getD (Int.toNat 14) 0 / 25 % 3 = c at *
              have : c = 0 ∨ c = 1 ∨ c = 2 := by omega
              rcases this with rfl | rfl | rfl
              · exact ⟨n0, rfl⟩
              · exact ⟨n1, rfl⟩
              · exact ⟨n2, rfl⟩
            refine ⟨_, rfl, _, rfl, a, ns, 14, rfl, SJ.seq hS, by decide, _, _, rfl, rfl, ⟨by decide, by decide⟩, _, _, rfl, rfl, (by show (0 : Int) < 3; decide), _, _, _, _, rfl, rfl, SJ.seq hT, hz, _, rfl, by show 2 ≤ sizeLine; decide, fun q1 hq1 => ?_⟩
            have s5 := same_upd (o := HO.tup [V.str z, .ref hd]) hq1
            refine ⟨_, rfl, _, _, rfl, .inl ⟨SqL.of (s5 _ _ (sGJ _ _ hb)), fun q2 hq2 => ?_⟩⟩
            have s6 := same_upd (o := HO.tup (as.map (·.1))) hq2
            refine ⟨_, rfl, _, _, rfl, .inl ⟨SqL.of (s6 _ _ (s5 _ _ hc)), fun q3 hq3 => ?_⟩⟩
            have s7 := same_upd (o := HO.tup (cs.map (·.1))) hq3
            refine ⟨by show 3 ≤ sizeLine; decide, fun r hr' => ?_⟩
            have s8 := same_upd (o := HO.tup [V.ref q1, .ref q2, .ref q3]) hr'
            have s58 := s5.trans (s6.trans (s7.trans s8))
            refine k r q1 hd z ts as cs _ (SJ.trans s58) ⟨⟨q2, q3, SqT.of upd_same, SqT.of ((s7.trans s8) _ _ upd_same), SqT.of (s8 _ _ upd_same)⟩, fun e he => (ga e he).1.same (sGJ.trans s58), fun e he => (gc e he).1.same s58, by omega, by omega⟩ ((s6.trans (s7.trans s8)) _ _ upd_same) ((sj.trans s58) _ _ eh) lt4 la (by omega) (fun e he => (ga e he).2) gts fun e he => (gc e he).2
        · obtain ⟨⟨v', rfl⟩, sm, ts, hts, lts, gts⟩ := p
          obtain ⟨rfl, rfl⟩ := y
          have SE := SF.trans sm
          refine ⟨_, rfl, _, rfl, _, _, rfl, rfl, a, ns, _, rfl, SE.seq hS, by omega, ?_⟩
          refine ⟨_, rfl, _, rfl, _, th, v, zs, ks, rfl, SqL.of (sm _ _ hth), SE.seq hV, l3, by omega, ozs, fun t E4 s4 ht => ?_⟩
          refine ⟨_, s4 _ _ hts, by rw [List.length_map, lts]; exact small1000 (by omega), ⟨_, rfl⟩, (sm.trans s4).set hD, ts ++ [t], by rw [upd_same, List.map_append]; rfl, by rw [List.length_append, lts]; rfl, fun x hx => ?_⟩
          rcases List.mem_append.mp hx with hx | hx
          · exact gts x hx
          · rw [List.mem_singleton.mp hx]
            exact pv t ht
    · refine ⟨by decide, fun bA hbA => ?_⟩
      have s1 := same_upd (o := HO.lst []) hbA
      obtain ⟨n, hn, n0', n2'⟩ : ∃ n : Int, atI [V.int 2, V.int 1, V.int 2, V.int 0, V.int 2, V.int 1] (ns.getD (Int.toNat 6) 0 % 6) = some (V.int n) ∧ 0 ≤ n ∧ n ≤ 2 := by
        have w0 := Int.emod_nonneg (ns.getD (Int.toNat 6) 0) (show (6 : Int) ≠ 0 by decide)
        have w1 := Int.emod_lt_of_pos (ns.getD (Int.toNat 6) 0) (show (0 : Int) < 6 by decide)
        generalize ns.getD (Int.toNat 6) 0 % 6 = c at *
        have : c = 0 ∨ c = 1 ∨ c = 2 ∨ c = 3 ∨ c = 4 ∨ c = 5 := by omega
        rcases this with rfl | rfl | rfl | rfl | rfl | rfl
        · exact ⟨2, rfl, by decide, by decide⟩
        · exact ⟨1, rfl, by decide, by decide⟩
        · exact ⟨2, rfl, by decide, by decide⟩
        · exact ⟨0, rfl, by decide, by decide⟩
        · exact ⟨2, rfl, by decide, by decide⟩
        · exact ⟨1, rfl, by decide, by decide⟩
      refine ⟨by show 6 ≤ sizeLine; decide, fun q hq => ?_⟩
      have s2 := same_upd (o := HO.lst [V.int 2, V.int 1, V.int 2, V.int 0, V.int 2, V.int 1]) hq
      have s12 := s1.trans s2
      have hb2 := s2 _ _ (upd_same (H := H) (a := bA) (o := HO.lst []))
      refine ⟨_, rfl, a, ns, 6, rfl, s12.seq hS, by decide, _, _, rfl, rfl, (by show (0 : Int) < 6; decide), _, _, _, _, rfl, rfl, SqL.of upd_same, hn, _, rfl, by omega, by omega, ?_⟩
      generalize upd (upd H bA (.lst [])) q (.lst [V.int 2, V.int 1, V.int 2, V.int 0, V.int 2, V.int 1]) = G at *
      refine for_range (lo := 0) (n := n.toNat) (fun i σ G => ∃ (v5 v6 v7 : Option V) (as : List (V × AT)), σ = [some (.ref a), some (.ref tn), some (.ref m), some (.ref v), some (.ref bA), v5, v6, v7, none, none, none, none, none, none, none] ∧ Same H G ∧ G bA = some (.lst (as.map (·.1))) ∧ as.length = i ∧ ∀ e ∈ as, AGood G e ∧ AtOk n0 n1 n2 ms ks e.2) ⟨none, none, none, [], rfl, s12, hb2, rfl, fun _ z => nomatch z⟩ ?_ ?_
      · rintro i σ G hi ⟨v5, v6, v7, as, rfl, sg, hb, la, ga⟩
        refine ⟨_, rfl, _, rfl, _, _, rfl, rfl, .inl ⟨by decide, by decide⟩, _, _, rfl, rfl, a, ns, _, rfl, sg.seq hS, by omega, ?_⟩
        refine ⟨_, rfl, _, rfl, _, m, v, ms, ks, rfl, sg.seq hM, sg.seq hV, l3, by omega, om, fun t1 G2 s2 ht1 => ?_⟩
        refine ⟨_, rfl, _, rfl, _, _, rfl, rfl, .inl ⟨by decide, by decide⟩, _, _, rfl, rfl, a, ns, _, rfl, (sg.trans s2).seq hS, by omega, ?_⟩
        refine ⟨_, rfl, _, rfl, _, m, v, ms, ks, rfl, (sg.trans s2).seq hM, (sg.trans s2).seq hV, l3, by omega, om, fun t2 G3 s3 ht2 => ?_⟩
        have S3 := sg.trans (s2.trans s3)
        have hb3 := (s2.trans s3) _ _ hb
        obtain ⟨z, hz, ez⟩ : ∃ z : Str, atI [V.str n0, V.str n1, V.str n2] (ns.getD (9 + 3 * (0 + (i : Int))).toNat 0 % 2) = some (.str z) ∧ (z = n0 ∨ z = n1) := by
          have w0 := Int.emod_nonneg (ns.getD (9 + 3 * (0 + (i : Int))).toNat 0) (show (2 : Int) ≠ 0 by decide)
          have w1 := Int.emod_lt_of_pos (ns.getD (9 + 3 * (0 + (i : Int))).toNat 0) (show (0 : Int) < 2 by decide)
          generalize ns.getD (9 + 3 * (0 + (i : Int))).toNat 0 % 2 = c at *
          have : c = 0 ∨ c = 1 := by omega
          rcases this with rfl | rfl
          · exact ⟨n0, rfl, .inl rfl⟩
          · exact ⟨n1, rfl, .inr rfl⟩
        refine ⟨_, rfl, .inl ⟨rfl, _, SqL.of hb3⟩, _, rfl, _, rfl, _, rfl, _, _, rfl, rfl, .inl ⟨by decide, by decide⟩, _, _, rfl, rfl, a, ns, _, rfl, S3.seq hS, by omega, _, _, rfl, rfl, (by show (0 : Int) < 2; decide), _, _, _, _, rfl, rfl, S3.seq hT, hz, ?_⟩
        refine ⟨_, rfl, _, rfl, by show 2 ≤ sizeLine; decide, fun q1 hq1 => ⟨by show 2 ≤ sizeLine; decide, fun q2 hq2 => ?_⟩⟩
        have s4 := same_upd (o := HO.tup [kV t1, kV t2]) hq1
        have s5 := same_upd (o := HO.tup [V.str z, .ref q1]) hq2
        have av : AVh (upd (upd G3 q1 (.tup [kV t1, kV t2])) q2 (.tup [V.str z, .ref q1])) (.ref q2, (z, [t1, t2])) := ⟨q2, q1, rfl, upd_same, s5 _ _ upd_same⟩
        have s45 := s4.trans s5
        generalize upd (upd G3 q1 (.tup [kV t1, kV t2])) q2 (.tup [V.str z, .ref q1]) = G5 at *
        have hb5 := s45 _ _ hb3
        have S5 := S3.trans s45
        have ga5 : ∀ e ∈ as, AGood G5 e ∧ AtOk n0 n1 n2 ms ks e.2 := fun e he => ⟨(ga e he).1.same (s2.trans (s3.trans s45)), (ga e he).2⟩
        refine ⟨bA, _, _, rfl, rfl, hb5, by rw [List.length_map]; exact small1000 (by omega), ?_⟩
        refine ⟨_, _, _, as ++ [(.ref q2, (z, [t1, t2]))], rfl, S5.set hbA, by rw [upd_same, List.map_append]; rfl, by rw [List.length_append, la]; rfl, fun e he => ?_⟩
        rcases List.mem_append.mp he with he | he
        · exact ⟨(ga5 e he).1.set hb5, (ga5 e he).2⟩
        · rw [List.mem_singleton.mp he]
          have two : ∀ t ∈ [t1, t2], t ∈ ms ∨ t ∈ ks := fun t ht => by
            simp only [List.mem_cons, List.not_mem_nil, or_false] at ht
            rcases ht with rfl | rfl
            · exact ht1
            · exact ht2
          exact ⟨AGood.set ⟨av, fun t ht => txok t (two t ht), by show 2 ≤ 100; decide⟩ hb5, .inl ⟨ez, rfl⟩, two⟩
      · rintro σ G ⟨v5, v6, v7, as, rfl, sg, hb, la, ga⟩
        have hi2 : as.length ≤ 2 := by omega
        refine ⟨_, rfl, a, ns, 6, rfl, sg.seq hS, by decide, _, _, rfl, rfl, ⟨by decide, by decide⟩, _, _, rfl, rfl, (by show (0 : Int) < 2; decide), rfl, _, rfl, ite2 (fun _ => ?_) (fun _ => hC _ _ ⟨bA, as, _, _, _, _, rfl, sg, hb, by omega, ga⟩)⟩
        have x0 := Int.emod_nonneg (ns.getD (Int.toNat 6) 0 / 12) (show ((as.map (·.1)).length : Int) + 1 ≠ 0 by omega)
        have x1 := Int.emod_lt_of_pos (ns.getD (Int.toNat 6) 0 / 12) (show (0 : Int) < ((as.map (·.1)).length : Int) + 1 by omega)
        refine ⟨_, rfl, a, ns, 6, rfl, sg.seq hS, by decide, _, _, rfl, rfl, ⟨by decide, by decide⟩, _, rfl, _, _, rfl, .inl ⟨_, SqL.of hb, rfl⟩, _, _, rfl, rfl, _, _, rfl, rfl, (by show (0 : Int) < ((as.map (·.1)).length : Int) + 1; omega), ?_⟩
        refine ⟨_, rfl, .inl ⟨rfl, _, SqL.of hb⟩, _, rfl, _, rfl, _, _, _, _, rfl, rfl, sg.seq hT, atI_nat (j := 2) rfl, ?_⟩
        refine ⟨_, rfl, a, ns, 13, rfl, sg.seq hS, by decide, _, rfl, _, rfl, _, m, v, ms, ks, rfl, sg.seq hM, sg.seq hV, l3, by omega, om, fun t1 G2 s2 ht1 => ?_⟩
        refine ⟨by show 1 ≤ sizeLine; decide, fun q1 hq1 => ⟨by show 2 ≤ sizeLine; decide, fun q2 hq2 => ?_⟩⟩
        have s4 := same_upd (o := HO.tup [kV t1]) hq1
        have s5 := same_upd (o := HO.tup [V.str n2, .ref q1]) hq2
        have av : AVh (upd (upd G2 q1 (.tup [kV t1])) q2 (.tup [V.str n2, .ref q1])) (.ref q2, (n2, [t1])) := ⟨q2, q1, rfl, upd_same, s5 _ _ upd_same⟩
        have s25 := s2.trans (s4.trans s5)
        generalize upd (upd G2 q1 (.tup [kV t1])) q2 (.tup [V.str n2, .ref q1]) = G5 at *
        have hb5 := s25 _ _ hb
        refine ⟨bA, _, .ref q2, ns.getD (Int.toNat 6) 0 / 12 % (((as.map (·.1)).length : Int) + 1), rfl, rfl, hb5, by rw [List.length_map]; exact Nat.lt_of_le_of_lt hi2 (by decide), x0, by omega, ?_⟩
        generalize ns.getD (Int.toNat 6) 0 / 12 % (((as.map (·.1)).length : Int) + 1) = c at *
        refine hC _ _ ⟨bA, as.take c.toNat ++ (.ref q2, (n2, [t1])) :: as.drop c.toNat, _, _, _, _, rfl, (sg.trans s25).set hbA, by rw [upd_same, List.map_append, List.map_cons, List.map_take, List.map_drop], ?_, fun e he => ?_⟩
        · rw [List.length_append, List.length_cons, List.length_take, List.length_drop]
          omega
        · have old : e ∈ as → AGood (upd G5 bA (.lst ((as.map (·.1)).take c.toNat ++ .ref q2 :: (as.map (·.1)).drop c.toNat))) e ∧ AtOk n0 n1 n2 ms ks e.2 := fun he => ⟨((ga e he).1.same s25).set hb5, (ga e he).2⟩
          rcases List.mem_append.mp he with he | he
          · exact old (List.mem_of_mem_take he)
          · rcases List.mem_cons.mp he with rfl | he
            · have one : ∀ t ∈ [t1], t ∈ ms ∨ t ∈ ks := fun t ht => by
                rw [List.mem_singleton.mp ht]
                exact ht1
              exact ⟨AGood.set ⟨av, fun t ht => txok t (one t ht), by show 1 ≤ 100; decide⟩ hb5, .inr ⟨rfl, rfl⟩, one⟩
            · exact old (List.mem_of_mem_drop he)
end
end Wy
namespace Wy
open PySem L2
structure TOk (S : List Key) (n0 n1 n2 : Str) (tb : Str → List RW) : Prop where
  len : ∀ z, (tb z).length ≤ 9
  vals : ∀ z, ∀ e ∈ tb z, ∀ u ∈ e.2, u ∈ S
  two : ∀ z, z = n0 ∨ z = n1 → ∀ e ∈ tb z, e.2.length = 2
  one : ∀ e ∈ tb n2, e.2.length = 1
theorem AtOk.len {n0 n1 n2 : Str} {ms ks S : List Key} {tb : Str → List RW} {a : AT} {e : RW} (h : AtOk n0 n1 n2 ms ks a) (t : TOk S n0 n1 n2 tb) (he : e ∈ tb a.1) : a.2.length = e.2.length := by
  rcases h.1 with ⟨h1, h2⟩ | ⟨h1, h2⟩
  · rw [h2, t.two a.1 h1 e he]
  · rw [h1] at he
    rw [h2, t.one e he]
theorem so3_ok {x y : Int} {z : Str} (wz : Wz 12 z) {u : Key} (h : u ∈ so3 x y z) : OkK u ∧ TxOk u := by
  simp only [so3, List.mem_cons, List.not_mem_nil, or_false] at h
  rcases h with rfl | rfl | rfl
  · exact ⟨True.intro, True.intro⟩
  · exact ⟨True.intro, True.intro⟩
  · exact ⟨wz.le (by decide), Nat.le_trans wz.1 (by decide), wz.ok⟩
theorem so3_no {x y : Int} {z : Str} (nv : txtB capS z = false) {u : Key} (h : u ∈ so3 x y z) : txtK capS u = false := by
  simp only [so3, List.mem_cons, List.not_mem_nil, or_false] at h
  rcases h with rfl | rfl | rfl
  · rfl
  · rfl
  · exact nv
theorem cap_lt : ∀ c ∈ capS.cps.toList, c < 0x110000 := by decide +kernel
theorem tx_cap {z : Str} (h : txtB capS z = true) : TxOk (.inr z) := by
  have h1 : 1 ≤ z.length ∧ z.length ≤ 12 := by
    by_cases c : 1 ≤ z.length ∧ z.length ≤ 12
    · exact c
    · rw [txtB_len c] at h
      cases h
  rw [txtB_ok h1.1 h1.2] at h
  refine ⟨Nat.le_trans h1.2 (by decide), strOk_of fun c hc => ?_⟩
  obtain ⟨c0, r, e⟩ := split_list h1.1
  rw [e] at h hc
  have h : (decide (c0 ∈ capS.cps.toList) && r.all fun d => decide (d ∈ fur.cps.toList)) = true := h
  obtain ⟨h2, h3⟩ := (Bool.and_eq_true ..).mp h
  rcases List.mem_cons.mp hc with rfl | hc
  · exact cap_lt c (of_decide_eq_true h2)
  · exact fur_lt c (of_decide_eq_true (List.all_eq_true.mp h3 c hc))
theorem tabs_mk {K : PySem.W.Frag} {H : Hp} {tA : Addr} {tvs : List (Key × V)} {S : List Key} {n0 n1 n2 : Str} {p0 p1 p2 : Addr} {rs0 rs1 rs2 : List RW} (d01 : n0 ≠ n1) (d02 : n0 ≠ n2) (d12 : n1 ≠ n2) (ht : H tA = some (.dK tvs))
    (h0 : H p0 = some (.lst (rs0.map (·.1)))) (h1 : H p1 = some (.lst (rs1.map (·.1)))) (h2 : H p2 = some (.lst (rs2.map (·.1)))) (r0 : RowsOf K H S 2 rs0) (r1 : RowsOf K H S 2 rs1) (r2 : RowsOf K H S 1 rs2) (l0 : rs0.length ≤ 9) (l1 : rs1.length ≤ 9) (l2 : rs2.length ≤ 9)
    (hv : ∀ zz, valV tvs (.inr zz) = none ∨ ∃ pj, valV tvs (.inr zz) = some (.ref pj) ∧ ((zz = n0 ∧ pj = p0) ∨ (zz = n1 ∧ pj = p1) ∨ (zz = n2 ∧ pj = p2))) : ∃ tb, TabsAt K H tA tvs tb ∧ TOk S n0 n1 n2 tb := by
  have ex : ∀ zz, ∃ rs : List RW, ((valV tvs (.inr zz) = none ∧ rs = []) ∨ ∃ a, valV tvs (.inr zz) = some (.ref a) ∧ H a = some (.lst (rs.map (·.1)))) ∧ (rs = [] ∨ (zz = n0 ∧ rs = rs0) ∨ (zz = n1 ∧ rs = rs1) ∨ (zz = n2 ∧ rs = rs2)) := fun zz => by
    rcases hv zz with e | ⟨pj, e, h⟩
    · exact ⟨[], .inl ⟨e, rfl⟩, .inl rfl⟩
    · rcases h with ⟨e1, rfl⟩ | ⟨e1, rfl⟩ | ⟨e1, rfl⟩
      · exact ⟨rs0, .inr ⟨_, e, h0⟩, .inr (.inl ⟨e1, rfl⟩)⟩
      · exact ⟨rs1, .inr ⟨_, e, h1⟩, .inr (.inr (.inl ⟨e1, rfl⟩))⟩
      · exact ⟨rs2, .inr ⟨_, e, h2⟩, .inr (.inr (.inr ⟨e1, rfl⟩))⟩
  obtain ⟨tb, htb⟩ := Classical.axiomOfChoice ex
  have len : ∀ z, (tb z).length ≤ 9 := fun z => by
    rcases (htb z).2 with e | ⟨_, e⟩ | ⟨_, e⟩ | ⟨_, e⟩ <;> rw [e]
    · exact Nat.zero_le _
    · exact l0
    · exact l1
    · exact l2
  refine ⟨tb, ⟨ht, fun z => (htb z).1, fun z e he => ?_, fun z => Nat.le_trans (len z) (by decide)⟩, len, fun z e he => ?_, fun z hz e he => ?_, fun e he => ?_⟩
  · rcases (htb z).2 with q | ⟨_, q⟩ | ⟨_, q⟩ | ⟨_, q⟩ <;> rw [q] at he
    · cases he
    · exact (r0 e he).1
    · exact (r1 e he).1
    · exact (r2 e he).1
  · rcases (htb z).2 with q | ⟨_, q⟩ | ⟨_, q⟩ | ⟨_, q⟩ <;> rw [q] at he
    · cases he
    · exact (r0 e he).2.2
    · exact (r1 e he).2.2
    · exact (r2 e he).2.2
  · rcases (htb z).2 with q | ⟨_, q⟩ | ⟨_, q⟩ | ⟨z2, q⟩ <;> rw [q] at he
    · cases he
    · exact (r0 e he).2.1
    · exact (r1 e he).2.1
    · rcases hz with hz | hz
      · exact absurd (hz.symm.trans z2) d02
      · exact absurd (hz.symm.trans z2) d12
  · rcases (htb n2).2 with q | ⟨z2, q⟩ | ⟨z2, q⟩ | ⟨_, q⟩ <;> rw [q] at he
    · cases he
    · exact absurd z2.symm d02
    · exact absurd z2.symm d12
    · exact (r2 e he).2.1
theorem zips_in {S : List Key} {tb : Str → List RW} (hS : ∀ z, ∀ e ∈ tb z, ∀ u ∈ e.2, u ∈ S) : ∀ {as : List AT} {us : List RW}, WayOk tb as us → ∀ p ∈ zipsK as us, p.2 ∈ S
  | [], _, _, p, h => nomatch h
  | _ :: _, [], _, p, h => nomatch h
  | a :: as, e :: us, w, p, h => by
    rcases List.mem_append.mp (show p ∈ a.2.zip e.2 ++ zipsK as us from h) with h | h
    · exact hS _ _ (w.2 0 a e rfl rfl) _ (zip_in h)
    · exact zips_in hS (as := as) (us := us) ⟨by simpa using w.1, fun i a' e' h1 h2 => w.2 (i + 1) a' e' h1 h2⟩ p h
theorem zips_of {tb : Str → List RW} {t : Key} : ∀ {as : List AT} {us : List RW}, WayOk tb as us → (∀ a ∈ as, ∀ e ∈ tb a.1, a.2.length = e.2.length) → ∀ a ∈ as, t ∈ a.2 → ∃ v, (t, v) ∈ zipsK as us
  | [], _, _, _, a, h, _ => nomatch h
  | _ :: _, [], w, _, a, h, _ => nomatch w.1
  | b :: as, e :: us, w, l, a, h, ht => by
    rcases List.mem_cons.mp h with rfl | h
    · obtain ⟨v, hv⟩ := mem_zip ht (l a (List.mem_cons_self ..) e (w.2 0 a e rfl rfl))
      exact ⟨v, List.mem_append_left _ hv⟩
    · obtain ⟨v, hv⟩ := zips_of (as := as) (us := us) ⟨by simpa using w.1, fun i a' e' h1 h2 => w.2 (i + 1) a' e' h1 h2⟩ (fun b' hb => l b' (List.mem_cons_of_mem _ hb)) a h ht
      exact ⟨v, List.mem_append_right _ hv⟩
end Wy
namespace Wy
open PySem L2
def LawC (K : PySem.W.Frag) (a : Addr) (H : Hp) (σ : L2.St) (G : Hp) : Prop := ∃ (sA vA mA rA nA tA : Addr) (v7 : Option V) (x y : Int) (z : Str) (ks ms : List Key) (n0 n1 n2 : Str) (tvs : List (Key × V)) (tb : Str → List RW),
  σ = [some (.ref a), some (.ref sA), some (.ref vA), some (.ref mA), some (.ref rA), some (.ref nA), some (.ref tA), v7, none, none, none, none, none] ∧ Same H G ∧ G sA = some (.lst ((so3 x y z).map kV)) ∧ G vA = some (.lst (ks.map kV)) ∧ x < y ∧ Wz 12 z ∧ txtB capS z = false ∧ ks.length = 3 ∧ (∀ k ∈ ks, k ∈ so3 x y z) ∧
  G mA = some (.lst (ms.map kV)) ∧ ms.length = 4 ∧ (∀ t ∈ ms, TxOk t ∧ txtK capS t = true) ∧ G nA = some (.lst [.str n0, .str n1, .str n2]) ∧ TabsAt K G tA tvs tb ∧ TOk (so3 x y z) n0 n1 n2 tb
def sp_law (K : PySem.W.Frag) : Sp := fun vs H Q _ => ∃ (a : Addr) (ns : List Int), vs = [.ref a] ∧ SqL K H a (ns.map V.int) ∧ ns.length ≤ 63 ∧ ∀ H', Q (.bl true) H'
theorem ok_law {l : PySem.W.OpenLaw} {w : World} {K : PySem.W.Frag} {mg : Str → Option Value} {fa : Addr} (T : Txt K mg) (hfa : mg "law" = some (.ref fa)) :
    ∃ fd : FuncData, (∀ (s : Shared) (v : Value), BindsTo s fd ⟨[v], []⟩ [("_law_script", v)]) ∧ ∀ base : Heap, K.In base → base.Ns mainGlobals mg → FnOk l.prog w K mg base CX0 12 fa fd ["_law_script"] (sp_law K) := by
  refine T.t_law.fin hfa sc_law (fun vs H Q E h => ?_) fun base f cdv A outer s H vs Q E hr h => ?_
  · obtain ⟨a, ns, rfl, _⟩ := h
    rfl
  · obtain ⟨a, ns, rfl, hS, hlen, k⟩ := h
    refine join_at 7 (LawC K a H) ⟨_, (pss_4
      (ps_set (i := 8) sc_law.nd rfl (Or.inl rfl) (pe_def (ok__law_rule T) hr rfl (pa_4 (pv 0) (pv 5) (pv 3) (pv 2))))
      (ps_set (i := 9) sc_law.nd rfl (Or.inl rfl) (pe_def (ok_instances T) hr rfl (pa_2 (pv 8) (pv 6))))
      (ps_for PassesOwn.never rfl (pi_listK K (pe_def (ok__law_all_ways T) hr rfl (pa_2 (pe_ix (ix_tupK K) (pv 8) pe_int (fun _ _ => rfl)) (pv 6)))) (pg_name (i := 10) sc_law.nd rfl (Or.inl rfl)) (pss_2
      (ps_set (i := 11) sc_law.nd rfl (Or.inr rfl) (pe_def (ok__law_binding T) hr rfl (pa_3 (pe_ix (ix_tupK K) (pv 8) pe_int (fun _ _ => rfl)) (pv 10) (pv 3))))
      (ps_if (PW.pt (pw_and (pt_cmpR op_notN (pv 11) pe_non (nomark _)) (pw_and1 (pt_val (pe_def (ok__law_chosen T) hr rfl (pa_3 (pe_ix (ix_tupK K) (pv 8) pe_int (fun _ _ => rfl)) (pv 11) (pv 1))))))) (pss_2
      (ps_set (i := 12) sc_law.nd rfl (Or.inl rfl) (pe_callTy (call_tupleK K) rfl T.b_tuple bt_tuple (pa_1 (pe_comp (N := ["_law_term_here", "_law_binding_here"]) (caps := [none, some 11]) rfl (by with_unfolding_all rfl) (pi_tupK K (pe_ix (ix_tupK K) (pe_ix (ix_tupK K) (pv 8) pe_int (fun _ _ => rfl)) pe_int (fun _ _ => rfl))) (fun _ _ _ _ _ => (pg_name (i := 0) (show (["_law_term_here", "_law_binding_here"] : List Str).Nodup by decide +kernel) rfl (Or.inl rfl))) (fun _ _ _ _ _ => pf_nil) (fun _ _ _ _ _ => (pe_dget2 (hu_of hr) (pv 1) (pv 0) (pv 0) ⟨rfl, rfl, rfl, rfl⟩))))))
      (ps_if (pt_cmpR (op_notInD hr.units K) (pe_tup (pa_2 (pv 12) (pv 10))) (pv 9) (by with_unfolding_all rfl)) (pss_one (ps_ret pe_bl)) pss_nil)) pss_nil)))
      (ps_ret (pe_callB (call_isi K) rfl T.b_isinstance bt_isinstance (pa_2 (pv 9) (pe_ty rfl T.b_list bt_list))))), ?_⟩ (fun u hu hC => ⟨_, (psr_7
      (ps_asg (pe_def (ok__law_values T) hr rfl (pa_1 (pv 0))) (pg_tup rfl (pgs_cons (pg_name (i := 1) sc_law.nd rfl (Or.inl rfl)) (pgs_cons (pg_name (i := 2) sc_law.nd rfl (Or.inl rfl)) pgs_nil))))
      (ps_set (i := 3) sc_law.nd rfl (Or.inl rfl) (pe_def (ok__law_marks T) hr rfl (pa_1 (pe_def (ok__law_cell_at T) hr rfl (pa_2 (pv 0) pe_int)))))
      (ps_set (i := 4) sc_law.nd rfl (Or.inl rfl) (pe_lst (pa_2 (pe_def (ok__law_pairs T) hr rfl (pa_2 (pe_def (ok__law_cell_at T) hr rfl (pa_2 (pv 0) pe_int)) (pv 1))) (pe_def (ok__law_pairs T) hr rfl (pa_2 (pe_def (ok__law_cell_at T) hr rfl (pa_2 (pv 0) pe_int)) (pv 1))))))
      (ps_expr (pe_bm PySem.F.plainAttrs_list PySem.F.slot_list_append PySem.F.type_list_append mt_append (pv 4) (pa_1 (pe_def (ok__law_singles T) hr rfl (pa_2 (pe_op op_fdiv (pe_def (ok__law_cell_at T) hr rfl (pa_2 (pv 0) pe_int)) pe_int) (pv 1))))))
      (ps_set (i := 5) sc_law.nd rfl (Or.inl rfl) (pe_ix (ix_listK K) (pe_lst (pa_2 (pe_lst (pa_3 pe_str pe_str pe_str)) (pe_lst (pa_3 pe_str pe_str pe_str)))) (pe_op op_mod (pe_def (ok__law_cell_at T) hr rfl (pa_2 (pv 0) pe_int)) pe_int) (fun _ _ => rfl)))
      (ps_set (i := 6) sc_law.nd rfl (Or.inl rfl) pe_dnewK)
      (ps_for PassesOwn.never rfl (pi_listK K (pe_ix (ix_listK K) (pe_lst (pa_2 (pe_lst (pa_3 pe_int pe_int pe_int)) (pe_lst (pa_3 pe_int pe_int pe_int)))) (pe_op op_mod (pe_def (ok__law_cell_at T) hr rfl (pa_2 (pv 0) pe_int)) pe_int) (fun _ _ => rfl))) (pg_name (i := 7) sc_law.nd rfl (Or.inl rfl)) (pss_one (ps_if (PW.pt (pw_or (pt_cmpR (op_neD hr.units K) (pe_ix (ix_listK K) (pv 4) (pv 7) (fun _ _ => rfl)) (pe_lst pa_nil) (nomark _)) (pw_or1 (pt_cmpR op_eq (pe_op op_mod (pe_op op_fdiv (pe_def (ok__law_cell_at T) hr rfl (pa_2 (pv 0) pe_int)) pe_int) pe_int) pe_int (nomark _))))) (pss_one (ps_dput (hu_of hr) (pv 6) (pe_ix (ix_listK K) (pv 5) (pv 7) (fun _ _ => rfl)) (pe_ix (ix_listK K) (pv 4) (pv 7) (fun _ _ => rfl)) rfl)) pss_nil)))
      hu), ?_⟩)
    · rintro σ G ⟨sA, vA, mA, rA, nA, tA, v7, x, y, z, ks, ms, n0, n1, n2, tvs, tb, rfl, sg, hs, hv, xy, wz, nv, l3, kin, hm, l4, cap, hn, hT, tok⟩
      refine ⟨_, rfl, _, rfl, _, rfl, _, rfl, a, nA, mA, vA, ns, n0, n1, n2, ms, ks, rfl, sg.seq hS, SqL.of hn, SqL.of hm, SqL.of hv, l3, by omega, fun t ht => (cap t ht).1, fun t ht => (so3_ok wz (kin t ht)).2, fun r hp ht hn' ts as cs G1 s1 hR hhp hht lt la lc ga gt gc => ?_⟩
      have okS : ∀ u ∈ so3 x y z, OkK u ∧ TxOk u := fun u hu => so3_ok wz hu
      have noS : ∀ u ∈ so3 x y z, txtK capS u = false := fun u hu => so3_no nv hu
      have la2 : ∀ b ∈ as.map (·.2), b.2.length ≤ 2 := fun b hb => by
        obtain ⟨e, he, rfl⟩ := List.mem_map.mp hb
        rcases (ga e he).1 with z | z <;> omega
      have side : ∀ t, PV ms ks as t → txtK capS t = true ∨ OkK t := fun t h => h.elim (fun h => .inr (okS t (kin t h)).1) (fun h => .inl (cap t h.1).2)
      have lm : (as.map (·.2)).length = as.length := List.length_map ..
      obtain ⟨i1, i2⟩ := ini_ok tb (so3 x y z) (cs.map (·.2))
      have fo := fun i hi => founds_ok (cs := cs) (tb := tb) (S := so3 x y z) tok.vals tok.len (as.map (·.2)) [] (iniK (cs.map (·.2))) 0 i i1 i2 (fun b hb => Nat.le_trans (la2 b hb) (by decide)) hi
      have ls : (sdsOf [] cs tb (as.map (·.2))).length = (as.map (·.2)).length := sds_len
      have L1 : (aheadS [] (as.map (·.2))).length < 64 := by
        have := ahead_le la2
        omega
      have L2' : ∀ e ∈ cs, chK [] e.2 = true → HOk [] e.2 := fun e he c => hok_of (S := so3 x y z) (ks := []) (k := []) (fun _ z => nomatch z) (fun u hu => (okS u hu).1) OnlyV.nil (fun _ z => nomatch z) c (side _ (gc e he).1) (side _ (gc e he).2.1)
      have L3 : ∀ i, (foundsK (iniK (cs.map (·.2))) ((sdsOf [] cs tb (as.map (·.2))).take i)).length ≤ 10000 := fun i => by
        by_cases hi : i ≤ (as.map (·.2)).length
        · have := (fo i hi).2
          have h3 : i = 0 ∨ i = 1 ∨ i = 2 ∨ i = 3 := by omega
          refine Nat.le_trans this ?_
          rcases h3 with rfl | rfl | rfl | rfl <;> decide
        · have := (fo _ (Nat.le_refl _)).2
          rw [← ls, List.take_length] at this
          rw [List.take_of_length_le (by omega)]
          refine Nat.le_trans this ?_
          have h3 : (sdsOf [] cs tb (as.map (·.2))).length ≤ 3 := by omega
          exact Nat.le_trans (Nat.pow_le_pow_right (by decide) (show _ ≤ 3 by omega)) (by decide)
      have L4 : ∀ (i : Nat) (d : SD), (sdsOf [] cs tb (as.map (·.2)))[i]? = some d → ∀ f ∈ foundsK (iniK (cs.map (·.2))) ((sdsOf [] cs tb (as.map (·.2))).take i), AllK f.2 ∧ f.2.length ≤ 1000 ∧ f.1.length ≤ 1000 ∧ ∀ m ∈ groupK d f.2, ∀ e ∈ d.due, HOk (mergeK f.2 m.2) e.2 := fun i d hd f hf => by
        obtain ⟨b, hb, rfl⟩ := sds_at hd
        have il := (List.getElem?_eq_some_iff.mp hb).1
        have F := (fo i (Nat.le_of_lt il)).1 f hf
        have f1 := F.l1
        have f2 := F.l2
        refine ⟨F.vals.allK, by omega, by omega, fun m hm e he => ?_⟩
        obtain ⟨he1, _⟩ := List.mem_filter.mp (show e ∈ (cs.filter fun e => chK ([] ++ bodyV ((as.map (·.2)).take i) ++ varsK b.2) e.2).filter _ from he)
        obtain ⟨he2, he3⟩ := List.mem_filter.mp he1
        have F2 := F.more (cs := cs) (a := b) tok.vals (Nat.le_trans (la2 b (List.mem_of_getElem? hb)) (by decide)) hm
        exact hok_of F2.vals (fun u hu => (okS u hu).1) F2.ov F2.bnd he3 (side _ (gc e he2).1) (side _ (gc e he2).2.1)
      refine ⟨_, rfl, _, rfl, r, tA, hp, ht, hn', ts, as, cs, tvs, tb, rfl, hR, SqT.of hhp, SqT.of hht, by omega, hT.same s1, L1, L2', L3, L4, fun R xs G2 s2 hRl pr => ?_⟩
      obtain ⟨b, c, hr0, hb, hc⟩ := hR.at_
      refine ⟨_, rfl, _, _, _, _, rfl, rfl, s2.seqT hr0, atI_nat (j := 1) rfl, _, rfl, b, tA, as, tvs, tb, rfl, s2.seqT hb, fun e he => (hR.body e he).same s2, (hT.same s1).same s2, tok.len, la, fun W ys G3 s3 hW wy => ?_⟩
      refine ⟨W, rfl, ⟨_, SqL.of hW⟩, for_list (xs := ys) (fun i σ F => ∃ v10 v11 v12 : Option V, σ = [some (.ref a), some (.ref sA), some (.ref vA), some (.ref mA), some (.ref rA), some (.ref nA), some (.ref tA), v7, some (.ref r), some (.ref R), v10, v11, v12] ∧ Same G3 F) ⟨none, none, none, rfl, Same.refl G3⟩ (fun i σ F _ z => ?_) ?_ ?_⟩
      · obtain ⟨_, _, _, _, z⟩ := z
        exact SqL.of (z _ _ hW)
      · rintro i x0 σ F hx ⟨v10, v11, v12, rfl, sf⟩
        obtain ⟨u, us, rfl, hu, wo⟩ := (wy x0 (List.mem_of_getElem? hx)).same sf
        have S1 := s2.trans (s3.trans sf)
        have S0 := s1.trans S1
        have hTF := (hT.same s1).same S1
        have row : ∀ e ∈ us, ∃ zz, e ∈ tb zz := fun e he => by
          obtain ⟨j, hj⟩ := List.getElem?_of_mem he
          have jl := (List.getElem?_eq_some_iff.mp hj).1
          have w1 := wo.1
          exact ⟨_, wo.2 j _ e (List.getElem?_eq_getElem (by omega)) hj⟩
        have hms : ∀ e ∈ as, ∀ t ∈ e.2.2, inK ms t = txtK capS t := fun e he t ht => by
          rcases (ga e he).2 t ht with h | h
          · rw [(cap t h).2, inK_iff.mpr h]
          · rw [noS t (kin t h)]
            cases q : inK ms t with
            | false => rfl
            | true =>
              have := (cap t (inK_iff.mp q)).2
              rw [noS t (kin t h)] at this
              cases this
        refine ⟨_, rfl, _, _, _, _, rfl, rfl, S1.seqT hr0, atI_nat (j := 1) rfl, _, rfl, _, rfl, b, u, mA, as, us, ms, rfl, S1.seqT hb, fun e he => (hR.body e he).same S1, SqT.of hu, fun e he => let ⟨zz, hz⟩ := row e he; hTF.rows zz e hz, by rw [wo.1, lm], by omega, S0 _ _ hm, fun t ht => (cap t ht).1, hms, fun en F2 s5 => ?_, fun bk q F2 hbk s5 hq => ?_⟩
        · exact ⟨_, rfl, rfl, _, rfl, iteFb (by rw [decide_eq_true rfl]; rfl) ⟨_, _, _, rfl, sf.trans s5⟩⟩
        · have S2 := S1.trans s5
          have ob := OnlyV.nil.all hbk
          have ab : AllIn (so3 x y z) bk := AllIn.all (k := []) (fun _ z => nomatch z) (zips_in tok.vals wo) hbk
          have lens : ∀ b ∈ as.map (·.2), ∀ e ∈ tb b.1, b.2.length = e.2.length := fun b hb e he => by
            obtain ⟨e1, he1, rfl⟩ := List.mem_map.mp hb
            exact (ga e1 he1).len tok he
          have val : ∀ t, PV ms ks as t → ∃ u ∈ so3 x y z, tv bk t = kV u := fun t h => by
            rcases h with h | ⟨h1, e, he, ht⟩
            · exact ⟨t, kin t h, tv_none ob (by rw [noS t (kin t h)]; exact Bool.false_ne_true)⟩
            · obtain ⟨v, hv⟩ := zips_of wo lens e.2 (List.mem_map.mpr ⟨e, he, rfl⟩) ht
              exact ab.tv (mAll_tv OnlyV.nil hbk hv (cap t h1).2)
          refine ⟨_, rfl, rfl, _, rfl, iteTb (by rw [decide_eq_false (fun e => nomatch e)]; rfl) ?_⟩
          refine ⟨_, rfl, _, _, _, _, rfl, rfl, S2.seqT hr0, atI_nat (j := 2) rfl, _, rfl, _, rfl, c, q, sA, cs, bk, x, y, z, rfl, S2.seqT hc, fun e he => ((hR.chs e he).same S2).at_, hq, (s1.trans S2) _ _ hs, xy, fun e he => ?_, fun F3 s6 => ?_⟩
          · obtain ⟨u1, h1, h2⟩ := val _ (gc e he).1
            obtain ⟨u2, h3, h4⟩ := val _ (gc e he).2.1
            exact ⟨u1, u2, h1, h3, h2, h4, (gc e he).2.2⟩
          · refine ⟨_, rfl, ite2 (fun hold => ?_) (fun _ => ⟨_, _, _, rfl, sf.trans (s5.trans s6)⟩)⟩
            have hold := List.all_eq_true.mp hold
            have S3 := S2.trans s6
            have hq3 := s6 _ _ hq
            obtain ⟨g, hg, g1, g2⟩ := found_whole (cs := cs) (tb := tb) (as := as.map (·.2)) (us := us) hold wo.1 (fun i a e h1 h2 => ⟨wo.2 i a e h1 h2, lens a (List.mem_of_getElem? h1) e (wo.2 i a e h1 h2)⟩) hbk
            refine ⟨_, rfl, _, _, _, _, rfl, rfl, S3.seqT hr0, atI_nat (j := 0) rfl, _, _, _, _, rfl, rfl, SqT.of (S3 _ _ hhp), atI_nat (j := 1) rfl, ht, rfl, ⟨_, SqT.of (S3 _ _ hht)⟩, fun D hD => ?_⟩
            refine comp_by (ts.map kV).length (fun i σ' H' => (∃ v, σ' = [v, some (.ref q)]) ∧ Same F3 H' ∧ H' D = some (.lst ((ts.take i).map (tv bk)))) ⟨⟨_, rfl⟩, same_upd hD, upd_same⟩ (fun i σ' H' hi p => ?_) (fun σ' H' p => ⟨?_, ?_⟩) (fun i σ' H' hi p x H2 y => ?_)
            · obtain ⟨_, sm, _⟩ := p
              exact ⟨_, (ts.map kV)[i], SqT.of (sm _ _ (S3 _ _ hht)), List.getElem?_eq_getElem hi⟩
            · obtain ⟨_, sm, _⟩ := p
              exact ⟨_, SqT.of (sm _ _ (S3 _ _ hht)), Nat.le_refl _⟩
            · obtain ⟨_, sm, e⟩ := p
              rw [List.length_map, List.take_length] at e
              refine ⟨_, _, rfl, .inl ⟨SqL.of e, fun wA hw => ?_⟩⟩
              have s7 := same_upd (o := HO.tup (ts.map (tv bk))) hw
              have e7 := upd_same (H := H') (a := wA) (o := HO.tup (ts.map (tv bk)))
              refine ⟨_, rfl, _, rfl, by show 2 ≤ sizeLine; decide, fun pq hpq => ?_⟩
              have s8 := same_upd (o := HO.tup [V.ref wA, .ref u]) hpq
              have e8 := upd_same (H := upd H' wA (.tup (ts.map (tv bk)))) (a := pq) (o := HO.tup [V.ref wA, .ref u])
              have e7 := s8 _ _ e7
              have s78 := sm.trans (s7.trans s8)
              generalize upd (upd H' wA (.tup (ts.map (tv bk)))) pq (.tup [V.ref wA, .ref u]) = F8 at *
              have S8 := S3.trans s78
              have hT8 := (hT.same s1).same S8
              have rowsD : ∀ us : List RW, (∀ e ∈ us, ∃ zz, e ∈ tb zz) → Dats K F8 (us.map rwD) (us.map (·.1)) := fun us h => dats_map fun e he => by
                obtain ⟨zz, hz⟩ := h e he
                exact dat_row (hT8.rows zz e hz) fun u hu => (okS u (tok.vals zz e hz u hu)).2
              have keysD : ∀ k : List (Key × V), AllIn (so3 x y z) k → Dats K F8 ((mKey ts k).map keyD) (ts.map (tv k)) := fun k hk => by
                rw [mKey_is hk.allK]
                refine dats_tx fun u hu => ?_
                obtain ⟨t, ht, rfl⟩ := List.mem_map.mp hu
                cases q : valV k t with
                | none =>
                  rw [show tv k t = kV t by unfold tv; rw [q]; rfl, vK_kV]
                  rcases gt t ht with h | h
                  · exact (okS t (kin t h)).2
                  · exact (cap t h.1).1
                | some v =>
                  obtain ⟨u, hu, e⟩ := hk.tv q
                  rw [e, vK_kV]
                  exact (okS u hu).2
              have fall := (fo _ (Nat.le_refl _)).1
              rw [← ls, List.take_length] at fall
              have dd : Dat K F8 (fdD (mKey ts bk) us) (.ref pq) := .tup (SqT.of e8) (.cons (.tup (SqT.of e7) (keysD bk ab)) (.cons (.tup (SqT.of (s78 _ _ (s6 _ _ (s5 _ _ hu)))) (rowsD us row)) .nil))
              have dl : Dat K F8 (.list ((foundsK (iniK (cs.map (·.2))) (sdsOf [] cs tb (as.map (·.2)))).map fun f => fdD (mKey ts f.2) f.1)) (.ref R) := by
                have sR := s3.trans (sf.trans (s5.trans (s6.trans s78)))
                refine .lst (SqL.of (sR _ _ hRl)) (paired_dats pr fun x f hf hx => ?_)
                obtain ⟨p1, h1, u1, rfl, a1, a2, a3⟩ := hx
                have F := fall f hf
                exact .tup (SqT.of (sR _ _ a1)) (.cons (.tup (SqT.of (sR _ _ a2)) (keysD f.2 F.vals)) (.cons (.tup (SqT.of (sR _ _ a3)) (rowsD f.1 F.rows)) .nil))
              refine ⟨_, rfl, _, _, dd, dl, Nat.le_trans (depth_fds fun f _ => depth_fd _ _) (by decide), _, rfl, iteFb ?_ ⟨_, _, _, rfl, sf.trans (s5.trans (s6.trans s78))⟩⟩
              rw [show ((foundsK (iniK (cs.map (·.2))) (sdsOf [] cs tb (as.map (·.2)))).map fun f => fdD (mKey ts f.2) f.1).any (fun y => PyData.eqv y (fdD (mKey ts bk) us)) = true from List.any_eq_true.mpr ⟨fdD (mKey ts bk) us, List.mem_map.mpr ⟨g, hg, by rw [g1, g2.key]⟩, SeqAt.eqv_refl _ (Dat.lay _ _ dd)⟩]
              rfl
            · obtain ⟨⟨v, rfl⟩, sm, e⟩ := p
              obtain ⟨rfl, hx⟩ := y
              have hx' := hx _ (SqT.of (sm _ _ (S3 _ _ hht)))
              rw [List.getElem?_map] at hx'
              obtain ⟨kk, hk, rfl⟩ := Option.map_eq_some_iff.mp hx'
              refine ⟨_, rfl, q, rfl, .inl ⟨bk, .inl (sm _ _ hq3)⟩, _, rfl, _, rfl, _, DGet.k (sm _ _ hq3), ?_⟩
              refine ⟨_, e, ?_, ⟨_, rfl⟩, sm.set hD, ?_⟩
              · rw [List.length_map, List.length_take]
                exact small1000 (by omega)
              · rw [upd_same, List.take_succ, hk, List.map_append]
                rfl
      · rintro σ F ⟨v10, v11, v12, rfl, sf⟩
        refine ⟨_, rfl, _, _, "list", rfl, TyOf.lst ((s3.trans sf) _ _ hRl), by decide, by decide, k _⟩
    · refine ⟨_, rfl, a, ns, rfl, hS, fun p q1 q2 x y z ks H1 s1 hp hq1 hq2 xy wz nv l3 mk => ?_⟩
      refine ⟨p, _, rfl, SqT.of hp, rfl, _, _, rfl, _, _, rfl, rfl, ?_⟩
      have hS1 := s1.seq hS
      refine ⟨_, rfl, a, ns, 3, rfl, hS1, by decide, _, rfl, fun mA ms H2 s2 hm l4 cap => ?_⟩
      have s12 := s1.trans s2
      refine ⟨_, rfl, a, ns, 4, rfl, s12.seq hS, by decide, _, rfl, _, q1, so3 x y z, rfl, SqL.of (s2 _ _ hq1), rfl, fun p0 rs0 H3 s3 f0 hp0 ro0 l0 => ?_⟩
      have s13 := s12.trans s3
      refine ⟨_, rfl, a, ns, 5, rfl, s13.seq hS, by decide, _, rfl, _, q1, so3 x y z, rfl, SqL.of (s3 _ _ (s2 _ _ hq1)), rfl, fun p1 rs1 H4 s4 f1 hp1 ro1 l1 => ?_⟩
      have s14 := s13.trans s4
      have hq14 := s4 _ _ (s3 _ _ (s2 _ _ hq1))
      refine ⟨by show 2 ≤ sizeLine; decide, fun rA hrA => ?_⟩
      have s5 := same_upd (o := HO.lst [V.ref p0, .ref p1]) hrA
      have hr5 := upd_same (H := H4) (a := rA) (o := HO.lst [V.ref p0, .ref p1])
      generalize upd H4 rA (.lst [V.ref p0, .ref p1]) = H5 at *
      refine ⟨_, rfl, .inl ⟨rfl, _, SqL.of hr5⟩, _, rfl, a, ns, 5, rfl, (s14.trans s5).seq hS, by decide, _, _, rfl, rfl, ⟨by decide, by decide⟩, _, rfl, _, q1, so3 x y z, rfl, SqL.of (s5 _ _ hq14), rfl, fun p2 rs2 H6 s6 f2 hp2 ro2 l2 => ?_⟩
      have hr6 := s6 _ _ hr5
      refine ⟨rA, _, _, rfl, rfl, hr6, by show 2 < sizeLine; decide, ?_⟩
      have n2r : p2 ≠ rA := fun e => by rw [e, hr5] at f2; cases f2
      have s47 : Same H4 (upd H6 rA (.lst ([V.ref p0, .ref p1] ++ [.ref p2]))) := (s5.trans s6).set hrA
      have hr7 := upd_same (H := H6) (a := rA) (o := HO.lst ([V.ref p0, .ref p1] ++ [.ref p2]))
      have hp27 : upd H6 rA (.lst ([V.ref p0, .ref p1] ++ [.ref p2])) p2 = some (.lst (rs2.map (·.1))) := by rw [upd_ne n2r]; exact hp2
      have ro27 := ro2.set (o := HO.lst ([V.ref p0, .ref p1] ++ [.ref p2])) hr6
      generalize upd H6 rA (.lst ([V.ref p0, .ref p1] ++ [.ref p2])) = H7 at *
      have mcap : ∀ t ∈ ms.map (Sum.inr : Str → Key), TxOk t ∧ txtK capS t = true := fun t ht => by
        obtain ⟨z1, hz1, rfl⟩ := List.mem_map.mp ht
        have := cap z1 hz1
        exact ⟨tx_cap this, this⟩
      have hm7 : H7 mA = some (.lst ((ms.map (Sum.inr : Str → Key)).map kV)) := by
        rw [List.map_map]
        exact s47 _ _ (s4 _ _ (s3 _ _ hm))
      have hp07 := s47 _ _ (s4 _ _ hp0)
      have hp17 := s47 _ _ hp1
      have ro07 := (ro0.same s4).same s47
      have ro17 := ro1.same s47
      have hs7 := s47 _ _ hq14
      have hv7 := s47 _ _ (s4 _ _ (s3 _ _ (s2 _ _ hq2)))
      have S7 := s14.trans s47
      clear hp0 hp1 ro0 ro1 hm hq1 hq2 hq14
      refine ⟨by show 3 ≤ sizeLine; decide, fun i1 hi1 => ⟨by show 3 ≤ sizeLine; decide, fun i2 hi2 => ⟨by show 2 ≤ sizeLine; decide, fun i3 hi3 => ?_⟩⟩⟩
      have s8 := same_upd (o := HO.lst [V.str (Str.ofString "edge"), V.str (Str.ofString "edge2"), V.str (Str.ofString "e")]) hi1
      have s9 := same_upd (o := HO.lst [V.str (Str.ofString "b"), V.str (Str.ofString "a"), V.str (Str.ofString "c")]) hi2
      have s10 := same_upd (o := HO.lst [V.ref i1, .ref i2]) hi3
      have h1 := (s9.trans s10) _ _ (upd_same (H := H7) (a := i1) (o := HO.lst [V.str (Str.ofString "edge"), V.str (Str.ofString "edge2"), V.str (Str.ofString "e")]))
      have h2 := s10 _ _ (upd_same (H := upd H7 i1 (HO.lst [V.str (Str.ofString "edge"), V.str (Str.ofString "edge2"), V.str (Str.ofString "e")])) (a := i2) (o := HO.lst [V.str (Str.ofString "b"), V.str (Str.ofString "a"), V.str (Str.ofString "c")]))
      have h3 := upd_same (H := upd (upd H7 i1 (HO.lst [V.str (Str.ofString "edge"), V.str (Str.ofString "edge2"), V.str (Str.ofString "e")])) i2 (HO.lst [V.str (Str.ofString "b"), V.str (Str.ofString "a"), V.str (Str.ofString "c")])) (a := i3) (o := HO.lst [V.ref i1, .ref i2])
      have s810 := s8.trans (s9.trans s10)
      generalize upd (upd (upd H7 i1 (HO.lst [V.str (Str.ofString "edge"), V.str (Str.ofString "edge2"), V.str (Str.ofString "e")])) i2 (HO.lst [V.str (Str.ofString "b"), V.str (Str.ofString "a"), V.str (Str.ofString "c")])) i3 (HO.lst [V.ref i1, .ref i2]) = H10 at *
      obtain ⟨nA, n0, n1, n2, hat, hnA, d01, d02, d12⟩ : ∃ (nA : Addr) (n0 n1 n2 : Str), atI [V.ref i1, V.ref i2] (ns.getD (Int.toNat 3) 0 % 2) = some (V.ref nA) ∧ H10 nA = some (.lst [V.str n0, .str n1, .str n2]) ∧ n0 ≠ n1 ∧ n0 ≠ n2 ∧ n1 ≠ n2 := by
        have : ns.getD (Int.toNat 3) 0 % 2 = 0 ∨ ns.getD (Int.toNat 3) 0 % 2 = 1 := by omega
        rcases this with e | e <;> rw [e]
        · exact ⟨i1, _, _, _, rfl, h1, by decide +kernel, by decide +kernel, by decide +kernel⟩
        · exact ⟨i2, _, _, _, rfl, h2, by decide +kernel, by decide +kernel, by decide +kernel⟩
      have S10 := S7.trans s810
      refine ⟨_, rfl, a, ns, 3, rfl, S10.seq hS, by decide, _, _, rfl, rfl, (by show (0 : Int) < 2; decide), _, _, _, _, rfl, rfl, SqL.of h3, hat, ?_⟩
      refine fun tA htA => ?_
      have s11 := same_upd (o := HO.dK []) htA
      have hA11 := upd_same (H := H10) (a := tA) (o := HO.dK [])
      generalize upd H10 tA (.dK []) = H11 at *
      refine ⟨by show 3 ≤ sizeLine; decide, fun j1 hj1 => ⟨by show 3 ≤ sizeLine; decide, fun j2 hj2 => ⟨by show 2 ≤ sizeLine; decide, fun j3 hj3 => ?_⟩⟩⟩
      have s12' := same_upd (o := HO.lst [V.int 0, V.int 1, V.int 2]) hj1
      have s13' := same_upd (o := HO.lst [V.int 2, V.int 1, V.int 0]) hj2
      have s14' := same_upd (o := HO.lst [V.ref j1, .ref j2]) hj3
      have g1 := (s13'.trans s14') _ _ (upd_same (H := H11) (a := j1) (o := HO.lst [V.int 0, V.int 1, V.int 2]))
      have g2 := s14' _ _ (upd_same (H := upd H11 j1 (HO.lst [V.int 0, V.int 1, V.int 2])) (a := j2) (o := HO.lst [V.int 2, V.int 1, V.int 0]))
      have g3 := upd_same (H := upd (upd H11 j1 (HO.lst [V.int 0, V.int 1, V.int 2])) j2 (HO.lst [V.int 2, V.int 1, V.int 0])) (a := j3) (o := HO.lst [V.ref j1, .ref j2])
      have s15 := s12'.trans (s13'.trans s14')
      generalize upd (upd (upd H11 j1 (HO.lst [V.int 0, V.int 1, V.int 2])) j2 (HO.lst [V.int 2, V.int 1, V.int 0])) j3 (HO.lst [V.ref j1, .ref j2]) = H12 at *
      obtain ⟨kA, js, hat2, hkA, hjs⟩ : ∃ (kA : Addr) (js : List Int), atI [V.ref j1, V.ref j2] (ns.getD (Int.toNat 2) 0 % 2) = some (V.ref kA) ∧ H12 kA = some (.lst (js.map V.int)) ∧ js.length = 3 ∧ ∀ j ∈ js, j = 0 ∨ j = 1 ∨ j = 2 := by
        have : ns.getD (Int.toNat 2) 0 % 2 = 0 ∨ ns.getD (Int.toNat 2) 0 % 2 = 1 := by omega
        rcases this with e | e <;> rw [e]
        · exact ⟨j1, [0, 1, 2], rfl, g1, rfl, by decide⟩
        · exact ⟨j2, [2, 1, 0], rfl, g2, rfl, by decide⟩
      have nkt : kA ≠ tA := fun e => by rw [e, s15 _ _ hA11] at hkA; cases hkA
      have S12 := S10.trans (s11.trans s15)
      refine ⟨_, rfl, a, ns, 2, rfl, S12.seq hS, by decide, _, _, rfl, rfl, (by show (0 : Int) < 2; decide), _, _, _, _, rfl, rfl, SqL.of g3, hat2, kA, rfl, ⟨_, SqL.of hkA⟩, ?_⟩
      refine for_list (xs := js.map V.int) (fun i σ F => ∃ (v7 : Option V) (tvs : List (Key × V)), σ = [some (.ref a), some (.ref q1), some (.ref q2), some (.ref mA), some (.ref rA), some (.ref nA), some (.ref tA), v7, none, none, none, none, none] ∧ Same H10 F ∧ F kA = some (.lst (js.map V.int)) ∧ F tA = some (.dK tvs) ∧ tvs.length ≤ i ∧ ∀ zz, valV tvs (.inr zz) = none ∨ ∃ pj, valV tvs (.inr zz) = some (.ref pj) ∧ ((zz = n0 ∧ pj = p0) ∨ (zz = n1 ∧ pj = p1) ∨ (zz = n2 ∧ pj = p2))) ⟨none, [], rfl, s11.trans s15, hkA, s15 _ _ hA11, Nat.le_refl _, fun _ => .inl rfl⟩ (fun i σ F _ z => ?_) ?_ ?_
      · obtain ⟨_, _, _, _, z, _⟩ := z
        exact SqL.of z
      · rintro i x0 σ F hx ⟨v7, tvs, rfl, sf, hkF, htF, lt, hv⟩
        rw [List.getElem?_map] at hx
        obtain ⟨j, hj, rfl⟩ := Option.map_eq_some_iff.mp hx
        have il := (List.getElem?_eq_some_iff.mp hj).1
        have SF := s810.trans sf
        obtain ⟨pj, nj, rs, n', a1, a2, hpj, roj, who⟩ : ∃ (pj : Addr) (nj : Str) (rs : List RW) (n' : Nat), atI ([V.ref p0, .ref p1] ++ [.ref p2]) j = some (.ref pj) ∧ atI [V.str n0, .str n1, .str n2] j = some (.str nj) ∧ F pj = some (.lst (rs.map (·.1))) ∧ RowsOf K F (so3 x y z) n' rs ∧ ((nj = n0 ∧ pj = p0) ∨ (nj = n1 ∧ pj = p1) ∨ (nj = n2 ∧ pj = p2)) := by
          rcases hjs.2 j (List.mem_of_getElem? hj) with rfl | rfl | rfl
          · exact ⟨p0, n0, rs0, _, rfl, rfl, SF _ _ hp07, ro07.same SF, .inl ⟨rfl, rfl⟩⟩
          · exact ⟨p1, n1, rs1, _, rfl, rfl, SF _ _ hp17, ro17.same SF, .inr (.inl ⟨rfl, rfl⟩)⟩
          · exact ⟨p2, n2, rs2, _, rfl, rfl, SF _ _ hp27, ro27.same SF, .inr (.inr ⟨rfl, rfl⟩)⟩
        have hrF := SF _ _ hr7
        have hnF := sf _ _ hnA
        refine ⟨_, rfl, _, rfl, _, _, _, _, rfl, rfl, SqL.of hrF, a1, by decide, fun e0 he0 => ?_⟩
        have s16 := same_upd (o := HO.lst []) he0
        have e16 := upd_same (H := F) (a := e0) (o := HO.lst [])
        generalize upd F e0 (.lst []) = F1 at *
        refine ⟨.list (rs.map rwD), .list [], .lst (SqL.of (s16 _ _ hpj)) (dats_map fun e he => dat_row ((roj.same s16) e he).1 fun u hu => (so3_ok wz ((roj e he).2.2 u hu)).2), .lst (SqL.of e16) .nil, ?_, _, rfl, ite2 (fun _ => ?_) (fun _ => ⟨_, rfl, a, ns, 2, rfl, (S10.trans (sf.trans s16)).seq hS, by decide, _, _, rfl, rfl, ⟨by decide, by decide⟩, _, _, rfl, rfl, (by show (0 : Int) < 2; decide), rfl, _, rfl, ite2 (fun _ => ?_) (fun _ => ⟨_, tvs, rfl, sf.trans s16, s16 _ _ hkF, s16 _ _ htF, by omega, hv⟩)⟩)⟩
        · have := depth_rows rs
          show PyData.depthAll (rs.map rwD) + 1 ≤ 60
          omega
        all_goals
          refine ⟨_, rfl, _, rfl, _, _, _, _, rfl, rfl, SqL.of (s16 _ _ hrF), a1, _, rfl, _, rfl, _, rfl, _, _, _, _, rfl, rfl, SqL.of (s16 _ _ hnF), a2, tA, _, rfl, DPut.k (k := Sum.inr nj) (s16 _ _ htF) (small1000 (by omega)), ?_⟩
          refine ⟨_, _, rfl, (sf.trans s16).set htA, by rw [upd_ne nkt]; exact s16 _ _ hkF, upd_same, by have := length_putK tvs (Sum.inr nj) (V.ref pj); omega, fun zz => ?_⟩
          rw [valV_put]
          split
          · rename_i e
            injection e with e
            exact .inr ⟨pj, rfl, by rw [e]; exact who⟩
          · exact hv zz
      · rintro σ F ⟨v7, tvs, rfl, sf, hkF, htF, lt, hv⟩
        have SF := s810.trans sf
        obtain ⟨tb, hT, tok⟩ := tabs_mk (K := K) (S := so3 x y z) d01 d02 d12 htF (SF _ _ hp07) (SF _ _ hp17) (SF _ _ hp27) (ro07.same SF) (ro17.same SF) (ro27.same SF) l0 l1 (by omega) hv
        exact hC _ _ ⟨q1, q2, mA, rA, nA, tA, v7, x, y, z, ks, ms.map Sum.inr, n0, n1, n2, tvs, tb, rfl, S10.trans sf, SF _ _ hs7, SF _ _ hv7, xy, wz, nv, l3, mk, SF _ _ hm7, by rw [List.length_map]; exact l4, mcap, sf _ _ hnA, hT, tok⟩
theorem txt_mk {K : PySem.W.Frag} {h : Heap} {mg : Str → Option Value} (X : K.In h) (G : h.Ns mainGlobals mg) {y0 : Tok} {y1 : Tok} {y2 : Tok}
    (y3 : PySem.W.nsIn K mainGlobals "all" = some none)
    (y4 : PySem.W.nsIn K mainGlobals "bool" = some none)
    (y5 : PySem.W.nsIn K mainGlobals "dict" = some none)
    (y6 : PySem.W.nsIn K mainGlobals "enumerate" = some none)
    (y7 : PySem.W.nsIn K mainGlobals "int" = some none)
    (y8 : PySem.W.nsIn K mainGlobals "isinstance" = some none)
    (y9 : PySem.W.nsIn K mainGlobals "len" = some none)
    (y10 : PySem.W.nsIn K mainGlobals "list" = some none)
    (y11 : PySem.W.nsIn K mainGlobals "range" = some none)
    (y12 : PySem.W.nsIn K mainGlobals "set" = some none)
    (y13 : PySem.W.nsIn K mainGlobals "sorted" = some none)
    (y14 : PySem.W.nsIn K mainGlobals "str" = some none)
    (y15 : PySem.W.nsIn K mainGlobals "tuple" = some none)
    (y16 : PySem.W.nsIn K mainGlobals "zip" = some none)
    (y17 : PySem.W.nsIn K mainGlobals "CAPITAL_LETTERS" = some (some (.str "ABCDEFGHIJKLMNOPQRSTUVWXYZ" y0)))
    (y18 : PySem.W.nsIn K mainGlobals "FURTHER_SIGNS" = some (some (.str "abcdefghijklmnopqrstuvwxyz0123456789" y1)))
    (y19 : PySem.W.nsIn K mainGlobals "MOST_SIGNS" = some (some (.int 12 y2)))
    (y20 : FiK K "is_whole" s_is_whole)
    (y21 : FiK K "is_text_begun_by" s_is_text_begun_by)
    (y22 : FiK K "is_var" s_is_var)
    (y23 : FiK K "value_key" s_value_key)
    (y24 : FiK K "value_before" s_value_before)
    (y25 : FiK K "matched" s_matched)
    (y26 : FiK K "put_in" s_put_in)
    (y27 : FiK K "holds" s_holds)
    (y28 : FiK K "variables_in" s_variables_in)
    (y29 : FiK K "variables_of_body" s_variables_of_body)
    (y30 : FiK K "are_known" s_are_known)
    (y31 : FiK K "rows_by_shared" s_rows_by_shared)
    (y32 : FiK K "choices_known" s_choices_known)
    (y33 : FiK K "choices_due" s_choices_due)
    (y34 : FiK K "all_hold" s_all_hold)
    (y35 : FiK K "asked_later" s_asked_later)
    (y36 : FiK K "steps_of" s_steps_of)
    (y37 : FiK K "instances" s_instances)
    (y38 : FiK K "_law_cell_at" s__law_cell_at)
    (y39 : FiK K "_law_values" s__law_values)
    (y40 : FiK K "_law_marks" s__law_marks)
    (y41 : FiK K "_law_pairs" s__law_pairs)
    (y42 : FiK K "_law_singles" s__law_singles)
    (y43 : FiK K "_law_term" s__law_term)
    (y44 : FiK K "_law_rule" s__law_rule)
    (y45 : FiK K "_law_binding" s__law_binding)
    (y46 : FiK K "_law_chosen" s__law_chosen)
    (y47 : FiK K "_law_all_ways" s__law_all_ways)
    (y48 : FiK K "law" s_law)
    (y49 : CiK K "Step")
    (y50 : AiK K "Step" "asks" (some none))
    (y51 : AiK K "Step" "by_shared" (some none))
    (y52 : AiK K "Step" "due" (some none))
    (y53 : AiK K "Step" "rows" (some none))
    (y54 : AiK K "Step" "shared" (some none))
    (y55 : AiK K "Step" "table" (some none))
    (y56 : AiK K "Step" "terms" (some none))
    (y57 : MiK K "Step" "__init__" "Step.__init__" s_Step_init)
    (y58 : MiK K "Step" "joined_on" "Step.joined_on" s_Step_joined_on) : Txt K mg :=
  ⟨PySem.W.mg_none_of X G y3,
    PySem.W.mg_none_of X G y4,
    PySem.W.mg_none_of X G y5,
    PySem.W.mg_none_of X G y6,
    PySem.W.mg_none_of X G y7,
    PySem.W.mg_none_of X G y8,
    PySem.W.mg_none_of X G y9,
    PySem.W.mg_none_of X G y10,
    PySem.W.mg_none_of X G y11,
    PySem.W.mg_none_of X G y12,
    PySem.W.mg_none_of X G y13,
    PySem.W.mg_none_of X G y14,
    PySem.W.mg_none_of X G y15,
    PySem.W.mg_none_of X G y16,
    ⟨_, PySem.W.mg_of X G y17⟩,
    ⟨_, PySem.W.mg_of X G y18⟩,
    ⟨_, PySem.W.mg_of X G y19⟩,
    y20.top X G (fun _ _ _ _ _ _ => us1 fun _ => rfl),
    y21.top X G (fun _ _ _ _ _ _ => us2 fun _ _ => rfl),
    y22.top X G (fun _ _ _ _ _ _ => us1 fun _ => rfl),
    y23.top X G (fun _ _ _ _ _ _ => us1 fun _ => rfl),
    y24.top X G (fun _ _ _ _ _ _ => us2 fun _ _ => rfl),
    y25.top X G (fun _ _ _ _ _ _ => us3 fun _ _ _ => rfl),
    y26.top X G (fun _ _ _ _ _ _ => us2 fun _ _ => rfl),
    y27.top X G (fun _ _ _ _ _ _ => us2 fun _ _ => rfl),
    y28.top X G (fun _ _ _ _ _ _ => us1 fun _ => rfl),
    y29.top X G (fun _ _ _ _ _ _ => us1 fun _ => rfl),
    y30.top X G (fun _ _ _ _ _ _ => us2 fun _ _ => rfl),
    y31.top X G (fun _ _ _ _ _ _ => us3 fun _ _ _ => rfl),
    y32.top X G (fun _ _ _ _ _ _ => us2 fun _ _ => rfl),
    y33.top X G (fun _ _ _ _ _ _ => us3 fun _ _ _ => rfl),
    y34.top X G (fun _ _ _ _ _ _ => us2 fun _ _ => rfl),
    y35.top X G (fun _ _ _ _ _ _ => us4 fun _ _ _ _ => rfl),
    y36.top X G (fun _ _ _ _ _ _ => us4 fun _ _ _ _ => rfl),
    y37.top X G (fun _ _ _ _ _ _ => us2 fun _ _ => rfl),
    y38.top X G (fun _ _ _ _ _ _ => us2 fun _ _ => rfl),
    y39.top X G (fun _ _ _ _ _ _ => us1 fun _ => rfl),
    y40.top X G (fun _ _ _ _ _ _ => us1 fun _ => rfl),
    y41.top X G (fun _ _ _ _ _ _ => us2 fun _ _ => rfl),
    y42.top X G (fun _ _ _ _ _ _ => us2 fun _ _ => rfl),
    y43.top X G (fun _ _ _ _ _ _ => us3 fun _ _ _ => rfl),
    y44.top X G (fun _ _ _ _ _ _ => us4 fun _ _ _ _ => rfl),
    y45.top X G (fun _ _ _ _ _ _ => us3 fun _ _ _ => rfl),
    y46.top X G (fun _ _ _ _ _ _ => us3 fun _ _ _ => rfl),
    y47.top X G (fun _ _ _ _ _ _ => us2 fun _ _ => rfl),
    y48.top X G (fun _ _ _ _ _ _ => us1 fun _ => rfl),
    y49.g X G,
    y49.cl X G,
    y49.mk' X G,
    y49.kp X G,
    y50.at' X G,
    y51.at' X G,
    y52.at' X G,
    y53.at' X G,
    y54.at' X G,
    y55.at' X G,
    y56.at' X G,
    y57.top X G (fun _ _ _ _ _ _ => us6 fun _ _ _ _ _ _ => rfl),
    y58.top X G (fun _ _ _ _ _ _ => us2 fun _ _ => rfl)⟩
end Wy
open PySem PySem.W PyProof.Rows
namespace PySem.W.Fast
end PySem.W.Fast
namespace PySem.W.Fast
def tw7243520800031074613:=0
def tw11246302635865154266:=0
def tw5065140524820874417:=0
def tw1354922666415236983:=0
def tw131691271333987610:=0
def tw13026761694509745696:=0
def tw8312838603628121582:=0
def tw11259694085475752020:=0
def tw12375472156035384361:=0
def tw943378329491075243:=0
def tw1560463611618047937:=0
def tw8204380015846862467:=0
def tw6187713652273119359:=0
def tw5653306498986387956:=0
def tw12743038598453689364:=0
def tw15352292168668237992:=0
def tw2092604374131373855:=0
def tw4784098659610246077:=0
def tw5017551853743505281:=0
def tw8351135964558041203:=0
def tw783026729764511835:=0
def tw1261335247442378758:=0
def tw16146155449896503195:=0
def tw9741140285630250993:=0
def tw11092431549454460769:=0
def tw15396575342958019182:=0
def tw15447565284328018078:=0
def tw11414589095620418435:=0
def tw2509936829483306579:=0
def tw14262679652537606745:=0
def tw7238326210792384783:=0
def tw16261846744121840594:=0
def tw9369838033759134010:=0
def tw15153471426156952487:=0
def tw4820938850187986782:=0
def tw13740947988773396369:=0
def tw8285629123312247479:=0
def tw8631231108366971921:=0
def tw11408068431599781136:=0
def tw8125624603633769614:=0
def tw17540689593888976763:=0
def tw16455617251055023373:=0
def tw16149692472409382232:=0
def tw13250256351631895008:=0
def tw12389663820722782884:=0
def tw5030317501949310775:=0
def tw8359211510732685932:=0
def tw14928993637633766932:=0
def tw17944658490752482361:=0
def tw5799464951115252358:=0
def tw1959646765003871527:=0
def tw1890128279174770964:=0
def tw4677182115350245200:=0
def tw1171785396606327230:=0
def tw2020533940514893058:=0
def tw601795116034976820:=0
def tw5766041701350639746:=0
def tw13151947166470645139:=0
def tw9262347794623476727:=0
def tw5280678958560482222:=0
def tw14941816964341758219:=0
def tw13156633848896638784:=0
def tw18277545473747670671:=0
def tw18282293536884156819:=0
def tw10100922461433569363:=0
def tw6933910534103224125:=0
def tw7194361944380800244:=0
def tw16640224417638144679:=0
def tw7652863575213674258:=0
end PySem.W.Fast
set_option maxRecDepth 100000 in
set_option maxHeartbeats 0 in
theorem PySem.Challenge.cw_whyrows_k45_no_instance_lacks_holds : PySem.Challenge.rw_whyrows_k45_no_instance_lacks.Holds := by
  w_on; o_law; k_head; (case hw => w_witness2)
  k_fill
  refine L2.walk_ofK (l := PySem.Challenge.rw_whyrows_k45_no_instance_lacks) (n := 63) (k := 12) (x := "_law_script") (CX := L2.CX0) (sp := Wy.sp_law) rfl (by decide) rfl ⟨rfl, by decide, by decide⟩ (fun w h Y => PySem.W.kIn_of Y) ?F ?S ?C
  case F =>
    intro w mg fa h KX G hmg
    have T : Wy.Txt (L2.KOf KX) mg := by
      dsimp only [L2.KOf]
      refine' Wy.txt_mk KX G ?_ ?_ ?_ ?_ ?_ ?_ ?_ ?_ ?_ ?_ ?_ ?_ ?_ ?_ ?_ ?_ ?_ ?_ ?_ ?_ ?_ ?_ ?_ ?_ ?_ ?_ ?_ ?_ ?_ ?_ ?_ ?_ ?_ ?_ ?_ ?_ ?_ ?_ ?_ ?_ ?_ ?_ ?_ ?_ ?_ ?_ ?_ ?_ ?_ ?_ ?_ ?_ ?_ ?_ ?_ ?_
      all_goals first | (refine' L2.fiK ?_ ?_ ?_ ?_; all_goals first | k_is | skip) | (refine' L2.miK ?_ ?_ ?_ ?_ ?_ ?_; all_goals first | k_is | skip) | (refine' L2.ciK ?_ ?_ ?_ ?_ ?_ ?_ ?_; all_goals first | k_is | skip) | (refine' L2.aiK ?_ ?_; all_goals first | k_is | skip) | k_is | skip
    exact Wy.ok_law T hmg
  case S => exact fun K H a ns hl hO hS => ⟨a, ns, rfl, hS, hl, fun _ => rfl⟩
  case C => exact fun _ _ _ _ z => z
