import PyProof.Rows.All
import Wide.All
import OpenK.AllK
import Wide.FinOn
import Lean
import PyProof.EqAt
import PyProof.EqKinds
import PyProof.TupleCall
import PyProof.P3Eq
import PyProof.P3In
import PyProof.NeData
import PyProof.Rows.SortShell
import PyProof.SumWalkG
import PyProof.Rows.SeqMore3
import PyProof.FitsBits
import PyProof.MinMaxWalk
import PyProof.WalkInts
import PyProof.Rows.CallKwBuiltin
import KE.KMinKey
import PyProof.AttrMissHeap
import KE.KDictOf
import KE.KIsAll
import PyProof.Rows.StrJoin2
import PyProof.ZipIter
import PyProof.Draws
import PyProof.Rows.ZipGen
import PyProof.Rows.StrFit
import PyProof.AutoSeq1
import KE.KSortKey
import KE.KSortTup
import PyProof.Rows.Range3
import PyProof.MeetsStr2
import PyProof.PureStr
import PyProof.Rows.FStr
import PyProof.CallStr
import KE.KIntText
import PyProof.StrLawsTight
import KE.IntTextLaws
import PyProof.StationsW
import KE.KTryMore
import PyProof.ExcClass2
import PyProof.ExcBaseAll.ValueError
import PyProof.NsDelKeeps
import PyProof.Rows.Catch
import PyProof.ExcArgs
import PyProof.ListMulRoad
import PyProof.FactsAll.tuple_2
import PySem.Challenge.RW_whyrows_k47_vetted
set_option Elab.async false
set_option linter.all false
set_option maxRecDepth 100000
set_option maxHeartbeats 4000000
namespace Tim
open PySem PyProof.Rows
def kx (rk : Keyed → Int) (xs : Array Keyed) (i : Nat) : Int := match xs[i]? with
  | some p => rk p
  | none => 0
def Up (rk : Keyed → Int) (xs : Array Keyed) (lo hi : Nat) : Prop := ∀ i j, lo ≤ i → i ≤ j → j < hi → kx rk xs i ≤ kx rk xs j
theorem kx_of {rk : Keyed → Int} {xs : Array Keyed} {i : Nat} {p : Keyed} (h : xs[i]? = some p) : kx rk xs i = rk p := by unfold kx; rw [h]
theorem kx_same {rk : Keyed → Int} {xs ys : Array Keyed} {i j : Nat} (h : xs[i]? = ys[j]?) : kx rk xs i = kx rk ys j := by unfold kx; rw [h]
structure Mv (lo hi : Nat) (st st' : SortSt) : Prop where
  perm : (arrOf st').Perm (arrOf st)
  out : ∀ k, k < lo ∨ hi ≤ k → (arrOf st')[k]? = (arrOf st)[k]?
  kind : kindOf st' = kindOf st
  pend : pendingOf st' = pendingOf st
  failed : failedOf st' = failedOf st
theorem Mv.refl (lo hi : Nat) (st : SortSt) : Mv lo hi st st := ⟨Array.Perm.refl _, fun _ _ => rfl, rfl, rfl, rfl⟩
theorem Mv.trans {lo hi : Nat} {a b c : SortSt} (h : Mv lo hi a b) (k : Mv lo hi b c) : Mv lo hi a c :=
  ⟨k.perm.trans h.perm, fun i hi => (k.out i hi).trans (h.out i hi), k.kind.trans h.kind, k.pend.trans h.pend, k.failed.trans h.failed⟩
theorem Mv.size {lo hi : Nat} {a b : SortSt} (h : Mv lo hi a b) : (arrOf b).size = (arrOf a).size := h.perm.size_eq
structure Sane (kd : SortKind) (S : Keyed → Prop) (n : Nat) (st : SortSt) : Prop where
  size : (arrOf st).size = n
  all : ∀ p ∈ (arrOf st).toList, S p
  kind : kindOf st = kd
  failed : failedOf st = none
theorem Mv.sane {lo hi : Nat} {a b : SortSt} {kd : SortKind} {S : Keyed → Prop} {n : Nat} (h : Mv lo hi a b) (k : Sane kd S n a) : Sane kd S n b :=
  ⟨h.size.trans k.size, fun p hp => k.all p ((Array.perm_iff_toList_perm.mp h.perm).mem_iff.mp hp), h.kind.trans k.kind, h.failed.trans k.failed⟩
theorem Sane.at {kd : SortKind} {S : Keyed → Prop} {n : Nat} {st : SortSt} (rk : Keyed → Int) (k : Sane kd S n st) {i : Nat} (hi : i < n) : ∃ p, (arrOf st)[i]? = some p ∧ S p ∧ kx rk (arrOf st) i = rk p := by
  have hi' : i < (arrOf st).size := by rw [k.size]; exact hi
  have e : (arrOf st)[i]? = some (arrOf st)[i] := getElem?_pos _ i hi'
  exact ⟨_, e, k.all _ (by simp), kx_of e⟩
section
variable {M : Model} {A : Around} {E : Value → Shared → Prop} {s : Shared} {kd : SortKind} {S : Keyed → Prop} {rk : Keyed → Int} {n : Nat}
end
end Tim
namespace Tim
section
variable {α : Type} {rk : α → Int} {as bs out : List α} {ia ib : Nat}
def Asc (rk : α → Int) (l : List α) : Prop := l.Pairwise fun p q => rk p ≤ rk q
structure Jn (rk : α → Int) (as bs out : List α) (ia ib : Nat) : Prop where
  perm : out.Perm (as.take ia ++ bs.take ib)
  asc : Asc rk out
  la : ∀ p ∈ out, ∀ q ∈ as.drop ia, rk p ≤ rk q
  lb : ∀ p ∈ out, ∀ q ∈ bs.drop ib, rk p ≤ rk q
theorem Jn.start : Jn rk as bs [] 0 0 := ⟨by simp, List.Pairwise.nil, (fun _ z => nomatch z), (fun _ z => nomatch z)⟩
theorem asc_drop (h : Asc rk as) (i : Nat) : Asc rk (as.drop i) := List.Pairwise.sublist (List.drop_sublist i as) h
theorem Jn.done (h : Jn rk as bs out ia ib) (ha : Asc rk as) (hb : Asc rk bs) (hx : ∀ p ∈ as.drop ia, ∀ q ∈ bs.drop ib, rk p ≤ rk q) :
    (out ++ as.drop ia ++ bs.drop ib).Perm (as ++ bs) ∧ Asc rk (out ++ as.drop ia ++ bs.drop ib) := by
  constructor
  · refine ((h.perm.append_right _).append_right _).trans ?_
    have e1 : as = as.take ia ++ as.drop ia := (List.take_append_drop ..).symm
    have e2 : bs = bs.take ib ++ bs.drop ib := (List.take_append_drop ..).symm
    refine List.Perm.trans ?_ (List.Perm.of_eq (show (as.take ia ++ as.drop ia) ++ (bs.take ib ++ bs.drop ib) = as ++ bs by rw [← e1, ← e2]))
    simp only [List.append_assoc]
    refine List.Perm.append_left _ ?_
    rw [← List.append_assoc, ← List.append_assoc]
    exact List.Perm.append_right _ List.perm_append_comm
  · refine List.pairwise_append.mpr ⟨List.pairwise_append.mpr ⟨h.asc, asc_drop ha _, h.la⟩, asc_drop hb _, fun p hp q hq => ?_⟩
    rcases List.mem_append.mp hp with hp | hp
    · exact h.lb p hp q hq
    · exact hx p hp q hq
end
end Tim
namespace Tim
open PySem PyProof.Rows
section
variable {M : Model} {A : Around} {E : Value → Shared → Prop} {s : Shared} {kd : SortKind} {S : Keyed → Prop} {rk : Keyed → Int}
end
end Tim
namespace Tim
open PySem PyProof.Rows
abbrev setGal (st : SortSt) (g : Nat) : SortSt := SortSt.mk' (kindOf st) (arrOf st) (pendingOf st) g (failedOf st)
structure Gl (st st' : SortSt) : Prop where
  arr : arrOf st' = arrOf st
  kind : kindOf st' = kindOf st
  pend : pendingOf st' = pendingOf st
  failed : failedOf st' = failedOf st
theorem Gl.refl (st : SortSt) : Gl st st := ⟨rfl, rfl, rfl, rfl⟩
theorem Gl.set {st st' : SortSt} (h : Gl st st') (g : Nat) : Gl st (setGal st' g) := ⟨h.arr, h.kind, h.pend, h.failed⟩
section
variable {rk : Keyed → Int} {a b o : Array Keyed} {x y : Nat}
end
structure Mg (S : Keyed → Prop) (rk : Keyed → Int) (a b : Array Keyed) : Prop where
  sa : ∀ p ∈ a.toList, S p
  sb : ∀ p ∈ b.toList, S p
  aa : Asc rk a.toList
  ab : Asc rk b.toList
  na : 0 < a.size
  nb : 0 < b.size
  top : ∃ z, a[a.size - 1]? = some z ∧ ∀ p ∈ b.toList, rk p < rk z
  bot : ∃ z, b[0]? = some z ∧ ∀ p ∈ a.toList, rk z < rk p
section
variable {S : Keyed → Prop} {rk : Keyed → Int} {a b o : Array Keyed} {x y : Nat}
end
section
variable {M : Model} {A : Around} {E : Value → Shared → Prop} {s : Shared} {kd : SortKind} {S : Keyed → Prop} {rk : Keyed → Int} {a b : Array Keyed} {st : SortSt}
structure Go (rk : Keyed → Int) (a b o : Array Keyed) (x y : Nat) : Prop where
  jn : Jn rk a.toList b.toList o.toList x y
  hx : x + 1 < a.size
  hy : y < b.size
end
end Tim
namespace Tim
open PySem PyProof.Rows
section
variable {rk : Keyed → Int} {a b o : Array Keyed} {x y : Nat}
def JH (rk : Keyed → Int) (a b o : Array Keyed) (x y : Nat) : Prop := Jn (fun p => - rk p) a.toList.reverse b.toList.reverse o.toList (a.size - x) (b.size - y) ∧ x ≤ a.size ∧ y ≤ b.size
end
section
variable {S : Keyed → Prop} {rk : Keyed → Int} {a b o : Array Keyed} {x y : Nat}
end
section
variable {M : Model} {A : Around} {E : Value → Shared → Prop} {s : Shared} {kd : SortKind} {S : Keyed → Prop} {rk : Keyed → Int} {a b : Array Keyed} {st : SortSt}
structure GoH (rk : Keyed → Int) (a b o : Array Keyed) (x y : Nat) : Prop where
  jn : JH rk a b o x y
  hx : 1 ≤ x
  hy : 2 ≤ y
end
end Tim
namespace Tim
open PySem PyProof.Rows
def Runs (rk : Keyed → Int) (xs : Array Keyed) : Nat → List (Nat × Nat × Nat) → Nat → Prop
  | u, [], v => u = v
  | u, r :: l, v => r.1 = u ∧ 1 ≤ r.2.1 ∧ Up rk xs u (u + r.2.1) ∧ Runs rk xs (u + r.2.1) l v
section
variable {rk : Keyed → Int} {xs ys : Array Keyed}
theorem Runs.split : ∀ {l1 l2 : List (Nat × Nat × Nat)} {u v : Nat}, Runs rk xs u (l1 ++ l2) v ↔ ∃ w, Runs rk xs u l1 w ∧ Runs rk xs w l2 v
  | [], l2, u, v => ⟨fun h => ⟨u, rfl, h⟩, fun ⟨w, e, h⟩ => by cases e; exact h⟩
  | r :: l1, l2, u, v => by
    constructor
    · rintro ⟨a, b, c, d⟩
      obtain ⟨w, h1, h2⟩ := Runs.split.mp d
      exact ⟨w, ⟨a, b, c, h1⟩, h2⟩
    · rintro ⟨w, ⟨a, b, c, d⟩, h2⟩
      exact ⟨a, b, c, Runs.split.mpr ⟨w, d, h2⟩⟩
theorem Runs.le : ∀ {l : List (Nat × Nat × Nat)} {u v : Nat}, Runs rk xs u l v → u + l.length ≤ v
  | [], u, v, h => by cases h; simp
  | r :: l, u, v, ⟨_, b, _, d⟩ => by
    have := Runs.le d
    rw [List.length_cons]
    omega
theorem Up.same {lo hi : Nat} (h : Up rk xs lo hi) (e : ∀ k, lo ≤ k → k < hi → ys[k]? = xs[k]?) : Up rk ys lo hi := fun i j a b c => by
  rw [kx_same (e i a (by (clear a; omega))), kx_same (e j (by (clear c; omega)) c)]
  exact h i j a b c
theorem Runs.same : ∀ {l : List (Nat × Nat × Nat)} {u v : Nat}, Runs rk xs u l v → (∀ k, u ≤ k → k < v → ys[k]? = xs[k]?) → Runs rk ys u l v
  | [], u, v, h, _ => h
  | r :: l, u, v, ⟨a, b, c, d⟩, e => by
    have := Runs.le d
    exact ⟨a, b, c.same fun k h1 h2 => e k h1 (by (clear h1 b a; omega)), d.same fun k h1 h2 => e k (by (clear h2 this b a; omega)) h2⟩
end
section
variable {M : Model} {A : Around} {E : Value → Shared → Prop} {s : Shared} {kd : SortKind} {S : Keyed → Prop} {rk : Keyed → Int} {n : Nat}
structure Merged (rk : Keyed → Int) (lo hi : Nat) (p : Array (Nat × Nat × Nat)) (st st' : SortSt) : Prop where
  perm : (arrOf st').Perm (arrOf st)
  out : ∀ k, k < lo ∨ hi ≤ k → (arrOf st')[k]? = (arrOf st)[k]?
  kind : kindOf st' = kindOf st
  failed : failedOf st' = failedOf st
  pend : pendingOf st' = p
  up : Up rk (arrOf st') lo hi
end
end Tim
namespace Tim
open PySem PyProof.Rows
section
variable {M : Model} {A : Around} {E : Value → Shared → Prop} {s : Shared} {kd : SortKind} {S : Keyed → Prop} {rk : Keyed → Int} {n : Nat}
structure Sr (rk : Keyed → Int) (kd : SortKind) (S : Keyed → Prop) (n : Nat) (st : SortSt) (lo : Nat) (st' : SortSt) : Prop where
  perm : (arrOf st').Perm (arrOf st)
  sane : Sane kd S n st'
  runs : Runs rk (arrOf st') 0 (pendingOf st').toList lo
theorem Sr.setP {st st' : SortSt} {lo hi : Nat} {p : Array (Nat × Nat × Nat)} (h : Sr rk kd S n st lo st') (r : Runs rk (arrOf st') 0 p.toList hi) : Sr rk kd S n st hi (setPending st' p) :=
  ⟨h.perm, ⟨h.sane.size, h.sane.all, h.sane.kind, h.sane.failed⟩, r⟩
end
end Tim
namespace Tim
open PySem PyProof.Rows
section
variable {α : Type}
end
structure Sorted (rk : Value → Int) (vs out : List Value) : Prop where
  perm : out.Perm vs
  asc : out.Pairwise fun x y => rk x ≤ rk y
section
variable {prog : Program} {w : World} {A : Around} {E : Value → Shared → Prop} {s : Shared}
end
end Tim
namespace Tim
structure STO {α : Type} (lt : α → α → Bool) : Prop where
  irr : ∀ a, lt a a = false
  tr : ∀ a b c, lt a b = true → lt b c = true → lt a c = true
  tri : ∀ a b, lt a b = false → lt b a = false → a = b
section
variable {α β : Type}
theorem STO.map {lt : α → α → Bool} (h : STO lt) (f : β → α) (inj : ∀ a b, f a = f b → a = b) : STO fun a b => lt (f a) (f b) :=
  ⟨fun a => h.irr _, fun a b c => h.tr _ _ _, fun a b x y => inj a b (h.tri _ _ x y)⟩
end
end Tim
namespace L2
open PySem PySem.Spec PyProof.Rows
abbrev Key := Sum Int Str
def keyIs : Key → Value → Bool
  | .inl k, v => Value.isInt k v
  | .inr x, v => Value.isStrOf x v
def keyH (w : World) : Key → Int
  | .inl k => hashInt k
  | .inr x => hashStr w x
theorem keyIs_shape : ∀ {k : Key} {v : Value}, keyIs k v = true → (∃ i t, k = Sum.inl i ∧ v = Value.int i t) ∨ (∃ x t, k = Sum.inr x ∧ v = Value.str x t)
  | .inl i, v, h => by
    obtain ⟨t, e⟩ := Value.isInt_shape (k := i) (v := v) h
    exact .inl ⟨i, t, rfl, e⟩
  | .inr x, v, h => by
    obtain ⟨t, e⟩ := Value.isStrOf_shape (x := x) (v := v) h
    exact .inr ⟨x, t, rfl, e⟩
theorem keyIs_int (i : Int) (t : Tok) : keyIs (.inl i) (.int i t) = true := by simp [keyIs, Value.isInt]
theorem keyIs_str (x : Str) (t : Tok) : keyIs (.inr x) (.str x t) = true := by simp [keyIs, Value.isStrOf]
theorem key_ll (a b : Int) : decide ((Sum.inl a : Key) = Sum.inl b) = (a == b) := by
  by_cases e : a = b
  · subst e; simp
  · have h : ¬ (Sum.inl a : Key) = Sum.inl b := fun q => e (Sum.inl.inj q)
    rw [decide_eq_false h]
    exact (beq_eq_false_iff_ne.mpr e).symm
theorem key_rr (a b : Str) : decide ((Sum.inr a : Key) = Sum.inr b) = decide (a = b) := by
  by_cases e : a = b
  · subst e; simp
  · have h : ¬ (Sum.inr a : Key) = Sum.inr b := fun q => e (Sum.inr.inj q)
    rw [decide_eq_false h, decide_eq_false e]
theorem key_lr (a : Int) (b : Str) : decide ((Sum.inl a : Key) = Sum.inr b) = false := decide_eq_false (fun q => nomatch q)
theorem key_rl (a : Str) (b : Int) : decide ((Sum.inr a : Key) = Sum.inl b) = false := decide_eq_false (fun q => nomatch q)
def mixKind (prog : Program) (w : World) : PySem.KeyKind prog w Key where
  is := keyIs
  hash := keyH w
  inj := fun v a b ha hb => by
    rcases keyIs_shape ha with ⟨i, t, rfl, rfl⟩ | ⟨x, t, rfl, rfl⟩
    · rcases keyIs_shape hb with ⟨j, u, rfl, e⟩ | ⟨y, u, rfl, e⟩
      · injection e with e1 _; rw [e1]
      · exact nomatch e
    · rcases keyIs_shape hb with ⟨j, u, rfl, e⟩ | ⟨y, u, rfl, e⟩
      · exact nomatch e
      · injection e with e1 _; rw [e1]
  byValue := fun k v h => by
    rcases keyIs_shape h with ⟨i, t, rfl, rfl⟩ | ⟨x, t, rfl, rfl⟩ <;> rfl
  pyHash := fun hv h => by
    rcases keyIs_shape hv with ⟨i, t, rfl, rfl⟩ | ⟨x, t, rfl, rfl⟩
    · exact wpAny_pyHash_int h
    · exact wpAny_pyHash_str h
  eqBool := fun hu hv h => by
    rcases keyIs_shape hu with ⟨i, t, rfl, rfl⟩ | ⟨x, t, rfl, rfl⟩
    · rcases keyIs_shape hv with ⟨j, u, rfl, rfl⟩ | ⟨y, u, rfl, rfl⟩
      · rw [key_ll] at h; exact wpAny_eqBool_int h
      · rw [key_lr] at h; exact SeqAt.EqAt.int_str i t y u _ _ _ _ h
    · rcases keyIs_shape hv with ⟨j, u, rfl, rfl⟩ | ⟨y, u, rfl, rfl⟩
      · rw [key_rl] at h; exact SeqAt.EqAt.str_int x t j u _ _ _ _ h
      · rw [key_rr] at h; exact wpAny_eqBool_str h
  «strs» := fun k x t v h => by
    rcases keyIs_shape h with ⟨i, u, rfl, e⟩ | ⟨y, u, rfl, e⟩
    · exact nomatch e
    · injection e with e1 _
      subst e1
      cases v <;> rfl
theorem mixKind_int (prog : Program) (w : World) (i : Int) (t : Tok) : (mixKind prog w).is (.inl i) (.int i t) = true := keyIs_int i t
theorem mixKind_str (prog : Program) (w : World) (x : Str) (t : Tok) : (mixKind prog w).is (.inr x) (.str x t) = true := keyIs_str x t
end L2
namespace L2
open PySem PySem.Spec PyProof.Rows
inductive V where
  | non | bl (b : Bool) | int (i : Int) | str (x : Str) | byt (b : Array UInt8) | flt (b : UInt64) | ref (a : Addr) | ty (n : String)
  deriving DecidableEq
def RelV : V → Value → Prop
  | .non, u => u = Value.none
  | .bl b, u => u = Value.bool b
  | .int i, u => ∃ t, u = Value.int i t
  | .str x, u => ∃ t, u = Value.str x t
  | .byt b, u => ∃ t, u = Value.bytes b t
  | .flt b, u => ∃ t, u = Value.float b t
  | .ref a, u => u = Value.ref a
  | .ty n, u => u = Value.type n
abbrev Vals : List V → List Value → Prop := Paired RelV
theorem Vals.length {xs : List V} {us : List Value} (r : Vals xs us) : xs.length = us.length := Paired.length r
theorem Vals.get : ∀ {xs : List V} {us : List Value} {i : Nat} {x : V}, Vals xs us → xs[i]? = some x → ∃ u, us[i]? = some u ∧ RelV x u
  | _, _, _, _, .nil, e => by simp at e
  | _, _, 0, _, .cons r _, e => by simp at e; subst e; exact ⟨_, rfl, r⟩
  | _, _, i + 1, x, .cons _ t, e => by
    obtain ⟨u, h1, h2⟩ := Vals.get (i := i) (x := x) t (by simpa using e)
    exact ⟨u, by simpa using h1, h2⟩
theorem Vals.set {x : V} {u : Value} (r : RelV x u) : ∀ {xs : List V} {us : List Value} (i : Nat), Vals xs us → Vals (xs.set i x) (us.set i u)
  | _, _, _, .nil => .nil
  | _, _, 0, .cons _ t => .cons r t
  | _, _, i + 1, .cons q t => .cons q (Vals.set r i t)
theorem Vals.append : ∀ {xs ys : List V} {us ws : List Value}, Vals xs us → Vals ys ws → Vals (xs ++ ys) (us ++ ws)
  | _, _, _, _, .nil, s => s
  | _, _, _, _, .cons r t, s => .cons r (Vals.append t s)
theorem Vals.take : ∀ {xs : List V} {us : List Value} (n : Nat), Vals xs us → Vals (xs.take n) (us.take n)
  | _, _, 0, _ => .nil
  | _, _, _ + 1, .nil => .nil
  | _, _, n + 1, .cons r t => .cons r (Vals.take n t)
theorem Vals.drop : ∀ {xs : List V} {us : List Value} (n : Nat), Vals xs us → Vals (xs.drop n) (us.drop n)
  | _, _, 0, r => r
  | _, _, _ + 1, .nil => .nil
  | _, _, n + 1, .cons _ t => Vals.drop n t
def RelO : Option V → Option Value → Prop
  | some v, some u => RelV v u
  | none, none => True
  | _, _ => False
def KV {κ : Type} : List (κ × V) → List (κ × Value) → Prop := Paired fun (p : κ × V) (q : κ × Value) => p.1 = q.1 ∧ RelV p.2 q.2
def kV : Key → V
  | .inl i => .int i
  | .inr x => .str x
inductive HO where
  /-- a list -/
  | lst (xs : List V)
  /-- a tuple (never changes) -/
  | tup (xs : List V)
  /-- a dict whose keys are ints and texts; one whose keys are tuples of ints and texts (the empty one is both) -/
  | dK (kvs : List (Key × V)) | dT (kvs : List (List Key × V))
  /-- a set of ints: its members, its size -/
  | set (S : Int → Bool) (n : Nat)
  /-- an instance of the class at C, its dict at dx, its attributes -/
  | ins (C dx : Addr) (fs : List (Str × V))
  /-- the dict of the instance at x -/
  | own (x : Addr)
  /-- the dict of an exception -/
  | xd (fs : List (Str × V))
  /-- a bound method, f of x -/
  | met (f x : Addr)
  /-- a range object lo, lo + 1, .. below hi -/
  | rng (lo hi : Int)
  /-- a thing that is known to the object (the script; a dict while a loop walks it): read, never written while it is so -/
  | frz (o : Obj) (u : HO)
  /-- a code object's table -/
  | tbl (ps : Array Value)
  /-- any other thing, by what is true of its one object (a def of one's own: SetO a S n := HO.ext fun h => ..) -/
  | ext (φ : Heap → Prop)
abbrev Hp := Addr → Option HO
def upd (H : Hp) (a : Addr) (o : HO) : Hp := fun b => if b = a then some o else H b
theorem upd_same {H : Hp} {a : Addr} {o : HO} : upd H a o a = some o := by unfold upd; rw [if_pos rfl]
theorem upd_ne {H : Hp} {a b : Addr} {o : HO} (h : b ≠ a) : upd H a o b = H b := by unfold upd; rw [if_neg h]
theorem upd_upd {H : Hp} {a : Addr} {o u : HO} : upd (upd H a o) a u = upd H a u := by
  funext b; unfold upd; split <;> rfl
theorem ne_of {H : Hp} {a b : Addr} {o u : HO} (h : H a = some o) (h' : H b = some u) (d : o ≠ u) : a ≠ b := by
  intro e; subst e; rw [h] at h'; exact d (Option.some.inj h')
theorem ne_of_none {H : Hp} {a b : Addr} {o : HO} (h : H a = some o) (h' : H b = none) : a ≠ b := by
  intro e; subst e; rw [h] at h'; cases h'
section
variable (P : Program) (w : World)
def ObjOk (H : Hp) (h : Heap) (a : Addr) : HO → Prop
  | .lst xs => xs.length ≤ sizeLine ∧ ∃ (its : List Value) (n : Nat), Vals xs its ∧ h.get? a = some { cls := .type "list", data := .seq its.toArray n }
  | .tup xs => xs.length ≤ sizeLine ∧ ∃ its : List Value, Vals xs its ∧ IsTup h a its.toArray
  | .dK kvs => kvs.length ≤ sizeLine ∧ (a == sysModules) = false ∧ ∃ vs, KV kvs vs ∧ h.DictOf (mixKind P w) a vs
  | .dT kvs => kvs.length ≤ sizeLine ∧ (a == sysModules) = false ∧ ∃ xs : List (List Key × Addr × Value),
      Paired (fun (p : List Key × V) (q : List Key × Addr × Value) => p.1 = q.1 ∧ H q.2.1 = some (.tup (p.1.map kV)) ∧ RelV p.2 q.2.2) kvs xs ∧
      ∃ o es ep, h.get? a = some o ∧ o.ExactDict ∧ o.data = .dict es ep ∧ es.toList = xs.map (entryOfKey (tupleKind (mixKind P w))) ∧ (xs.map (·.1)).Nodup
  | .set S n => h.SetOf (intKind P w) a S n
  | .ins C dx fs => H dx = some (.own a) ∧ fs.length ≤ 1000 ∧ dx ≠ a ∧ h.get? a = some (PySem.W.instObj C dx) ∧
      ∃ mA, h.Ns1 dx mA ∧ (∀ f, RelO (fs.lookup f) (mA f)) ∧ PySem.Within mA (fs.map (·.1))
  | .own _ => ∃ o, h.get? a = some o
  | .xd fs => ∃ mA, h.Ns1 a mA ∧ ∀ f, RelO (fs.lookup f) (mA f)
  | .rng lo hi => ∃ t u v, h.get? a = some { cls := .type "range", data := .fields #[.int lo t, .int hi u, .int 1 v] }
  | .frz o u => h.get? a = some o ∧ ObjOk H h a u
  | .tbl ps => h.get? a = some { cls := .none, data := .fields ps }
  | .met f x => h.get? a = some (PySem.W.methodObj (.ref f) (.ref x))
  | .ext φ => φ h ∧ (∃ o, h.get? a = some o) ∧ ∀ h1 h2 : Heap, φ h1 → (∀ o, h1.get? a = some o → h2.get? a = some o) → φ h2
def HOk (H : Hp) (h : Heap) : Prop := ∀ a o, H a = some o → ObjOk P w H h a o
end
section
variable {P : Program} {w : World} {H H' : Hp} {h h' : Heap} {a : Addr} {o : HO}
theorem ObjOk.lt (x : ObjOk P w H h a o) : a < h.objs.size := by
  cases o with
  | lst xs => obtain ⟨_, _, _, _, e⟩ := x; exact Heap.lt_size e
  | tup xs => obtain ⟨_, _, _, p⟩ := x; exact p.lt
  | dK kvs => obtain ⟨_, _, _, _, o, _, _, e, _⟩ := x; exact Heap.lt_size e
  | dT kvs => obtain ⟨_, _, _, _, o, _, _, e, _⟩ := x; exact Heap.lt_size e
  | set S n => obtain ⟨o, _, _, _, e, _⟩ := x; exact Heap.lt_size e
  | ins C dx fs => obtain ⟨_, _, _, e, _⟩ := x; exact Heap.lt_size e
  | own y => obtain ⟨_, e⟩ := x; exact Heap.lt_size e
  | xd fs => obtain ⟨_, ⟨_, _, _, e, _⟩, _⟩ := x; exact Heap.lt_size e
  | rng lo hi => obtain ⟨_, _, _, e⟩ := x; exact Heap.lt_size e
  | frz ob u => obtain ⟨e, _⟩ := x; exact Heap.lt_size e
  | tbl ps => exact Heap.lt_size (show h.get? a = some _ from x)
  | met f y => exact Heap.lt_size (show h.get? a = some _ from x)
  | ext φ => obtain ⟨_, ⟨_, e⟩, _⟩ := x; exact Heap.lt_size e
theorem Paired.mapP {α β : Type} {F G : α → β → Prop} : ∀ {l₁ : List α} {l₂ : List β}, Paired F l₁ l₂ → (∀ a b, F a b → G a b) → Paired G l₁ l₂
  | _, _, .nil, _ => .nil
  | _, _, .cons r t, f => .cons (f _ _ r) (Paired.mapP t f)
theorem ObjOk.stay (x : ObjOk P w H h a o) (k : ∀ b u, (b = a ∨ H b = some (.own a)) → h.get? b = some u → h'.get? b = some u)
    (ho : ∀ b, H b = some (.own a) → H' b = some (.own a)) (ht : ∀ b xs, H b = some (.tup xs) → H' b = some (.tup xs)) : ObjOk P w H' h' a o := by
  induction o with
  | lst xs => obtain ⟨z, its, n, r, e⟩ := x; exact ⟨z, its, n, r, k _ _ (.inl rfl) e⟩
  | tup xs => obtain ⟨z, its, r, ob, e, c⟩ := x; exact ⟨z, its, r, ob, k _ _ (.inl rfl) e, c⟩
  | dK kvs => obtain ⟨z, y, vs, r, ob, es, ep, e, c⟩ := x; exact ⟨z, y, vs, r, ob, es, ep, k _ _ (.inl rfl) e, c⟩
  | dT kvs =>
    obtain ⟨z, y, xs, r, ob, es, ep, e, c⟩ := x
    exact ⟨z, y, xs, Paired.mapP r fun p q z => ⟨z.1, ht _ _ z.2.1, z.2.2⟩, ob, es, ep, k _ _ (.inl rfl) e, c⟩
  | set S n => obtain ⟨ob, es, ep, t, e, c⟩ := x; exact ⟨ob, es, ep, t, k _ _ (.inl rfl) e, c⟩
  | ins C dx fs =>
    obtain ⟨d, z, ne, e, mA, ⟨od, es, ep, e2, c⟩, r⟩ := x
    exact ⟨ho _ d, z, ne, k _ _ (.inl rfl) e, mA, ⟨od, es, ep, k _ _ (.inr d) e2, c⟩, r⟩
  | own y => obtain ⟨ob, e⟩ := x; exact ⟨ob, k _ _ (.inl rfl) e⟩
  | xd fs => obtain ⟨mA, ⟨od, es, ep, e, c⟩, r⟩ := x; exact ⟨mA, ⟨od, es, ep, k _ _ (.inl rfl) e, c⟩, r⟩
  | rng lo hi => obtain ⟨t, u, v, e⟩ := x; exact ⟨t, u, v, k _ _ (.inl rfl) e⟩
  | frz ob u ih => obtain ⟨e, q⟩ := x; exact ⟨k _ _ (.inl rfl) e, ih q⟩
  | tbl ps =>
    have e : h.get? a = some { cls := .none, data := .fields ps } := x
    show h'.get? a = some { cls := .none, data := .fields ps }
    exact k a _ (.inl rfl) e
  | met f y =>
    have e : h.get? a = some (PySem.W.methodObj (.ref f) (.ref y)) := x
    show h'.get? a = some (PySem.W.methodObj (.ref f) (.ref y))
    exact k a _ (.inl rfl) e
  | ext φ => obtain ⟨p, ⟨o, e⟩, st⟩ := x; exact ⟨st _ _ p fun o q => k _ _ (.inl rfl) q, ⟨o, k _ _ (.inl rfl) e⟩, st⟩
theorem HOk.lt (x : HOk P w H h) (e : H a = some o) : a < h.objs.size := (x a o e).lt
theorem HOk.fresh (x : HOk P w H h) (e : h.objs.size ≤ a) : H a = none := by
  cases q : H a with
  | none => rfl
  | some u => exact absurd (Nat.lt_of_lt_of_le (x.lt q) e) (Nat.lt_irrefl _)
theorem HOk.kept (x : HOk P w H h) (k : ∀ b u, h.get? b = some u → h'.get? b = some u) : HOk P w H h' := fun a o e =>
  (x a o e).stay (fun b u _ q => k b u q) (fun _ q => q) fun _ _ q => q
theorem HOk.laid (x : HOk P w H h) (k : ∀ b u, h.get? b = some u → h'.get? b = some u) (hp : h.objs.size ≤ a) (new : ObjOk P w (upd H a o) h' a o) : HOk P w (upd H a o) h' := fun b u e => by
  have hn := x.fresh hp
  by_cases hb : b = a
  · subst hb; rw [upd_same] at e; cases e; exact new
  · rw [upd_ne hb] at e
    exact (x b u e).stay (fun c v _ q => k c v q) (fun c q => by rw [upd_ne (ne_of_none q hn)]; exact q) fun c xs q => by rw [upd_ne (ne_of_none q hn)]; exact q
end
def Rd (H : Hp) (a : Addr) (u : HO) : Prop := H a = some u ∨ ∃ o, H a = some (.frz o u)
theorem Rd.of {H : Hp} {a : Addr} {u : HO} (h : H a = some u) : Rd H a u := .inl h
theorem Rd.ok {P : Program} {w : World} {H : Hp} {h : Heap} {a : Addr} {u : HO} (r : Rd H a u) (x : HOk P w H h) : ObjOk P w H h a u := by
  rcases r with r | ⟨o, r⟩
  · exact x a u r
  · obtain ⟨_, q⟩ := x a _ r
    exact q
def Mut : Option HO → Prop
  | some (.lst _) => True
  | some (.dK _) => True
  | some (.dT _) => True
  | some (.set _ _) => True
  | some (.ins _ _ _) => True
  | some (.ext _) => True
  | _ => False
section
variable {P : Program} {w : World} {H : Hp} {h h' : Heap} {x e : Addr} {o' : HO}
theorem HOk.write (ok : HOk P w H h) (mu : Mut (H x)) (he : e = x ∨ H e = some (.own x)) (k : ∀ b u, b ≠ e → h.get? b = some u → h'.get? b = some u) (heo : ∃ u, h'.get? e = some u)
    (new : ObjOk P w (upd H x o') h' x o') : HOk P w (upd H x o') h' := fun b u q => by
  have nown : ∀ c y, H c = some (.own y) → c ≠ x := fun c y r z => by subst z; rw [r] at mu; exact mu
  have ntup : ∀ c xs, H c = some (.tup xs) → c ≠ x := fun c xs r z => by subst z; rw [r] at mu; exact mu
  by_cases hb : b = x
  · subst hb; rw [upd_same] at q; cases q; exact new
  · rw [upd_ne hb] at q
    by_cases hbe : b = e
    · have q' : H b = some (.own x) := by
        rcases he with z | z
        · exact absurd (hbe.trans z) hb
        · rw [hbe]; exact z
      rw [q] at q'; cases q'
      obtain ⟨v, hv⟩ := heo
      exact ⟨v, by rw [hbe]; exact hv⟩
    · refine (ok b u q).stay (fun c v hc r => k c v ?_ r) (fun c r => by rw [upd_ne (nown c b r)]; exact r) fun c xs r => by rw [upd_ne (ntup c xs r)]; exact r
      rcases hc with rfl | hc
      · exact hbe
      · rintro rfl
        rcases he with z | z
        · exact nown c b hc z
        · rw [hc] at z; cases z; exact hb rfl
end
structure Un (fs ex : List Addr) (H H' : Hp) (h h' : Heap) : Prop where
  keep : ∀ b o, h.get? b = some o → H b = none → b ∉ fs → b ∉ ex → h'.get? b = some o
  slot : ∀ b o, h.get? b = some o → H b = none → b ∈ fs → b ∉ ex → ∃ sl, h'.get? b = some { o with slots := sl }
  free : ∀ b o, h.get? b = some o → H b = none → b ∉ ex → H' b = none
  there : ∀ b o, h.get? b = some o → b ∉ ex → ∃ o', h'.get? b = some o'
  tups : ∀ b xs, H b = some (.tup xs) → H' b = some (.tup xs)
  frzs : ∀ b o u, H b = some (.frz o u) → H' b = some (.frz o u)
  tbls : ∀ b ps, H b = some (.tbl ps) → ∃ more, H' b = some (.tbl (ps ++ more))
section
variable {fs fs' ex ex' : List Addr} {H H1 H2 : Hp} {h h1 h2 h' : Heap} {a x e : Addr} {o : HO}
theorem Un.any (u : Un fs ex H H1 h h1) {b : Addr} {ob : Obj} (q : h.get? b = some ob) (n : H b = none) (hx : b ∉ ex) : ∃ sl, h1.get? b = some { ob with slots := sl } := by
  by_cases hb : b ∈ fs
  · exact u.slot b ob q n hb hx
  · exact ⟨ob.slots, u.keep b ob q n hb hx⟩
theorem Un.trans (a : Un fs ex H H1 h h1) (b : Un fs ex H1 H2 h1 h2) : Un fs ex H H2 h h2 where
  keep := fun c ob q n hc hx => b.keep c ob (a.keep c ob q n hc hx) (a.free c ob q n hx) hc hx
  slot := fun c ob q n hc hx => by
    obtain ⟨sl, e1⟩ := a.slot c ob q n hc hx
    obtain ⟨sl', e2⟩ := b.slot c _ e1 (a.free c ob q n hx) hc hx
    exact ⟨sl', e2⟩
  free := fun c ob q n hx => by
    obtain ⟨o', e1⟩ := a.there c ob q hx
    exact b.free c o' e1 (a.free c ob q n hx) hx
  there := fun c ob q hx => by
    obtain ⟨o', e1⟩ := a.there c ob q hx
    exact b.there c o' e1 hx
  tups := fun c xs q => b.tups c xs (a.tups c xs q)
  frzs := fun c ob xs q => b.frzs c ob xs (a.frzs c ob xs q)
  tbls := fun c ps q => by
    obtain ⟨m1, e1⟩ := a.tbls c ps q
    obtain ⟨m2, e2⟩ := b.tbls c _ e1
    exact ⟨m1 ++ m2, by rw [e2, Array.append_assoc]⟩
theorem Un.kept (k : ∀ b u, h.get? b = some u → h'.get? b = some u) : Un fs ex H H h h' :=
  ⟨fun b ob q _ _ _ => k b ob q, fun b ob q _ _ _ => ⟨ob.slots, k b ob q⟩, fun _ _ _ n _ => n, fun b ob q _ => ⟨ob, k b ob q⟩, fun _ _ q => q, fun _ _ _ q => q, fun _ ps q => ⟨#[], by rw [q]; simp⟩⟩
theorem Un.refl : Un fs ex H H h h := Un.kept fun _ _ q => q
theorem Un.laid (k : ∀ b u, h.get? b = some u → h'.get? b = some u) (hp : h.objs.size ≤ a) (hn : H a = none) : Un fs ex H (upd H a o) h h' where
  keep := fun b u q _ _ _ => k b u q
  slot := fun b u q _ _ _ => ⟨u.slots, k b u q⟩
  free := fun b u q n _ => by rw [upd_ne (Nat.ne_of_lt (Nat.lt_of_lt_of_le (Heap.lt_size q) hp))]; exact n
  there := fun b u q _ => ⟨u, k b u q⟩
  tups := fun b xs q => by rw [upd_ne (ne_of_none q hn)]; exact q
  frzs := fun b u xs q => by rw [upd_ne (ne_of_none q hn)]; exact q
  tbls := fun b ps q => ⟨#[], by rw [upd_ne (ne_of_none q hn), q]; simp⟩
theorem Un.write (mu : Mut (H x)) (he : e = x ∨ H e = some (.own x)) (k : ∀ b u, b ≠ e → h.get? b = some u → h'.get? b = some u) (heo : ∃ u, h'.get? e = some u) : Un fs ex H (upd H x o) h h' := by
  have hx : ∀ b, H b = none → b ≠ x := fun b n z => by subst z; rw [n] at mu; exact mu
  have hb : ∀ b, H b = none → b ≠ e := fun b n z => by
    subst z
    rcases he with r | r
    · exact hx b n r
    · rw [n] at r; cases r
  have hm : ∀ b u, H b = some u → ¬ Mut (some u) → b ≠ x := fun b u q nm z => by subst z; rw [q] at mu; exact nm mu
  refine ⟨fun b u q n _ _ => k b u (hb b n) q, fun b u q n _ _ => ⟨u.slots, k b u (hb b n) q⟩, fun b u q n _ => by rw [upd_ne (hx b n)]; exact n, fun b u q _ => ?_,
    fun b xs q => by rw [upd_ne (hm b _ q fun z => z)]; exact q, fun b u xs q => by rw [upd_ne (hm b _ q fun z => z)]; exact q, fun b ps q => ⟨#[], by rw [upd_ne (hm b _ q fun z => z), q]; simp⟩⟩
  by_cases hbe : b = e
  · subst hbe; exact heo
  · exact ⟨u, k b u hbe q⟩
theorem Un.mono (u : Un fs ex H H1 h h1) (hs : ∀ b ∈ fs, b ∈ fs') (hx : ∀ b ∈ ex, b ∈ ex') : Un fs' ex' H H1 h h1 :=
  ⟨fun b ob q n hb he => u.keep b ob q n (fun z => hb (hs b z)) fun z => he (hx b z), fun _ _ q n _ he => u.any q n fun z => he (hx _ z), fun b ob q n he => u.free b ob q n fun z => he (hx b z), fun b ob q he => u.there b ob q fun z => he (hx b z), u.tups, u.frzs, u.tbls⟩
end
def trk (h : Heap) (H : Hp) : List Addr := (List.range h.objs.size).filter fun a => (H a).isSome
def hidT (h : Heap) (H : Hp) : Heap := PySem.W.hideAll h (trk h H)
theorem hidT_size (h : Heap) (H : Hp) : (hidT h H).objs.size = h.objs.size := PySem.W.hideAll_size _ _
theorem hidT_get {h : Heap} {H : Hp} {b : Addr} {o : Obj} (e : h.get? b = some o) (n : H b = none) : (hidT h H).get? b = some o :=
  PySem.W.hideAll_get _ e fun hm => by
    have q : (H b).isSome = true := (List.mem_filter.mp hm).2
    rw [n] at q; simp at q
theorem of_hidT {h : Heap} {H : Hp} {b : Addr} {o : Obj} (e : (hidT h H).get? b = some o) : h.get? b = some o ∧ H b = none := by
  have e' : h.get? b = some o := PySem.W.of_hideAll (trk h H) e
  refine ⟨e', ?_⟩
  cases q : H b with
  | none => rfl
  | some x =>
    have hm : b ∈ trk h H := List.mem_filter.mpr ⟨List.mem_range.mpr (Heap.lt_size e'), by simp [q]⟩
    have z : (hidT h H).get? b = none := PySem.W.hideAll_none (trk h H) hm
    rw [z] at e; cases e
def allNews (g h : Heap) (L : Addr) : List (Addr × Obj) := (List.range h.objs.size).filterMap fun a => if a = L ∨ (g.get? a).isSome = true then none else (h.get? a).map fun o => (a, o)
def rest (g h : Heap) (L d : Addr) : List (Addr × Obj) := (allNews g h L).filter fun p => decide (p.1 ≠ d)
end L2
namespace L2
open PySem PySem.Spec PyProof.Rows
structure Mod (K : PySem.W.Frag) (mg : Str → Option Value) (base : Heap) : Prop where
  kin : K.In base
  glob : base.Ns mainGlobals mg
  blt : ∃ mb, base.Ns builtinsNs mb ∧ ∀ x : Str, x ≠ "__name__" → mb x = bootBuiltins x
  nolimit : base.NoLimit
structure Cx where
  prog : Program
  w : World
  K : PySem.W.Frag
  mg : Str → Option Value
  base : Heap
  A : Around
  N : List Str
  s₀ : Shared
  H₀ : Hp
  env : Env
  outer : List Env
  stack : List Env
  ex : List Addr
  fn : Str → Bool
  calm : Bool
  pn : List (Addr × Obj)
  xe : Value → Shared → Prop
def frs (l : List Env) : List Addr := l.filterMap (·.frame)
abbrev Cx.fs (X : Cx) : List Addr := frs X.outer
def Vis (sc : Scope) (x : Str) : Prop := sc.names.lookup x = some .local ∨ sc.names.lookup x = some .cell ∨ sc.names.lookup x = some .free
def Loc (sc : Scope) (x : Str) : Prop := sc.names.lookup x = some .local ∨ sc.names.lookup x = some .cell
def Look (env : Env) (h : Heap) (m : Str → Option Value) (x : Str) (u : Value) : Prop :=
  (env.kindOf x = some .local ∧ m x = some u) ∨ ((env.kindOf x = some .cell ∨ env.kindOf x = some .free) ∧ ∃ c, env.cells.lookup x = some c ∧ h.IsCell c (some u))
structure Cx.Ok (X : Cx) : Prop where
  mod : Mod X.K X.mg X.base
  kind : X.env.scope.kind = .function
  glob : X.env.globals = mainGlobals
  blt : X.env.builtins = builtinsNs
  above : X.s₀.heap.objs.size ≤ X.env.locals
  inj : ∀ x y c, X.env.cells.lookup x = some c → X.env.cells.lookup y = some c → x = y
  has : ∀ x, (X.env.kindOf x = some .cell ∨ X.env.kindOf x = some .free) → ∃ c, X.env.cells.lookup x = some c
  cab : ∀ x c, X.fn x = true → X.env.cells.lookup x = some c → X.s₀.heap.objs.size ≤ c
  hd : X.calm = true → X.A.handled = none
  frames : X.A.frames = some X.stack
  stk : X.stack = X.outer ∨ (X.stack = X.env :: X.outer ∧ X.env.frame = some X.env.locals)
  exf : ∀ b ∈ X.ex, b ≠ X.env.locals ∧ ∀ x c, X.env.cells.lookup x = some c → c ≠ b
  bs : ∀ b o, X.base.get? b = some o → X.s₀.heap.get? b = some o ∧ X.H₀ b = none
  bsz : X.base.objs.size ≤ X.s₀.heap.objs.size
  noex : ∀ b o, X.base.get? b = some o → b ∉ X.ex
  exfs : ∀ b ∈ X.ex, b ∉ X.fs
  funs : X.s₀.heap.FunFrames X.base X.outer
  frf : ∀ b ∈ X.fs, X.H₀ b = none
structure Inv (X : Cx) (pins : List (Addr × Obj)) (σ : List (Option V)) (H : Hp) (s : Shared) : Prop where
  ok : X.Ok
  os : s.os = X.s₀.os
  bare : AllBare s.gens
  base : Un X.fs X.ex X.H₀ H X.s₀.heap s.heap
  loc : ∃ m, s.heap.Ns X.env.locals m ∧ ∀ (i : Nat) (x : Str) (v : V), X.N[i]? = some x → σ[i]? = some (some v) → Vis X.env.scope x → ∃ u, RelV v u ∧ Look X.env s.heap m x u
  cell : ∀ x c, X.env.cells.lookup x = some c → ∃ v, s.heap.IsCell c v
  free : H X.env.locals = none
  freeC : ∀ x c, X.env.cells.lookup x = some c → H c = none
  pin : ∀ p ∈ X.pn ++ pins, s.heap.get? p.1 = some p.2 ∧ H p.1 = none ∧ p.1 ≠ X.env.locals ∧ p.1 ∉ X.fs ∧ ∀ v, p.2.data ≠ .cell v
  hok : HOk X.prog X.w H s.heap
  len : σ.length = X.N.length
section
variable {X : Cx} {pins : List (Addr × Obj)} {σ : List (Option V)} {H H' : Hp} {s : Shared} {h' : Heap}
theorem Cx.Ok.nofr (ok : X.Ok) {b : Addr} {o : Obj} (e : X.base.get? b = some o) : b ∉ X.fs := fun hb => by
  have := (ok.funs.mem hb).1
  rw [e] at this; cases this
theorem Inv.bs (I : Inv X pins σ H s) : ∀ b o, X.base.get? b = some o → s.heap.get? b = some o ∧ H b = none := fun b o e =>
  ⟨I.base.keep b o (I.ok.bs b o e).1 (I.ok.bs b o e).2 (I.ok.nofr e) (I.ok.noex b o e), I.base.free b o (I.ok.bs b o e).1 (I.ok.bs b o e).2 (I.ok.noex b o e)⟩
theorem Inv.bk (I : Inv X pins σ H s) : ∀ b o, X.base.get? b = some o → s.heap.get? b = some o := fun b o e => (I.bs b o e).1
theorem Inv.mod (I : Inv X pins σ H s) : Mod X.K X.mg X.base := I.ok.mod
theorem Inv.kIn (I : Inv X pins σ H s) : X.K.In s.heap := I.ok.mod.kin.keeps I.bk
theorem Inv.nolimit (I : Inv X pins σ H s) : s.heap.NoLimit := I.ok.mod.nolimit.keeps I.bk
theorem Inv.fr (I : Inv X pins σ H s) : ∃ m, Fr X.base X.env.locals s.heap m :=
  let ⟨m, hn, _⟩ := I.loc
  ⟨m, hn, I.bk, Nat.le_trans I.ok.bsz I.ok.above⟩
theorem Inv.lt (I : Inv X pins σ H s) : X.env.locals < s.heap.objs.size := let ⟨_, hn, _⟩ := I.loc; hn.lt
theorem Inv.sz (I : Inv X pins σ H s) : X.s₀.heap.objs.size ≤ s.heap.objs.size := Nat.le_trans I.ok.above (Nat.le_of_lt I.lt)
theorem Inv.nofs (I : Inv X pins σ H s) {a : Addr} (h : s.heap.objs.size ≤ a) : a ∉ X.fs := fun hb => by
  obtain ⟨_, o, ho, _⟩ := I.ok.funs.mem hb
  exact absurd (Nat.lt_of_lt_of_le (Heap.lt_size ho) (Nat.le_trans I.sz h)) (Nat.lt_irrefl _)
theorem Inv.cne (I : Inv X pins σ H s) : ∀ x c, X.env.cells.lookup x = some c → c ≠ X.env.locals := fun x c e z => by
  obtain ⟨v, o, ho, hd⟩ := I.cell x c e
  obtain ⟨m, ⟨o', es, ep, ho', hd', _⟩, _⟩ := I.loc
  rw [z, ho'] at ho; cases ho; rw [hd'] at hd; cases hd
theorem Inv.funs (I : Inv X pins σ H s) : s.heap.FunFrames X.base X.outer := by
  have all : ∀ (l : List Env), (∀ b ∈ frs l, b ∈ X.fs) → X.s₀.heap.FunFrames X.base l → s.heap.FunFrames X.base l := by
    intro l
    induction l with
    | nil => intro _ _; trivial
    | cons env r ih =>
      intro hs hl
      obtain ⟨hk, ⟨L, o, hf, hn, ho, hd⟩, hr⟩ := hl
      have hL : L ∈ X.fs := hs L (by unfold frs; rw [List.filterMap_cons, hf]; exact List.mem_cons_self)
      obtain ⟨sl, e⟩ := I.base.slot L o ho (I.ok.frf L hL) hL fun z => I.ok.exfs L z hL
      exact ⟨hk, ⟨L, _, hf, hn, e, hd⟩, ih (fun b hb => hs b (by unfold frs; rw [List.filterMap_cons, hf]; exact List.mem_cons_of_mem _ hb)) hr⟩
  exact all X.outer (fun _ hb => hb) I.ok.funs
theorem Inv.stack (I : Inv X pins σ H s) : s.heap.FunFrames X.base X.stack := by
  rcases I.ok.stk with e | ⟨e, hf⟩
  · rw [e]; exact I.funs
  · rw [e]
    obtain ⟨m, hn, _⟩ := I.loc
    refine .cons (by rw [I.ok.kind]; decide) hf hn ?_ I.funs
    exact Heap.get?_none_of_le (Nat.le_trans I.ok.bsz I.ok.above)
theorem Inv.stkSub (I : Inv X pins σ H s) : ∀ b ∈ frs X.stack, b ∈ X.env.locals :: X.fs := fun b hb => by
  rcases I.ok.stk with e | ⟨e, hf⟩
  · rw [e] at hb; exact List.mem_cons_of_mem _ hb
  · rw [e] at hb
    unfold frs at hb
    rw [List.filterMap_cons, hf] at hb
    exact hb
theorem Inv.stkFree (I : Inv X pins σ H s) : ∀ b ∈ frs X.stack, H b = none := fun b hb => by
  rcases List.mem_cons.mp (I.stkSub b hb) with e | hb
  · rw [e]; exact I.free
  · obtain ⟨_, o, ho, _⟩ := I.ok.funs.mem hb
    exact I.base.free b o ho (I.ok.frf b hb) fun z => I.ok.exfs b z hb
theorem Inv.step {g' : Array GenState} {t' : Nat} {d' : Drawn} {ch : List Addr} (I : Inv X pins σ H s)
    (hch : ∀ b ∈ ch, (b ∈ X.ex ∨ X.s₀.heap.objs.size ≤ b) ∧ b ≠ X.env.locals ∧ (∀ x c, X.env.cells.lookup x = some c → c ≠ b) ∧ ∀ p ∈ X.pn ++ pins, p.1 ≠ b)
    (keep : ∀ b o, b ≠ X.env.locals → b ∉ X.fs → b ∉ ch → s.heap.get? b = some o → H b = none → h'.get? b = some o)
    (slot : ∀ b o, b ≠ X.env.locals → b ∈ X.fs → b ∉ ch → s.heap.get? b = some o → H b = none → ∃ sl, h'.get? b = some { o with slots := sl }) (free : ∀ b o, b ∉ ch → s.heap.get? b = some o → H b = none → H' b = none)
    (there : ∀ b o, b ∉ ch → s.heap.get? b = some o → ∃ o', h'.get? b = some o')
    (tups : ∀ b xs, H b = some (.tup xs) → H' b = some (.tup xs)) (frzs : ∀ b o u, H b = some (.frz o u) → H' b = some (.frz o u)) (tbls : ∀ b ps, H b = some (.tbl ps) → ∃ more, H' b = some (.tbl (ps ++ more)))
    (ns : ∀ m, s.heap.Ns X.env.locals m → h'.Ns X.env.locals m) (hok : HOk X.prog X.w H' h') (hg : AllBare g') :
    Inv X pins σ H' { s with heap := h', gens := g', drawn := d', toks := t' } := by
  have neL : ∀ b o, X.s₀.heap.get? b = some o → b ≠ X.env.locals := fun b o e => Nat.ne_of_lt (Nat.lt_of_lt_of_le (Heap.lt_size e) I.ok.above)
  have neC : ∀ b o, X.s₀.heap.get? b = some o → b ∉ X.ex → b ∉ ch := fun b o e hx hb => by
    rcases (hch b hb).1 with z | z
    · exact hx z
    · exact absurd (Nat.lt_of_lt_of_le (Heap.lt_size e) z) (Nat.lt_irrefl _)
  have cellK : ∀ x c, X.env.cells.lookup x = some c → ∀ v, s.heap.IsCell c v → h'.IsCell c v := fun x c e v ⟨o, ho, hd⟩ => by
    have nch : c ∉ ch := fun z => (hch c z).2.2.1 x c e rfl
    by_cases hc : c ∈ X.fs
    · obtain ⟨sl, q⟩ := slot c o (I.cne x c e) hc nch ho (I.freeC x c e)
      exact ⟨_, q, hd⟩
    · exact ⟨o, keep c o (I.cne x c e) hc nch ho (I.freeC x c e), hd⟩
  refine ⟨I.ok, I.os, hg, ⟨fun b o e n hb hx => ?_, fun b o e n hb hx => ?_, fun b o e n hx => ?_, fun b o e hx => ?_, fun b xs e => tups b xs (I.base.tups b xs e), fun b o xs e => frzs b o xs (I.base.frzs b o xs e), fun b ps e => ?_⟩, ?_, fun x c e => ?_, ?_, fun x c e => ?_, fun p hp => ?_, hok, I.len⟩
  · exact keep b o (neL b o e) hb (neC b o e hx) (I.base.keep b o e n hb hx) (I.base.free b o e n hx)
  · obtain ⟨sl, e1⟩ := I.base.slot b o e n hb hx
    obtain ⟨sl', e2⟩ := slot b _ (neL b o e) hb (neC b o e hx) e1 (I.base.free b o e n hx)
    exact ⟨sl', e2⟩
  · obtain ⟨o', e1⟩ := I.base.there b o e hx
    exact free b o' (neC b o e hx) e1 (I.base.free b o e n hx)
  · obtain ⟨o', e1⟩ := I.base.there b o e hx
    exact there b o' (neC b o e hx) e1
  · obtain ⟨m1, e1⟩ := I.base.tbls b ps e
    obtain ⟨m2, e2⟩ := tbls b _ e1
    exact ⟨m1 ++ m2, by rw [e2, Array.append_assoc]⟩
  · obtain ⟨m, hn, hl⟩ := I.loc
    refine ⟨m, ns m hn, fun i x v e1 e2 e3 => ?_⟩
    obtain ⟨u, r, l⟩ := hl i x v e1 e2 e3
    refine ⟨u, r, ?_⟩
    rcases l with l | ⟨k, c, e, z⟩
    · exact .inl l
    · exact .inr ⟨k, c, e, cellK x c e _ z⟩
  · obtain ⟨v, z⟩ := I.cell x c e
    exact ⟨v, cellK x c e v z⟩
  · obtain ⟨m, ⟨o, _, _, ho, _⟩, _⟩ := I.loc
    exact free _ o (fun z => (hch _ z).2.1 rfl) ho I.free
  · obtain ⟨v, o, ho, hd⟩ := I.cell x c e
    exact free c o (fun z => (hch c z).2.2.1 x c e rfl) ho (I.freeC x c e)
  · obtain ⟨e, n, ne, nf, d⟩ := I.pin p hp
    have nch : p.1 ∉ ch := fun z => (hch p.1 z).2.2.2 p hp rfl
    exact ⟨keep p.1 p.2 ne nf nch e n, free p.1 p.2 nch e n, ne, nf, d⟩
theorem Inv.un {t' : Nat} (I : Inv X pins σ H s) (u : Un X.fs [] H H' s.heap h') (hok : HOk X.prog X.w H' h') : Inv X pins σ H' { s with heap := h', toks := t' } := by
  obtain ⟨m, ⟨o, es, ep, ho, r⟩, _⟩ := id I.loc
  obtain ⟨sl, hL⟩ := u.any ho I.free (by simp)
  exact I.step (g' := s.gens) (d' := s.drawn) (ch := []) (fun _ z => nomatch z) (fun b o _ hb _ e n => u.keep b o e n hb (by simp)) (fun b o _ hb _ e n => u.slot b o e n hb (by simp)) (fun b o _ e n => u.free b o e n (by simp)) (fun b o _ e => u.there b o e (by simp)) u.tups u.frzs u.tbls (fun m' hm => by
    obtain ⟨o', es', ep', ho', r'⟩ := hm
    rw [ho] at ho'; cases ho'
    exact ⟨_, es', ep', hL, r'⟩) hok I.bare
theorem Inv.call {g' : Array GenState} {t' : Nat} {d' : Drawn} {ch : List Addr} (I : Inv X pins σ H s) (u : Un (frs X.stack) ch H H' s.heap h') (hok : HOk X.prog X.w H' h') (hg : AllBare g')
    (hch : ∀ b ∈ ch, (b ∈ X.ex ∨ X.s₀.heap.objs.size ≤ b) ∧ b ≠ X.env.locals ∧ (∀ x c, X.env.cells.lookup x = some c → c ≠ b) ∧ ∀ p ∈ X.pn ++ pins, p.1 ≠ b) :
    Inv X pins σ H' { s with heap := h', gens := g', drawn := d', toks := t' } := by
  obtain ⟨m, ⟨o, es, ep, ho, r⟩, _⟩ := id I.loc
  obtain ⟨sl, hL⟩ := u.any ho I.free fun z => (hch _ z).2.1 rfl
  exact I.step (ch := ch) hch (fun b o hL hb hc e n => u.keep b o e n (fun z => (List.mem_cons.mp (I.stkSub b z)).elim hL hb) hc) (fun b o _ _ hc e n => u.any e n hc) (fun b o hc e n => u.free b o e n hc) (fun b o hc e => u.there b o e hc) u.tups u.frzs u.tbls (fun m' hm => by
    obtain ⟨o', es', ep', ho', r'⟩ := hm
    rw [ho] at ho'; cases ho'
    exact ⟨_, es', ep', hL, r'⟩) hok hg
theorem Inv.turned {t' : Nat} {it : Addr} (I : Inv X pins σ H s) (k : ∀ b o, b ≠ it → s.heap.get? b = some o → h'.get? b = some o) (hn : H it = none) (hL : it ≠ X.env.locals)
    (h1 : it ∈ X.ex ∨ X.s₀.heap.objs.size ≤ it) (h2 : ∀ x c, X.env.cells.lookup x = some c → c ≠ it) (h3 : ∀ p ∈ X.pn ++ pins, p.1 ≠ it) : Inv X pins σ H { s with heap := h', toks := t' } := by
  have nit : ∀ b u, H b = some u → b ≠ it := fun b u e z => by rw [z, hn] at e; cases e
  refine I.step (g' := s.gens) (d' := s.drawn) (ch := [it]) (fun b hb => ?_) (fun b o _ _ hc e _ => k b o (fun z => hc (by simp [z])) e) (fun b o _ _ hc e _ => ⟨o.slots, k b o (fun z => hc (by simp [z])) e⟩) (fun _ _ _ _ n => n)
    (fun b o hc e => ⟨o, k b o (fun z => hc (by simp [z])) e⟩) (fun _ _ e => e) (fun _ _ _ e => e) (fun b ps e => ⟨#[], by rw [e]; simp⟩) (fun m hm => ?_) (fun b u e => ?_) I.bare
  · have e : b = it := by simpa using hb
    subst e
    exact ⟨h1, hL, h2, h3⟩
  · obtain ⟨o, es, ep, ho, r⟩ := hm
    exact ⟨o, es, ep, k _ o (Ne.symm hL) ho, r⟩
  · refine (I.hok b u e).stay (fun c v hc q => k c v ?_ q) (fun _ q => q) fun _ _ q => q
    rcases hc with z | z
    · rw [z]; exact nit b u e
    · exact nit c _ z
theorem Inv.tok (I : Inv X pins σ H s) (t : Nat) : Inv X pins σ H { s with toks := t } := I.un (h' := s.heap) (t' := t) Un.refl I.hok
theorem Inv.kept {t' : Nat} (I : Inv X pins σ H s) (k : ∀ b u, s.heap.get? b = some u → h'.get? b = some u) : Inv X pins σ H { s with heap := h', toks := t' } := I.un (Un.kept k) (I.hok.kept k)
theorem Inv.laid {a : Addr} {o : HO} {t' : Nat} (I : Inv X pins σ H s) (k : ∀ b u, s.heap.get? b = some u → h'.get? b = some u) (hp : s.heap.objs.size ≤ a) (new : ObjOk X.prog X.w (upd H a o) h' a o) :
    Inv X pins σ (upd H a o) { s with heap := h', toks := t' } := I.un (Un.laid k hp (I.hok.fresh hp)) (I.hok.laid k hp new)
theorem Inv.write {x e : Addr} {o : HO} {t' : Nat} (I : Inv X pins σ H s) (mu : Mut (H x)) (he : e = x ∨ H e = some (.own x)) (k : ∀ b u, b ≠ e → s.heap.get? b = some u → h'.get? b = some u) (heo : ∃ u, h'.get? e = some u)
    (new : ObjOk X.prog X.w (upd H x o) h' x o) : Inv X pins σ (upd H x o) { s with heap := h', toks := t' } := I.un (Un.write mu he k heo) (I.hok.write mu he k heo new)
theorem Inv.pins_of {pins' : List (Addr × Obj)} (I : Inv X pins σ H s) (h : ∀ p ∈ pins', s.heap.get? p.1 = some p.2 ∧ H p.1 = none ∧ p.1 ≠ X.env.locals ∧ p.1 ∉ X.fs ∧ ∀ v, p.2.data ≠ .cell v) : Inv X pins' σ H s :=
  ⟨I.ok, I.os, I.bare, I.base, I.loc, I.cell, I.free, I.freeC, fun p hp => (List.mem_append.mp hp).elim (fun z => I.pin p (List.mem_append_left _ z)) (h p), I.hok, I.len⟩
theorem nodup_ix {N : List Str} (hN : N.Nodup) {i j : Nat} {x : Str} (a : N[i]? = some x) (b : N[j]? = some x) : i = j := by
  obtain ⟨h1, e1⟩ := List.getElem?_eq_some_iff.mp a
  obtain ⟨h2, e2⟩ := List.getElem?_eq_some_iff.mp b
  exact (List.getElem_inj hN).mp (e1.trans e2.symm)
theorem store_ok2 {M : Model} {A : Around} {E : Value → Shared → Prop} {i : Nat} {x : Str} {v : V} {u : Value} {Q : Unit → Shared → Prop} (I : Inv X pins σ H s) (hN : X.N.Nodup) (hi : X.N[i]? = some x) (hx : Loc X.env.scope x) (r : RelV v u)
    (h : ∀ s', Inv X pins (σ.set i (some v)) H s' → (∃ a, Heap.SameBut a s.heap s'.heap ∧ (a = X.env.locals ∨ X.env.cells.lookup x = some a)) → Q () s') (hf : X.fn x = true ∨ X.env.scope.names.lookup x = some .local := by first | exact .inl rfl | exact .inr rfl | assumption) : wpAny M A (storeName X.env x u) Q E s := by
  obtain ⟨m, hn, hl⟩ := id I.loc
  have hcls : (X.env.scope.kind == .class || (X.env.scope.kind == .module && X.env.locals != X.env.globals)) = false := by rw [I.ok.kind]; rfl
  have hiσ : i < σ.length := by rw [I.len]; exact (List.getElem?_eq_some_iff.mp hi).1
  have cne := I.cne
  have tracked : ∀ {a : Addr} {h' : Heap}, (∃ o, s.heap.get? a = some o ∧ H a = none) → Heap.SameBut a s.heap h' → HOk X.prog X.w H h' := fun {a h'} ha hs b ob e => by
    obtain ⟨_, _, hfree⟩ := ha
    refine (I.hok b ob e).stay (fun c w' hc q => (hs.2 c ?_).trans q) (fun _ q => q) fun _ _ q => q
    rintro rfl
    rcases hc with rfl | hc
    · rw [hfree] at e; cases e
    · rw [hfree] at hc; cases hc
  rcases hx with hk | hk
  · refine wpAny_storeName_local hk hn (fun h' hn' hs => ?_) hcls
    obtain ⟨oL, _, _, hoL, _⟩ := id hn
    refine h _ ⟨I.ok, I.os, I.bare, ⟨fun b o e n hb hx => ?_, fun b o e n hb hx => ?_, I.base.free, fun b o e hx => ?_, I.base.tups, I.base.frzs, I.base.tbls⟩, ⟨_, hn', fun j y v' e1 e2 e3 => ?_⟩, fun y c e => ?_, I.free, I.freeC, fun p hp => ?_, tracked ⟨oL, hoL, I.free⟩ hs, by simpa using I.len⟩ ⟨_, hs, .inl rfl⟩
    · exact (hs.2 b (Nat.ne_of_lt (Nat.lt_of_lt_of_le (Heap.lt_size e) I.ok.above))).trans (I.base.keep b o e n hb hx)
    · obtain ⟨sl, e1⟩ := I.base.slot b o e n hb hx
      exact ⟨sl, (hs.2 b (Nat.ne_of_lt (Nat.lt_of_lt_of_le (Heap.lt_size e) I.ok.above))).trans e1⟩
    · obtain ⟨o', e1⟩ := I.base.there b o e hx
      exact ⟨o', (hs.2 b (Nat.ne_of_lt (Nat.lt_of_lt_of_le (Heap.lt_size e) I.ok.above))).trans e1⟩
    · by_cases hj : j = i
      · subst hj
        rw [hi] at e1; cases e1
        rw [List.getElem?_set_self hiσ] at e2
        cases e2
        exact ⟨u, r, .inl ⟨hk, by simp⟩⟩
      · rw [List.getElem?_set_ne (Ne.symm hj)] at e2
        obtain ⟨u', r', q⟩ := hl j y v' e1 e2 e3
        refine ⟨u', r', ?_⟩
        rcases q with ⟨k, e⟩ | ⟨k, c, e, z⟩
        · refine .inl ⟨k, ?_⟩
          have : y ≠ x := fun e => hj (nodup_ix hN e1 (e ▸ hi))
          simp [this, e]
        · exact .inr ⟨k, c, e, z.sameBut hs (cne y c e)⟩
    · obtain ⟨w', z⟩ := I.cell y c e
      exact ⟨w', z.sameBut hs (cne y c e)⟩
    · obtain ⟨e, n, ne, nf, d⟩ := I.pin p hp
      exact ⟨(hs.2 p.1 ne).trans e, n, ne, nf, d⟩
  · have hfn : X.fn x = true := by
      rcases hf with z | z
      · exact z
      · rw [z] at hk; cases hk
    obtain ⟨c, hc⟩ := I.ok.has x (.inl hk)
    obtain ⟨w', z⟩ := I.cell x c hc
    refine wpAny_storeName_cell I.ok.kind hk hc z (fun h' hc' hs => ?_)
    obtain ⟨oc, hoc, hocd⟩ := id z
    refine h { s with heap := h' } ⟨I.ok, I.os, I.bare, ⟨fun b o e n hb hx => ?_, fun b o e n hb hx => ?_, I.base.free, fun b o e hx => ?_, I.base.tups, I.base.frzs, I.base.tbls⟩, ⟨m, hn.sameBut hs (Ne.symm (cne x c hc)), fun j y v' e1 e2 e3 => ?_⟩, fun y c' e => ?_, I.free, I.freeC, fun p hp => ?_, tracked ⟨oc, hoc, I.freeC x c hc⟩ hs, by simpa using I.len⟩ ⟨c, hs, .inr hc⟩
    · exact (hs.2 b (Nat.ne_of_lt (Nat.lt_of_lt_of_le (Heap.lt_size e) (I.ok.cab x c hfn hc)))).trans (I.base.keep b o e n hb hx)
    · obtain ⟨sl, e1⟩ := I.base.slot b o e n hb hx
      exact ⟨sl, (hs.2 b (Nat.ne_of_lt (Nat.lt_of_lt_of_le (Heap.lt_size e) (I.ok.cab x c hfn hc)))).trans e1⟩
    · obtain ⟨o', e1⟩ := I.base.there b o e hx
      exact ⟨o', (hs.2 b (Nat.ne_of_lt (Nat.lt_of_lt_of_le (Heap.lt_size e) (I.ok.cab x c hfn hc)))).trans e1⟩
    · by_cases hj : j = i
      · subst hj
        rw [hi] at e1; cases e1
        rw [List.getElem?_set_self hiσ] at e2
        cases e2
        exact ⟨u, r, .inr ⟨.inl hk, c, hc, hc'⟩⟩
      · rw [List.getElem?_set_ne (Ne.symm hj)] at e2
        obtain ⟨u', r', q⟩ := hl j y v' e1 e2 e3
        refine ⟨u', r', ?_⟩
        rcases q with q | ⟨k, c', e, z'⟩
        · exact .inl q
        · refine .inr ⟨k, c', e, z'.sameBut hs ?_⟩
          rintro rfl
          exact hj (nodup_ix hN e1 (I.ok.inj _ _ _ e hc ▸ hi))
    · by_cases hcc : c' = c
      · subst hcc; exact ⟨_, hc'⟩
      · obtain ⟨w2, z2⟩ := I.cell y c' e
        exact ⟨w2, z2.sameBut hs hcc⟩
    · obtain ⟨e, n, ne, nf, d⟩ := I.pin p hp
      refine ⟨(hs.2 p.1 ?_).trans e, n, ne, nf, d⟩
      intro q
      rw [q, hoc] at e
      have q' : oc = p.2 := Option.some.inj e
      exact d w' (by rw [← q']; exact hocd)
theorem store_ok {M : Model} {A : Around} {E : Value → Shared → Prop} {i : Nat} {x : Str} {v : V} {u : Value} {Q : Unit → Shared → Prop} (I : Inv X pins σ H s) (hN : X.N.Nodup) (hi : X.N[i]? = some x) (hx : Loc X.env.scope x) (r : RelV v u)
    (h : ∀ s', Inv X pins (σ.set i (some v)) H s' → Q () s') (hf : X.fn x = true ∨ X.env.scope.names.lookup x = some .local := by first | exact .inl rfl | exact .inr rfl | assumption) : wpAny M A (storeName X.env x u) Q E s :=
  store_ok2 I hN hi hx r (fun s' I' _ => h s' I') hf
theorem Inv.call' {s' : Shared} {ch : List Addr} (I : Inv X pins σ H s) (ho : s'.os = s.os) (u : Un (frs X.stack) ch H H' s.heap s'.heap) (hok : HOk X.prog X.w H' s'.heap) (hg : AllBare s'.gens)
    (hch : ∀ b ∈ ch, (b ∈ X.ex ∨ X.s₀.heap.objs.size ≤ b) ∧ b ≠ X.env.locals ∧ (∀ x c, X.env.cells.lookup x = some c → c ≠ b) ∧ ∀ p ∈ X.pn ++ pins, p.1 ≠ b) : Inv X pins σ H' s' := by
  obtain ⟨h', g', d', t', o'⟩ := s'
  have e : o' = s.os := ho
  subst e
  exact I.call (g' := g') (t' := t') (d' := d') u hok hg hch
end
abbrev XK := Value → Option Addr → Hp → Prop
abbrev St := List (Option V)
abbrev VK := V → Hp → Prop
abbrev TE := St → Hp → VK → Prop
abbrev TT := St → Hp → (Bool → Hp → Prop) → Prop
abbrev TA := St → Hp → (List V → Hp → Prop) → Prop
structure Ends where
  nx : St → Hp → Prop
  rt : VK
  bk : St → Hp → Prop := fun _ _ => False
  ct : St → Hp → Prop := fun _ _ => False
abbrev TS := Ends → St → Hp → Prop
def EP (X : Cx) (pins : List (Addr × Obj)) (σ : St) (Q : VK) (u : Value) (s' : Shared) : Prop := ∃ v H', Inv X pins σ H' s' ∧ RelV v u ∧ Q v H'
def TP (X : Cx) (pins : List (Addr × Obj)) (σ : St) (Q : Bool → Hp → Prop) (b : Bool) (s' : Shared) : Prop := ∃ H', Inv X pins σ H' s' ∧ Q b H'
def AP (X : Cx) (pins : List (Addr × Obj)) (σ : St) (Q : List V → Hp → Prop) (us : List Value) (s' : Shared) : Prop := ∃ vs H', Inv X pins σ H' s' ∧ Vals vs us ∧ Q vs H'
def SP (X : Cx) (pins : List (Addr × Obj)) (D : Ends) (f : Flow) (s' : Shared) : Prop :=
  match f with
  | .next => ∃ σ' H', Inv X pins σ' H' s' ∧ D.nx σ' H'
  | .brk => ∃ σ' H', Inv X pins σ' H' s' ∧ D.bk σ' H'
  | .cont => ∃ σ' H', Inv X pins σ' H' s' ∧ D.ct σ' H'
  | .ret u => ∃ v σ' H', Inv X pins σ' H' s' ∧ RelV v u ∧ D.rt v H'
def PE (X : Cx) (e : Expr) (t : TE) : Prop :=
  ∀ (pins : List (Addr × Obj)) (s : Shared) (σ : St) (H : Hp) (Q : VK), Inv X pins σ H s → t σ H Q → wpAny (model X.prog X.w) X.A (eval e X.env) (EP X pins σ Q) X.xe s
def PT (X : Cx) (e : Expr) (t : TT) : Prop :=
  ∀ (pins : List (Addr × Obj)) (s : Shared) (σ : St) (H : Hp) (Q : Bool → Hp → Prop), Inv X pins σ H s → t σ H Q → wpAny (model X.prog X.w) X.A (isTrue e X.env (eval e X.env)) (TP X pins σ Q) X.xe s
def PW (X : Cx) (e : Expr) (t : TT) : Prop :=
  ∀ (whole : Sem Value) (pins : List (Addr × Obj)) (s : Shared) (σ : St) (H : Hp) (Q : Bool → Hp → Prop), Inv X pins σ H s → t σ H Q → wpAny (model X.prog X.w) X.A (isTrue e X.env whole) (TP X pins σ Q) X.xe s
theorem PW.pt {X : Cx} {e : Expr} {t : TT} (h : PW X e t) : PT X e t := h _
def PA (X : Cx) (es : List Expr) (t : TA) : Prop :=
  ∀ (pos : Pos) (pins : List (Addr × Obj)) (s : Shared) (σ : St) (H : Hp) (Q : List V → Hp → Prop), Inv X pins σ H s → t σ H Q → wpAny (model X.prog X.w) X.A (spliced (backTo pos (starEach es X.env))) (AP X pins σ Q) X.xe s
def PS (X : Cx) (st : Stmt) (t : TS) : Prop :=
  ∀ (pins : List (Addr × Obj)) (s : Shared) (σ : St) (H : Hp) (D : Ends), Inv X pins σ H s → t D σ H → wpAny (model X.prog X.w) X.A (exec st X.env) (SP X pins D) X.xe s
def PSs (X : Cx) (st : List Stmt) (t : TS) : Prop :=
  ∀ (pins : List (Addr × Obj)) (s : Shared) (σ : St) (H : Hp) (D : Ends), Inv X pins σ H s → t D σ H → wpAny (model X.prog X.w) X.A (execs st X.env) (SP X pins D) X.xe s
theorem thn {α : Type} {t : Sem α} {Q Q' : α → Shared → Prop} {M : Model} {A : Around} {E : Value → Shared → Prop} {s : Shared} (h : wpAny M A t Q E s) (hQ : ∀ a s, Q a s → Q' a s) : wpAny M A t Q' E s := wpAny_mono h hQ fun _ _ x => x
end L2
namespace L2
open PySem PySem.Spec PyProof.Rows
section
variable {X : Cx}
def tVar (i : Nat) : TE := fun σ H Q => ∃ v, σ[i]? = some (some v) ∧ Q v H
def tC (v : V) : TE := fun _ H Q => Q v H
theorem pe_var {i : Nat} {x : Str} {pos : Pos} (hN : X.N[i]? = some x) (hv : Vis X.env.scope x) (hd : (x == ("__debug__" : Str)) = false := by decide) (hcd : (x == ("__classdict__" : Str)) = false := by decide) : PE X (.Name x pos) (tVar i) := by
  intro pins s σ H Q I h
  obtain ⟨v, e, h⟩ := h
  obtain ⟨m, hn, hl⟩ := I.loc
  obtain ⟨u, r, l⟩ := hl i x v hN e hv
  have fin : EP X pins σ Q u s := ⟨v, H, I, r, h⟩
  rcases l with ⟨hk, hm⟩ | ⟨hk, c, hc, hcell⟩
  · exact wpAny_Name (wpAny_loadName_local I.ok.kind hk hn hm fin) hd
  · rcases hk with hk | hk
    · exact wpAny_Name (wpAny_loadName_cell I.ok.kind hk hc hcell fin) hd
    · exact wpAny_Name (wpAny_loadName_free I.ok.kind hk hc hcell fin hcd) hd
theorem pe_int {i j pos} : PE X (.Constant (.int i) j pos) (tC (.int i)) := fun _ _ _ H _ I h => wpAny_Constant_int ⟨.int i, H, I.tok _, ⟨_, rfl⟩, h⟩
theorem pe_bl {b j pos} : PE X (.Constant (.bool b) j pos) (tC (.bl b)) := fun _ _ _ H _ I h => Constant_bool ⟨.bl b, H, I, rfl, h⟩
theorem pe_non {j pos} : PE X (.Constant .none j pos) (tC .non) := fun _ _ _ H _ I h => Constant_none ⟨.non, H, I, rfl, h⟩
theorem pe_str {x j pos} : PE X (.Constant (.str x) j pos) (tC (.str x)) := fun _ _ _ H _ I h => Calls.Constant_str ⟨.str x, H, I.tok _, ⟨_, rfl⟩, h⟩
def Gl (X : Cx) (x : Str) : Prop := X.env.kindOf x = some .globalImplicit
theorem ld_glob {E : Value → Shared → Prop} {pins : List (Addr × Obj)} {s : Shared} {σ : St} {H : Hp} {x : Str} {u : Value} {pos : Pos} {Q : Value → Shared → Prop} (I : Inv X pins σ H s) (hg : Gl X x) (hm : X.mg x = some u) (h : Q u s)
    (hd : (x == ("__debug__" : Str)) = false := by decide) : wpAny (model X.prog X.w) X.A (eval (.Name x pos) X.env) Q E s :=
  Calls.Name_function_global I.ok.kind hg (Calls.loadGlobal_global (by rw [I.ok.glob]; exact I.mod.glob.keeps I.bk) hm h) hd
theorem ld_blt {E : Value → Shared → Prop} {pins : List (Addr × Obj)} {s : Shared} {σ : St} {H : Hp} {x : Str} {u : Value} {pos : Pos} {Q : Value → Shared → Prop} (I : Inv X pins σ H s) (hg : Gl X x) (hm : X.mg x = none) (hv : bootBuiltins x = some u) (h : Q u s)
    (hn : x ≠ "__name__" := by decide) (hd : (x == ("__debug__" : Str)) = false := by decide) : wpAny (model X.prog X.w) X.A (eval (.Name x pos) X.env) Q E s := by
  obtain ⟨mb, h1, h2⟩ := I.mod.blt
  exact Calls.Name_function_global I.ok.kind hg (Calls.loadGlobal_builtin (by rw [I.ok.glob]; exact I.mod.glob.keeps I.bk) hm (by rw [I.ok.blt]; exact h1.keeps I.bk) ((h2 x hn).trans hv) h) hd
theorem pe_glob {x : Str} {v : V} {u : Value} {pos : Pos} (hg : Gl X x) (hm : X.mg x = some u) (r : RelV v u) (hd : (x == ("__debug__" : Str)) = false := by decide) : PE X (.Name x pos) (tC v) :=
  fun _ _ _ H _ I h => ld_glob I hg hm ⟨v, H, I, r, h⟩ hd
theorem pe_bltn {x : Str} {v : V} {u : Value} {pos : Pos} (hg : Gl X x) (hm : X.mg x = none) (hv : bootBuiltins x = some u) (r : RelV v u) (hn : x ≠ "__name__" := by decide) (hd : (x == ("__debug__" : Str)) = false := by decide) : PE X (.Name x pos) (tC v) :=
  fun _ _ _ H _ I h => ld_blt I hg hm hv ⟨v, H, I, r, h⟩ hn hd
variable {a b : Expr} {ta tb : TE} {pos : Pos}
def PC (X : Cx) (op : CmpOp) (a b : Expr) (t : TE) : Prop :=
  ∀ (pins : List (Addr × Obj)) (s : Shared) (σ : St) (H : Hp) (Q : VK), Inv X pins σ H s → t σ H Q →
    wpAny (model X.prog X.w) X.A (eval a X.env) (fun v s₁ => wpAny (model X.prog X.w) X.A (eval b X.env) (fun u s₂ => wpAny (model X.prog X.w) X.A (compareOp op v u) (EP X pins σ Q) X.xe s₂) X.xe s₁) X.xe s
theorem nobehind (b : Expr) {op : CmpOp} (h : op ≠ .In) (h2 : op ≠ .NotIn) : behindInMarks op b = false := by
  have e1 : (op == CmpOp.In) = false := by cases op <;> first | rfl | exact absurd rfl h
  have e2 : (op == CmpOp.NotIn) = false := by cases op <;> first | rfl | exact absurd rfl h2
  cases b <;> simp [behindInMarks, e1, e2]
def tB (t : TE) : TT := fun σ H Q => t σ H fun x H1 => ∃ c, x = .bl c ∧ Q c H1
theorem pe_cmp {op : CmpOp} {t : TE} (h : PC X op a b t) (h1 : behindInMarks op b = false := by first | exact nobehind _ (by decide) (by decide) | rfl) : PE X (.Compare a [op] [b] pos) t := fun pins s σ H Q I hw => wpAny_Compare1 (h pins s σ H Q I hw) h1
theorem pt_cmp {op : CmpOp} {t : TE} (h : PC X op a b t) (h1 : behindInMarks op b = false := by first | exact nobehind _ (by decide) (by decide) | rfl) : PT X (.Compare a [op] [b] pos) (tB t) := by
  intro pins s σ H Q I hw
  refine wpAny_isTrue_Compare1 (thn (h pins s σ H _ I hw) fun v s1 h1 => thn h1 fun u s2 h2 => thn h2 fun c s3 ⟨x, H1, I1, r1, q1⟩ => ?_) h1
  obtain ⟨d, rfl, q⟩ := q1
  cases r1
  exact wpAny_truthy_bool ⟨H1, I1, q⟩
theorem pt_val {e : Expr} {t : TE} (h : PE X e t) (he : ∀ whole, isTrue e X.env whole = (do let v ← whole; standAt e.pos; holding [v] (truthy v)) := by intro _; rfl) : PT X e (tB t) := by
  intro pins s σ H Q I hw
  refine isTrue_plain (thn (h pins s σ H _ I hw) fun v s1 ⟨x, H1, I1, r1, q1⟩ => ?_) (he _)
  obtain ⟨d, rfl, q⟩ := q1
  cases r1
  exact wpAny_truthy_bool ⟨H1, I1, q⟩
variable {tA tB' : TT} {rest : List Expr}
def tAnd (t u : TT) : TT := fun σ H Q => t σ H fun c H1 => if c = true then u σ H1 Q else Q false H1
def tOr (t u : TT) : TT := fun σ H Q => t σ H fun c H1 => if c = true then Q true H1 else u σ H1 Q
def tNot (t : TT) : TT := fun σ H Q => t σ H fun c H1 => Q (!c) H1
theorem pw_and1 (ha : PT X a tA) : PW X (.BoolOp .And [a] pos) tA := by
  intro wh pins s σ H Q I h
  refine isTrue_and (thn (ha pins s σ H Q I h) fun c s1 e => ?_)
  cases c with
  | true => exact isTrue_and_nil e
  | false => exact e
theorem pw_or1 (ha : PT X a tA) : PW X (.BoolOp .Or [a] pos) tA := by
  intro wh pins s σ H Q I h
  refine isTrue_or (thn (ha pins s σ H Q I h) fun c s1 e => ?_)
  cases c with
  | false => exact isTrue_or_nil e
  | true => exact e
theorem pw_and (ha : PT X a tA) (hb : PW X (.BoolOp .And (b :: rest) pos) tB') : PW X (.BoolOp .And (a :: b :: rest) pos) (tAnd tA tB') := by
  intro wh pins s σ H Q I h
  refine isTrue_and (thn (ha pins s σ H _ I h) fun c s1 ⟨H1, I1, q1⟩ => ?_)
  cases c with
  | true => exact hb wh pins s1 σ H1 Q I1 q1
  | false => exact ⟨H1, I1, q1⟩
theorem pw_or (ha : PT X a tA) (hb : PW X (.BoolOp .Or (b :: rest) pos) tB') : PW X (.BoolOp .Or (a :: b :: rest) pos) (tOr tA tB') := by
  intro wh pins s σ H Q I h
  refine isTrue_or (thn (ha pins s σ H _ I h) fun c s1 ⟨H1, I1, q1⟩ => ?_)
  cases c with
  | true => exact ⟨H1, I1, q1⟩
  | false => exact hb wh pins s1 σ H1 Q I1 q1
theorem pt_not (ha : PT X a tA) : PT X (.UnaryOp .Not a pos) (tNot tA) := by
  intro pins s σ H Q I h
  exact isTrue_not (ha pins s σ H (fun c H1 => Q (!c) H1) I h)
def tAndV (ta tb : TE) : TE := fun σ H Q => ta σ H fun x H1 => ∃ c, x = .bl c ∧ if c = true then tb σ H1 Q else Q (.bl false) H1
def tOrV (ta tb : TE) : TE := fun σ H Q => ta σ H fun x H1 => ∃ c, x = .bl c ∧ if c = true then Q (.bl true) H1 else tb σ H1 Q
def tNotV (ta : TE) : TE := fun σ H Q => ta σ H fun x H1 => ∃ c, x = .bl c ∧ Q (.bl (!c)) H1
theorem pe_one {op} {t : TE} (h : PE X a t) : PE X (.BoolOp op [a] pos) t := fun pins s σ H Q I hw => BoolOp_one (h pins s σ H Q I hw)
theorem pe_and (ha : PE X a ta) (hb : PE X (.BoolOp .And (b :: rest) pos) tb) : PE X (.BoolOp .And (a :: b :: rest) pos) (tAndV ta tb) := by
  intro pins s σ H Q I h
  refine BoolOp_and (thn (ha pins s σ H _ I h) fun v s1 ⟨x, H1, I1, r1, q1⟩ => ?_)
  obtain ⟨c, rfl, q1⟩ := q1
  cases r1
  refine wpAny_truthy_bool ?_
  cases c with
  | true => exact hb pins s1 σ H1 Q I1 q1
  | false => exact ⟨.bl false, H1, I1, rfl, q1⟩
theorem pe_or (ha : PE X a ta) (hb : PE X (.BoolOp .Or (b :: rest) pos) tb) : PE X (.BoolOp .Or (a :: b :: rest) pos) (tOrV ta tb) := by
  intro pins s σ H Q I h
  refine BoolOp_or (thn (ha pins s σ H _ I h) fun v s1 ⟨x, H1, I1, r1, q1⟩ => ?_)
  obtain ⟨c, rfl, q1⟩ := q1
  cases r1
  refine wpAny_truthy_bool ?_
  cases c with
  | false => exact hb pins s1 σ H1 Q I1 q1
  | true => exact ⟨.bl true, H1, I1, rfl, q1⟩
theorem pe_not (ha : PE X a ta) : PE X (.UnaryOp .Not a pos) (tNotV ta) := by
  intro pins s σ H Q I h
  refine UnaryOp_ (thn (ha pins s σ H _ I h) fun v s1 ⟨x, H1, I1, r1, q1⟩ => ?_)
  obtain ⟨c, rfl, q1⟩ := q1
  cases r1
  exact not_of (wpAny_truthy_bool ⟨.bl (!c), H1, I1, rfl, q1⟩)
end
end L2
namespace L2
open PySem PySem.Spec PyProof.Rows
def SqL (K : PySem.W.Frag) (H : Hp) (a : Addr) (xs : List V) : Prop :=
  Rd H a (.lst xs) ∨
    ∃ (o : Obj) (its : Array Value) (n : Nat), K.lookup a = some o ∧ o.cls = .type "list" ∧ o.dict = none ∧ o.data = .seq its n ∧ its.size ≤ sizeLine ∧ Vals xs its.toList
def SqT (K : PySem.W.Frag) (H : Hp) (a : Addr) (xs : List V) : Prop :=
  Rd H a (.tup xs) ∨
    ∃ (o : Obj) (its : Array Value) (n : Nat), K.lookup a = some o ∧ o.cls = .type "tuple" ∧ o.data = .seq its n ∧ its.size ≤ sizeLine ∧ Vals xs its.toList
def absV : Value → Option V
  | .none => some .non
  | .bool b => some (.bl b)
  | .int i _ => some (.int i)
  | .str x _ => some (.str x)
  | .bytes b _ => some (.byt b)
  | .float b _ => some (.flt b)
  | .ref a => some (.ref a)
  | .type n => some (.ty n)
  | _ => none
theorem RelV.abs {x : V} {u : Value} (r : RelV x u) : absV u = some x := by
  cases x with
  | non => cases r; rfl
  | bl _ => cases r; rfl
  | int _ => obtain ⟨t, rfl⟩ := r; rfl
  | str _ => obtain ⟨t, rfl⟩ := r; rfl
  | byt _ => obtain ⟨t, rfl⟩ := r; rfl
  | flt _ => obtain ⟨t, rfl⟩ := r; rfl
  | ref _ => cases r; rfl
  | ty _ => cases r; rfl
theorem RelV.inj {x y : V} {u : Value} (r : RelV x u) (q : RelV y u) : x = y := Option.some.inj (r.abs.symm.trans q.abs)
theorem Vals.inj : ∀ {xs ys : List V} {us : List Value}, Vals xs us → Vals ys us → xs = ys
  | _, _, _, .nil, .nil => rfl
  | _, _, _, .cons r t, .cons r' t' => by rw [r.inj r', Vals.inj t t']
section
variable {X : Cx} {pins : List (Addr × Obj)} {σ : St} {H : Hp} {s : Shared} {a : Addr} {xs ys : List V}
theorem SqL.of {K : PySem.W.Frag} (h : H a = some (.lst xs)) : SqL K H a xs := .inl (.inl h)
theorem SqT.of {K : PySem.W.Frag} (h : H a = some (.tup xs)) : SqT K H a xs := .inl (.inl h)
theorem Inv.list (I : Inv X pins σ H s) (h : SqL X.K H a xs) : ∃ its : List Value, Vals xs its ∧ PlainL s.heap a its.toArray ∧ xs.length ≤ sizeLine := by
  rcases h with h | ⟨o, its, n, hk, hc, hd, hs, hz, r⟩
  · obtain ⟨z, its, n, r, e⟩ := h.ok I.hok
    exact ⟨its, r, ⟨_, n, e, rfl, rfl, rfl⟩, z⟩
  · refine ⟨its.toList, r, ⟨o, n, I.kIn a o hk, hc, hd, by simpa using hs⟩, ?_⟩
    have e := r.length
    simp only [Array.length_toList] at e
    omega
theorem Inv.tuple (I : Inv X pins σ H s) (h : SqT X.K H a xs) : ∃ its : List Value, Vals xs its ∧ IsTup s.heap a its.toArray ∧ xs.length ≤ sizeLine := by
  rcases h with h | ⟨o, its, n, hk, hc, hs, hz, r⟩
  · obtain ⟨z, its, r, p⟩ := h.ok I.hok
    exact ⟨its, r, p, z⟩
  · refine ⟨its.toList, r, ⟨o, I.kIn a o hk, hc, n, by simpa using hs⟩, ?_⟩
    have e := r.length
    simp only [Array.length_toList] at e
    omega
theorem Inv.list_inj (I : Inv X pins σ H s) (h : SqL X.K H a xs) (h' : SqL X.K H a ys) : xs = ys := by
  obtain ⟨its, r, ⟨o, n, e, _, _, d⟩, _⟩ := I.list h
  obtain ⟨its', r', ⟨o', n', e', _, _, d'⟩, _⟩ := I.list h'
  rw [e] at e'; cases e'
  rw [d] at d'
  injection d' with d1 _
  have : its = its' := by simpa using congrArg Array.toList d1
  subst this
  exact r.inj r'
theorem Inv.tuple_inj (I : Inv X pins σ H s) (h : SqT X.K H a xs) (h' : SqT X.K H a ys) : xs = ys := by
  obtain ⟨its, r, ⟨o, e, _, n, d⟩, _⟩ := I.tuple h
  obtain ⟨its', r', ⟨o', e', _, n', d'⟩, _⟩ := I.tuple h'
  rw [e] at e'; cases e'
  rw [d] at d'
  injection d' with d1 _
  have : its = its' := by simpa using congrArg Array.toList d1
  subst this
  exact r.inj r'
end
abbrev Cx.wish (X : Cx) (E : Value → Shared → Prop) : Cx := { X with xe := E }
abbrev Cx.nox (X : Cx) : Cx := X.wish fun _ _ => False
theorem Cx.Ok.wish {X : Cx} (ok : X.Ok) (E : Value → Shared → Prop) : (X.wish E).Ok :=
  ⟨ok.mod, ok.kind, ok.glob, ok.blt, ok.above, ok.inj, ok.has, ok.cab, ok.hd, ok.frames, ok.stk, ok.exf, ok.bs, ok.bsz, ok.noex, ok.exfs, ok.funs, ok.frf⟩
theorem Cx.Ok.unwish {X : Cx} {E : Value → Shared → Prop} (ok : (X.wish E).Ok) : X.Ok :=
  ⟨ok.mod, ok.kind, ok.glob, ok.blt, ok.above, ok.inj, ok.has, ok.cab, ok.hd, ok.frames, ok.stk, ok.exf, ok.bs, ok.bsz, ok.noex, ok.exfs, ok.funs, ok.frf⟩
section
variable {X : Cx} {pins : List (Addr × Obj)} {σ : St} {H : Hp} {s : Shared} {E : Value → Shared → Prop}
theorem Inv.wish (I : Inv X pins σ H s) (E : Value → Shared → Prop) : Inv (X.wish E) pins σ H s := ⟨I.ok.wish E, I.os, I.bare, I.base, I.loc, I.cell, I.free, I.freeC, I.pin, I.hok, I.len⟩
theorem Inv.unwish (I : Inv (X.wish E) pins σ H s) : Inv X pins σ H s := ⟨I.ok.unwish, I.os, I.bare, I.base, I.loc, I.cell, I.free, I.freeC, I.pin, I.hok, I.len⟩
theorem SP.unwish {D : Ends} {f : Flow} {s' : Shared} (h : SP (X.wish E) pins D f s') : SP X pins D f s' := by
  cases f with
  | next => obtain ⟨σ', H', I, q⟩ := h; exact ⟨σ', H', I.unwish, q⟩
  | brk => obtain ⟨σ', H', I, q⟩ := h; exact ⟨σ', H', I.unwish, q⟩
  | cont => obtain ⟨σ', H', I, q⟩ := h; exact ⟨σ', H', I.unwish, q⟩
  | ret u => obtain ⟨v, σ', H', I, r, q⟩ := h; exact ⟨v, σ', H', I.unwish, r, q⟩
theorem PE.nox {e : Expr} {t : TE} (h : PE X.nox e t) : PE X e t := fun pins s σ H Q I hw =>
  wpAny_mono (h pins s σ H Q (I.wish _) hw) (fun _ _ ⟨v, H', I', r, q⟩ => ⟨v, H', I'.unwish, r, q⟩) fun _ _ z => False.elim z
theorem PT.nox {e : Expr} {t : TT} (h : PT X.nox e t) : PT X e t := fun pins s σ H Q I hw =>
  wpAny_mono (h pins s σ H Q (I.wish _) hw) (fun _ _ ⟨H', I', q⟩ => ⟨H', I'.unwish, q⟩) fun _ _ z => False.elim z
theorem PSs.nox {st : List Stmt} {t : TS} (h : PSs X.nox st t) : PSs X st t := fun pins s σ H D I hw =>
  wpAny_mono (h pins s σ H D (I.wish _) hw) (fun _ _ q => q.unwish) fun _ _ z => False.elim z
end
section
variable {X : Cx} {st : Stmt} {rest : List Stmt} {t u : TS} {e : Expr} {te : TE} {pos : Pos}
def tNext : TS := fun D σ H => D.nx σ H
def tSeq (t u : TS) : TS := fun D σ H => t { D with nx := u D } σ H
theorem pss_nil : PSs X [] tNext := fun _ _ σ H _ I h => wpAny_execs_nil ⟨σ, H, I, h⟩
theorem pss_cons (h1 : PS X st t) (h2 : PSs X rest u) : PSs X (st :: rest) (tSeq t u) := by
  intro pins s σ H D I h
  refine wpAny_execs_cons (thn (h1 pins s σ H { D with nx := u D } I h) fun f s1 q => ?_)
  cases f with
  | next =>
    obtain ⟨σ', H', I', q⟩ := q
    exact h2 pins s1 σ' H' D I' q
  | ret v => exact q
  | brk => exact q
  | cont => exact q
theorem pss_one (h1 : PS X st t) : PSs X [st] t := by
  intro pins s σ H D I h
  refine wpAny_execs_cons (thn (h1 pins s σ H D I h) fun f s1 q => ?_)
  cases f with
  | next => exact wpAny_execs_nil q
  | ret v => exact q
  | brk => exact q
  | cont => exact q
theorem Inv.quiet {pins : List (Addr × Obj)} {σ : St} {H : Hp} {s : Shared} (I : Inv X pins σ H s) : interactive X.env = false := by simp [interactive, I.ok.kind]
def tDrop (te : TE) : TS := fun D σ H => te σ H fun _ H1 => D.nx σ H1
theorem ps_expr (he : PE X e te) (hs : swapsWith e none pos.line X.env = pure false := by rfl) : PS X (.Expr e pos) (tDrop te) := by
  intro pins s σ H D I h
  exact wpAny_Expr_any (thn (he pins s σ H _ I h) fun v s1 ⟨x, H1, I1, r1, q1⟩ => ⟨σ, H1, I1, q1⟩) I.quiet hs
def tRet (te : TE) : TS := fun D σ H => te σ H D.rt
theorem ps_ret (he : PE X e te) : PS X (.Return (some e) pos) (tRet te) := by
  intro pins s σ H D I h
  exact wpAny_Return_some (thn (he pins s σ H _ I h) fun v s1 ⟨x, H1, I1, r1, q1⟩ => ⟨x, σ, H1, I1, r1, q1⟩)
def tIfS (c : TT) (t u : TS) : TS := fun D σ H => c σ H fun b H1 => if b = true then t D σ H1 else u D σ H1
theorem ps_if {c : Expr} {a b : List Stmt} {tc : TT} (hc : PT X c tc) (ha : PSs X a t) (hb : PSs X b u) : PS X (.If c a b pos) (tIfS tc t u) := by
  intro pins s σ H D I h
  refine wpAny_If (thn (hc pins s σ H _ I h) fun d s1 ⟨H1, I1, q1⟩ => ?_)
  cases d with
  | true => exact ha pins s1 σ H1 D I1 q1
  | false => exact hb pins s1 σ H1 D I1 q1
end
abbrev TG := V → St → Hp → (St → Hp → Prop) → Prop
abbrev TGs := List V → St → Hp → (St → Hp → Prop) → Prop
def PG (X : Cx) (target : Expr) (t : TG) : Prop :=
  ∀ (pins : List (Addr × Obj)) (s : Shared) (σ : St) (H : Hp) (v : V) (u : Value) (Q : St → Hp → Prop), Inv X pins σ H s → RelV v u → t v σ H Q →
    wpAny (model X.prog X.w) X.A (assign target X.env u) (fun _ s' => ∃ σ' H', Inv X pins σ' H' s' ∧ Q σ' H') X.xe s
def PGs (X : Cx) (ts : List Expr) (t : TGs) : Prop :=
  ∀ (pins : List (Addr × Obj)) (s : Shared) (σ : St) (H : Hp) (vs : List V) (us : List Value) (Q : St → Hp → Prop), Inv X pins σ H s → Vals vs us → t vs σ H Q →
    wpAny (model X.prog X.w) X.A (assignInOrder ((assignEach ts X.env).map (·.2)) us) (fun _ s' => ∃ σ' H', Inv X pins σ' H' s' ∧ Q σ' H') X.xe s
abbrev TSet := V → V → V → Hp → (Hp → Prop) → Prop
def PSet (X : Cx) (t : TSet) : Prop :=
  ∀ (pins : List (Addr × Obj)) (s : Shared) (σ : St) (H : Hp) (o i v : V) (ov iv u : Value) (Q : Hp → Prop), Inv X pins σ H s → RelV o ov → RelV i iv → RelV v u → t o i v H Q →
    wpAny (model X.prog X.w) X.A (setItem ov iv u) (fun _ s' => ∃ H', Inv X pins σ H' s' ∧ Q H') X.xe s
section
variable {X : Cx} {pos : Pos}
def gName (i : Nat) : TG := fun v σ H Q => Q (σ.set i (some v)) H
theorem pg_name {i : Nat} {x : Str} (hN : X.N.Nodup) (hi : X.N[i]? = some x) (hx : Loc X.env.scope x) (hf : X.fn x = true ∨ X.env.scope.names.lookup x = some .local := by first | exact .inl rfl | exact .inr rfl | assumption) : PG X (.Name x pos) (gName i) := by
  intro pins s σ H v u Q I r h
  exact wpAny_assign_Name (store_ok I hN hi hx r (fun s' I' => ⟨_, H, I', h⟩) hf)
def gNil : TGs := fun vs σ H Q => vs = [] ∧ Q σ H
def gCons (t : TG) (u : TGs) : TGs := fun vs σ H Q => ∃ v r, vs = v :: r ∧ t v σ H fun σ' H' => u r σ' H' Q
theorem pgs_nil : PGs X [] gNil := by
  intro pins s σ H vs us Q I r h
  obtain ⟨e, h⟩ := h
  subst e
  cases r
  exact assignInOrder_nil ⟨σ, H, I, h⟩
theorem pgs_cons {e : Expr} {es : List Expr} {t : TG} {u : TGs} (h1 : PG X e t) (h2 : PGs X es u)
    (hs : (assignEach (e :: es) X.env).map (·.2) = assign e X.env :: (assignEach es X.env).map (·.2) := by rfl) : PGs X (e :: es) (gCons t u) := by
  intro pins s σ H vs us Q I r h
  obtain ⟨v, vr, e1, h⟩ := h
  subst e1
  cases r with
  | cons r rr =>
    rw [hs]
    refine assignInOrder_cons (thn (h1 pins s σ H _ _ _ I r h) fun _ s1 ⟨σ1, H1, I1, q1⟩ => ?_)
    exact h2 pins s1 σ1 H1 _ _ Q I1 rr q1
def gTup (K : PySem.W.Frag) (n : Nat) (t : TGs) : TG := fun v σ H Q => ∃ a xs, v = .ref a ∧ SqT K H a xs ∧ xs.length = n ∧ t xs σ H Q
theorem pg_tup {es : List Expr} {k : Nat} {t : TGs} {n : Nat} (hc : X.calm = true) (h : PGs X es t)
    (hn : (assignEach es X.env).length = n := by rfl) (hst : (assignEach es X.env).findIdx? (·.1) = none := by rfl) : PG X (.Tuple es k pos) (gTup X.K n t) := by
  intro pins s σ H v u Q I r hw
  obtain ⟨a, xs, e1, hq, hl, hw⟩ := hw
  subst e1
  cases r
  obtain ⟨its, rv, ht, hz⟩ := I.tuple hq
  refine assign_Tuple_tuple (I.ok.hd hc) ht (by simp [hn, ← hl, rv.length]) hst fun h' hx => ?_
  have I1 : Inv X pins σ H { s with heap := h' } := I.kept (t' := s.toks) fun b o e => hx b o (Nat.ne_of_lt (Heap.lt_size e)) e
  exact h pins _ σ H xs _ Q I1 (by simpa using rv) hw
def gSub (to ti : TE) (t : TSet) : TG := fun v σ H Q => to σ H fun o H1 => ti σ H1 fun i H2 => t o i v H2 fun H3 => Q σ H3
theorem pg_sub {o i : Expr} {to ti : TE} {t : TSet} (ho : PE X o to) (hi : PE X i ti) (hs : PSet X t)
    (ha : ∀ v, assign (.Subscript o i pos) X.env v = (do
      let ov ← holding [v] (eval o X.env)
      let iv ← holding [v, ov] (eval i X.env)
      standAt pos
      holding [v, ov, iv] (setItem ov iv v)
      release [v, ov, iv] []) := by intro _; rfl) : PG X (.Subscript o i pos) (gSub to ti t) := by
  intro pins s σ H v u Q I r h
  rw [ha]
  refine wpAny_bind (wpAny_holding (thn (ho pins s σ H _ I h) fun ov s1 ⟨x, H1, I1, r1, q1⟩ => ?_))
  refine wpAny_bind (wpAny_holding (thn (hi pins s1 σ H1 _ I1 q1) fun iv s2 ⟨y, H2, I2, r2, q2⟩ => ?_))
  refine wpAny_bind (wpAny_standAt (wpAny_bind (wpAny_holding (thn (hs pins s2 σ H2 x y v ov iv u _ I2 r1 r2 r q2) fun _ s3 ⟨H3, I3, q3⟩ => ?_))))
  exact wpAny_release ⟨σ, H3, I3, q3⟩
def tAsg (te : TE) (g : TG) : TS := fun D σ H => te σ H fun x H1 => g x σ H1 D.nx
theorem ps_asg {tg e : Expr} {te : TE} {g : TG} (he : PE X e te) (hg : PG X tg g) (hs : swapsWithSole [tg] e pos.line X.env = pure false := by rfl) (hw : swappedStores [tg] e X.env = pure none := by rfl)
    (h1 : (assignEach [tg] X.env).map (·.2) = [assign tg X.env] := by rfl) : PS X (.Assign [tg] e pos) (tAsg te g) := by
  intro pins s σ H D I h
  refine wpAny_Assign_stores (thn (he pins s σ H _ I h) fun v s1 ⟨x, H1, I1, r1, q1⟩ => ?_) hs hw
  rw [h1]
  exact thn (hg pins s1 σ H1 x v _ I1 r1 q1) fun _ s2 q => q
theorem ps_set {i : Nat} {x : Str} {e : Expr} {te : TE} {pos' : Pos} (hN : X.N.Nodup) (hi : X.N[i]? = some x) (hx : Loc X.env.scope x) (he : PE X e te) (hs : swapsWith e (some (.Name x pos')) pos.line X.env = pure false := by rfl) (hf : X.fn x = true ∨ X.env.scope.names.lookup x = some .local := by first | exact .inl rfl | exact .inr rfl | assumption) :
    PS X (.Assign [.Name x pos'] e pos) (tAsg te (gName i)) := by
  intro pins s σ H D I h
  refine wpAny_Assign_Name (thn (he pins s σ H _ I h) fun v s1 ⟨y, H1, I1, r1, q1⟩ => ?_) hs
  exact store_ok I1 hN hi hx r1 (fun s2 I2 => ⟨_, H1, I2, q1⟩) hf
end
section
variable {X : Cx} {pos : Pos}
end
structure It where
  go : Nat → Hp → Prop
  yld : Nat → Hp → V → Hp → Prop
  stop : Nat → Hp → Prop
def FpOk (X : Cx) (pins : List (Addr × Obj)) (H : Hp) (b : Addr) : Prop :=
  H b = none ∧ b ≠ X.env.locals ∧ b ∉ X.fs ∧ (b ∈ X.ex ∨ X.s₀.heap.objs.size ≤ b) ∧ (∀ x c, X.env.cells.lookup x = some c → c ≠ b) ∧ ∀ p ∈ X.pn ++ pins, p.1 ≠ b
theorem Inv.fpOk {X : Cx} {pins : List (Addr × Obj)} {σ : St} {H H' : Hp} {s : Shared} {b : Addr} (I : Inv X pins σ H s) (hb : s.heap.objs.size ≤ b) (hn : H' b = none) : FpOk X pins H' b := by
  refine ⟨hn, Nat.ne_of_gt (Nat.lt_of_lt_of_le I.lt hb), I.nofs hb, .inr (Nat.le_trans I.sz hb), fun x c e z => ?_, fun p hp z => ?_⟩
  · obtain ⟨v, q⟩ := I.cell x c e
    exact absurd (Nat.lt_of_lt_of_le q.lt (by rw [z]; exact hb)) (Nat.lt_irrefl _)
  · exact absurd (Nat.lt_of_lt_of_le (Heap.lt_size (I.pin p hp).1) (by rw [z]; exact hb)) (Nat.lt_irrefl _)
structure Turn (P : Program) (w : World) (K : PySem.W.Frag) (tg : Expr) (J : It) (fp : List Addr) (it : Addr) (tn : Nat → Heap → Prop) : Prop where
  mem : it ∈ fp
  obj : ∀ i h, tn i h → ∀ b ∈ fp, ∃ o, h.get? b = some o ∧ ∀ v, o.data ≠ .cell v
  keep : ∀ i h h', tn i h → (∀ b ∈ fp, ∀ o, h.get? b = some o → h'.get? b = some o) → tn i h'
  item : ∀ (X : Cx), X.prog = P → X.w = w → X.K = K → X.calm = true → ∀ (i : Nat) (pins : List (Addr × Obj)) (s : Shared) (σ : St) (H : Hp) (E : Value → Shared → Prop), Inv X pins σ H s → (∀ b ∈ fp, FpOk X pins H b) → tn i s.heap → J.go i H →
    wpAny (model P w) X.A (pyNext (.ref it)) (fun r s1 => ∃ u, r = some u ∧
      wpAny (model P w) X.A (letOwnedTupleGo tg (.ref it) u) (fun _ s2 => ∃ x H', Inv X pins σ H' s2 ∧ RelV x u ∧ J.yld i H x H' ∧ tn (i + 1) s2.heap ∧ ∀ b ∈ fp, H' b = none) E s1) E s
  done : ∀ (X : Cx), X.prog = P → X.w = w → X.K = K → X.calm = true → ∀ (i : Nat) (pins : List (Addr × Obj)) (s : Shared) (σ : St) (H : Hp) (E : Value → Shared → Prop), Inv X pins σ H s → (∀ b ∈ fp, FpOk X pins H b) → tn i s.heap → J.stop i H →
    wpAny (model P w) X.A (pyNext (.ref it)) (fun r s1 => r = none ∧ Inv X pins σ H s1) E s
  self : ∀ (A : Around) (i : Nat) (s : Shared) (Q : Value → Shared → Prop) (E : Value → Shared → Prop), tn i s.heap → Q (.ref it) s → wpAny (model P w) A (pyIter (.ref it)) Q E s
abbrev TI := St → Hp → (It → Hp → Prop) → Prop
def PIE (X : Cx) (pins : List (Addr × Obj)) (σ : St) (tg : Expr) (R : It → Hp → Prop) (itv : Value) (s2 : Shared) : Prop :=
  ∃ (it : Addr) (fp : List Addr) (tn : Nat → Heap → Prop) (J : It) (H' : Hp), itv = .ref it ∧ Inv X pins σ H' s2 ∧ Turn X.prog X.w X.K tg J fp it tn ∧ tn 0 s2.heap ∧ (∀ b ∈ fp, FpOk X pins H' b) ∧ R J H'
def PI (X : Cx) (tg iter : Expr) (wi : TI) : Prop :=
  ∀ (pins : List (Addr × Obj)) (s : Shared) (σ : St) (H : Hp) (R : It → Hp → Prop), Inv X pins σ H s → wi σ H R →
    wpAny (model X.prog X.w) X.A (eval iter X.env) (fun v s1 => wpAny (model X.prog X.w) X.A (pyIter v) (PIE X pins σ tg R) X.xe s1) X.xe s
theorem go_of {M : Model} {A : Around} {E : Value → Shared → Prop} {s : Shared} {tg : Expr} {it : Addr} {u : Value} {o : Obj} {n : String} {vs : Array Value} {Q : Unit → Shared → Prop} (ho : s.heap.get? it = some o) (hc : o.cls = .type n) (hd : o.data = .fields vs)
    (hn : ["enumerate", "zip", "dict_itemiterator", "dict_reverseitemiterator", "odict_iterator", "itertools.zip_longest", "itertools.pairwise"].contains n = false) (hQ : Q () s) : wpAny M A (letOwnedTupleGo tg (.ref it) u) Q E s := by
  unfold letOwnedTupleGo
  cases tg <;> first
    | exact wpAny_pure hQ
    | (cases u <;> first
        | exact wpAny_pure hQ
        | (refine wpAny_bind (wpAny_load ho ?_)
           rw [hc, hd]
           show wpAny M A (if (["enumerate", "zip", "dict_itemiterator", "dict_reverseitemiterator", "odict_iterator", "itertools.zip_longest", "itertools.pairwise"].contains n && vs[0]? == some (rawInt _)) = true then _ else _) Q E s
           rw [if_neg (by intro h; rw [hn, Bool.false_and] at h; cases h)]
           exact wpAny_pure hQ))
def Itl (K : PySem.W.Frag) (a : Addr) : It :=
  ⟨fun i H => ∃ xs x, SqL K H a xs ∧ xs[i]? = some x, fun i H x H' => H' = H ∧ ∀ xs, SqL K H a xs → xs[i]? = some x, fun i H => ∃ xs, SqL K H a xs ∧ xs.length ≤ i⟩
def Itt (K : PySem.W.Frag) (a : Addr) : It :=
  ⟨fun i H => ∃ xs x, SqT K H a xs ∧ xs[i]? = some x, fun i H x H' => H' = H ∧ ∀ xs, SqT K H a xs → xs[i]? = some x, fun i H => ∃ xs, SqT K H a xs ∧ xs.length ≤ i⟩
def Itr (lo : Int) (n : Nat) : It := ⟨fun i _ => i < n, fun i H x H' => H' = H ∧ x = .int (lo + i), fun i _ => n ≤ i⟩
theorem turn_list {P : Program} {w : World} {K : PySem.W.Frag} {tg : Expr} (a it : Addr) : Turn P w K tg (Itl K a) [it] it (fun i h => h.IsListIter it a i) where
  mem := by simp
  obj := fun i h st b hb => by
    have e : b = it := by simpa using hb
    subst e
    obtain ⟨o, e, c, d⟩ := st
    exact ⟨o, e, fun v z => by rw [d] at z; cases z⟩
  keep := fun i h h' st k => st.at fun o e => k it (by simp) o e
  item := by
    intro X hP hw hK hc i pins s σ H E I hf st hg
    subst hP hw hK
    obtain ⟨xs, x, hq, hx⟩ := hg
    obtain ⟨its, rv, p, hz⟩ := I.list hq
    obtain ⟨u, hu, ru⟩ := rv.get hx
    obtain ⟨f0, f1, f2, f3, f4, f5⟩ := hf it (by simp)
    refine wpAny_pyNext_list_item st p.isList (x := u) (by simpa using hu) fun h' st' sb => ?_
    have I1 : Inv X pins σ H { s with heap := h' } := I.turned (t' := s.toks) (fun b o hb e => (sb.2 b hb).trans e) f0 f1 f3 f4 f5
    obtain ⟨o, e, c, d⟩ := id st'
    exact ⟨u, rfl, go_of (s := { s with heap := h' }) e c d (by decide) ⟨x, H, I1, ru, ⟨rfl, fun ys hy => by rw [I.list_inj hy hq]; exact hx⟩, st', fun b hb => (hf b hb).1⟩⟩
  done := by
    intro X hP hw hK hc i pins s σ H E I hf st hg
    subst hP hw hK
    obtain ⟨xs, hq, hx⟩ := hg
    obtain ⟨its, rv, p, hz⟩ := I.list hq
    obtain ⟨f0, f1, f2, f3, f4, f5⟩ := hf it (by simp)
    have hl := rv.length
    exact wpAny_pyNext_list_end (I.ok.hd hc) st p.isList (by simp; omega) fun h' eb => ⟨rfl, I.turned (t' := s.toks) (fun b o hb e => eb b o hb e) f0 f1 f3 f4 f5⟩
  self := fun _ _ _ _ _ st h => wpAny_pyIter_listiter st h
theorem turn_tuple {P : Program} {w : World} {K : PySem.W.Frag} {tg : Expr} (a it : Addr) : Turn P w K tg (Itt K a) [it] it (fun i h => h.IsTupleIter it a i) where
  mem := by simp
  obj := fun i h st b hb => by
    have e : b = it := by simpa using hb
    subst e
    obtain ⟨o, e, c, d⟩ := st
    exact ⟨o, e, fun v z => by rw [d] at z; cases z⟩
  keep := fun i h h' st k => st.at fun o e => k it (by simp) o e
  item := by
    intro X hP hw hK hc i pins s σ H E I hf st hg
    subst hP hw hK
    obtain ⟨xs, x, hq, hx⟩ := hg
    obtain ⟨its, rv, p, hz⟩ := I.tuple hq
    obtain ⟨u, hu, ru⟩ := rv.get hx
    obtain ⟨f0, f1, f2, f3, f4, f5⟩ := hf it (by simp)
    refine wpAny_pyNext_tuple_item st (show s.heap.IsTuple a its.toArray from p) (x := u) (by simpa using hu) fun h' st' sb => ?_
    have I1 : Inv X pins σ H { s with heap := h' } := I.turned (t' := s.toks) (fun b o hb e => (sb.2 b hb).trans e) f0 f1 f3 f4 f5
    obtain ⟨o, e, c, d⟩ := id st'
    exact ⟨u, rfl, go_of (s := { s with heap := h' }) e c d (by decide) ⟨x, H, I1, ru, ⟨rfl, fun ys hy => by rw [I.tuple_inj hy hq]; exact hx⟩, st', fun b hb => (hf b hb).1⟩⟩
  done := by
    intro X hP hw hK hc i pins s σ H E I hf st hg
    subst hP hw hK
    obtain ⟨xs, hq, hx⟩ := hg
    obtain ⟨its, rv, p, hz⟩ := I.tuple hq
    obtain ⟨f0, f1, f2, f3, f4, f5⟩ := hf it (by simp)
    have hl := rv.length
    exact wpAny_pyNext_tuple_end (I.ok.hd hc) st (show s.heap.IsTuple a its.toArray from p) (by simp; omega) fun h' eb => ⟨rfl, I.turned (t' := s.toks) (fun b o hb e => eb b o hb e) f0 f1 f3 f4 f5⟩
  self := fun _ _ _ _ _ st h => wpAny_pyIter_tupleiter st h
theorem turn_range {P : Program} {w : World} {K : PySem.W.Frag} {tg : Expr} (it : Addr) (lo : Int) (n : Nat) : Turn P w K tg (Itr lo n) [it] it (fun i h => IsRangeIter h it (lo + (i : Nat) * 1) ((n : Int) - (i : Nat)) 1) where
  mem := by simp
  obj := fun i h st b hb => by
    have e : b = it := by simpa using hb
    subst e
    exact ⟨_, st, fun v z => by
      have z' : Data.fields _ = Data.cell v := z
      cases z'⟩
  keep := fun i h h' st k => k it (by simp) _ st
  item := by
    intro X hP hw hK hc i pins s σ H E I hf st hg
    subst hP hw hK
    obtain ⟨f0, f1, f2, f3, f4, f5⟩ := hf it (by simp)
    have W := Walks.range (prog := X.prog) (w := X.w) (I.ok.hd hc) it lo 1 n
    refine W.item i s _ _ hg st fun v h' tk hv st' kk => ?_
    obtain ⟨t, rfl⟩ := hv
    have I1 : Inv X pins σ H { s with heap := h', toks := tk } := I.turned (fun b o hb e => kk b o (by simpa using hb) e) f0 f1 f3 f4 f5
    refine ⟨_, rfl, go_of (s := { s with heap := h', toks := tk }) (n := "range_iterator") st' rfl rfl (by decide) ⟨.int (lo + i), H, I1, ⟨t, ?_⟩, ⟨rfl, rfl⟩, st', fun b hb => (hf b hb).1⟩⟩
    rw [Int.mul_one]
  done := by
    intro X hP hw hK hc i pins s σ H E I hf st hg
    subst hP hw hK
    obtain ⟨f0, f1, f2, f3, f4, f5⟩ := hf it (by simp)
    exact wpAny_pyNext_range_end (I.ok.hd hc) st (by have : n ≤ i := hg; omega) fun h' eb => ⟨rfl, I.turned (t' := s.toks) (fun b o hb e => eb b o hb e) f0 f1 f3 f4 f5⟩
  self := fun _ _ _ _ _ st h => wpAny_pyIter_rangeiter st h
end L2
namespace L2
open PySem PySem.Spec PyProof.Rows
section
variable {X : Cx} {tg : Expr}
def iList (K : PySem.W.Frag) (tl : TE) : TI := fun σ H R => tl σ H fun x H1 => ∃ a, x = .ref a ∧ (∃ xs, SqL K H1 a xs) ∧ R (Itl K a) H1
def iTup (K : PySem.W.Frag) (tl : TE) : TI := fun σ H R => tl σ H fun x H1 => ∃ a, x = .ref a ∧ (∃ xs, SqT K H1 a xs) ∧ R (Itt K a) H1
theorem pi_list {l : Expr} {tl : TE} (hl : PE X l tl) : PI X tg l (iList X.K tl) := by
  intro pins s σ H R I h
  refine thn (hl pins s σ H _ I h) fun v s1 ⟨x, H1, I1, r1, q1⟩ => ?_
  obtain ⟨a, e, ⟨xs, hq⟩, q⟩ := q1
  subst e
  cases r1
  obtain ⟨its, rv, p, hz⟩ := I1.list hq
  refine wpAny_pyIter_list p.isList ?_
  refine ⟨s1.heap.objs.size, [s1.heap.objs.size], _, _, H1, rfl, I1.kept (t' := s1.toks) fun b o e => Heap.get?_push_of_some _ e, turn_list a _, ⟨_, Heap.get?_push_size _ rfl, rfl, rfl⟩, fun b hb => ?_, q⟩
  have e : b = s1.heap.objs.size := by simpa using hb
  subst e
  exact I1.fpOk (Nat.le_refl _) (I1.hok.fresh (Nat.le_refl _))
theorem pi_tup {l : Expr} {tl : TE} (hl : PE X l tl) : PI X tg l (iTup X.K tl) := by
  intro pins s σ H R I h
  refine thn (hl pins s σ H _ I h) fun v s1 ⟨x, H1, I1, r1, q1⟩ => ?_
  obtain ⟨a, e, ⟨xs, hq⟩, q⟩ := q1
  subst e
  cases r1
  obtain ⟨its, rv, p, hz⟩ := I1.tuple hq
  refine wpAny_pyIter_tuple (show s1.heap.IsTuple a its.toArray from p) ?_
  refine ⟨s1.heap.objs.size, [s1.heap.objs.size], _, _, H1, rfl, I1.kept (t' := s1.toks) fun b o e => Heap.get?_push_of_some _ e, turn_tuple a _, ⟨_, Heap.get?_push_size _ rfl, rfl, rfl⟩, fun b hb => ?_, q⟩
  have e : b = s1.heap.objs.size := by simpa using hb
  subst e
  exact I1.fpOk (Nat.le_refl _) (I1.hok.fresh (Nat.le_refl _))
theorem range_it {pins : List (Addr × Obj)} {σ : St} {H : Hp} {s : Shared} {R : It → Hp → Prop} {E : Value → Shared → Prop} {lo hi : Int} {t u v : Tok} {tk : Nat} (I : Inv X pins σ H s) (h1 : -(2 ^ 62) ≤ lo) (h2 : lo < 2 ^ 62) (h3 : -(2 ^ 62) ≤ hi) (h4 : hi < 2 ^ 62)
    (q : R (Itr lo (hi - lo).toNat) H) : wpAny (model X.prog X.w) X.A (pyIter (.ref s.heap.objs.size)) (PIE X pins σ tg R) E { s with heap := s.heap.push { cls := .type "range", data := .fields #[.int lo t, .int hi u, .int 1 v] }, toks := tk } := by
  refine wpAny_pyIter_range (IsRange.new ..) (small_one h1 h2 h3 h4) ?_
  have I1 : Inv X pins σ H { s with heap := s.heap.push { cls := .type "range", data := .fields #[.int lo t, .int hi u, .int 1 v] }, toks := tk } := I.kept fun b o e => Heap.get?_push_of_some _ e
  refine ⟨(s.heap.push { cls := .type "range", data := .fields #[.int lo t, .int hi u, .int 1 v] }).objs.size, [(s.heap.push { cls := .type "range", data := .fields #[.int lo t, .int hi u, .int 1 v] }).objs.size], _, _, H, rfl,
    I1.kept (t' := tk) fun b o e => Heap.get?_push_of_some _ e, turn_range _ lo (hi - lo).toNat, ?_, fun b hb => ?_, q⟩
  · have e1 : lo + ((0 : Nat) : Int) * 1 = lo := by simp
    have e2 : (((hi - lo).toNat : Nat) : Int) - ((0 : Nat) : Int) = Builtin.Range.rangeSize lo hi 1 := by rw [rangeSize_one]; split <;> omega
    show IsRangeIter _ _ (lo + ((0 : Nat) : Int) * 1) ((((hi - lo).toNat : Nat) : Int) - ((0 : Nat) : Int)) 1
    rw [e1, e2]
    exact Heap.get?_push_size _ rfl
  · have e : b = (s.heap.push { cls := .type "range", data := .fields #[.int lo t, .int hi u, .int 1 v] }).objs.size := by simpa using hb
    subst e
    exact I1.fpOk (Nat.le_refl _) (I1.hok.fresh (Nat.le_refl _))
def iRng1 (ta : TA) : TI := fun σ H R => ta σ H fun vs H1 => ∃ j : Int, vs = [.int j] ∧ -(2 ^ 62) ≤ j ∧ j < 2 ^ 62 ∧ R (Itr 0 j.toNat) H1
theorem pi_range1 {a : Expr} {ta : TA} {p pos : Pos} (hg : Gl X "range") (hm : X.mg "range" = none) (ha : PA X [a] ta) (hs : starEach [a] X.env = [(false, eval a X.env)] := by rfl) : PI X tg (.Call (.Name "range" p) [a] [] pos) (iRng1 ta) := by
  intro pins s σ H R I h
  refine Call_ (ld_blt I hg hm boot_range (PyProof.Rows.callWith_type1 (thn (ha pos pins s σ H _ I h) fun us s1 ⟨vs, H1, I1, r1, q1⟩ => ?_) hs rfl))
  obtain ⟨j, e, q1, q2, q⟩ := q1
  subst e
  cases r1 with
  | cons r rr =>
    cases rr
    obtain ⟨t, rfl⟩ := r
    exact call_range_1 (range_it I1 (by omega) (by omega) q1 q2 (by simpa using q))
def tFor (wi : TI) (g : TG) (tb : TS) : TS := fun D σ H => wi σ H fun J H1 => ∃ W : Nat → Nat → St → Hp → Prop, (∃ m, W 0 m σ H1) ∧ ∀ i m σ H, W i m σ H →
  (J.stop i H ∧ D.nx σ H) ∨ (J.go i H ∧ ∃ N : St → Hp → Prop, (∀ σ' H', N σ' H' → ∃ m', m' < m ∧ W (i + 1) m' σ' H') ∧ ∀ x H', J.yld i H x H' → g x σ H' fun σ2 H2 => tb { D with nx := N, ct := N, bk := D.nx } σ2 H2)
def pinsAt (fp : List Addr) (h : Heap) : List (Addr × Obj) := fp.filterMap fun b => (h.get? b).map fun o => (b, o)
theorem mem_pinsAt {fp : List Addr} {h : Heap} {b : Addr} {o : Obj} (hb : b ∈ fp) (e : h.get? b = some o) : (b, o) ∈ pinsAt fp h := List.mem_filterMap.mpr ⟨b, hb, by rw [e]; rfl⟩
theorem of_pinsAt {fp : List Addr} {h : Heap} {p : Addr × Obj} (hp : p ∈ pinsAt fp h) : p.1 ∈ fp ∧ h.get? p.1 = some p.2 := by
  obtain ⟨b, hb, e⟩ := List.mem_filterMap.mp hp
  cases q : h.get? b with
  | none => rw [q] at e; cases e
  | some o =>
    rw [q] at e
    have e' : (b, o) = p := Option.some.inj e
    subst e'
    exact ⟨hb, q⟩
theorem Inv.pinned {pins : List (Addr × Obj)} {σ : St} {H : Hp} {s : Shared} {fp : List Addr} (I : Inv X pins σ H s) (hf : ∀ b ∈ fp, FpOk X pins H b) (ho : ∀ b ∈ fp, ∃ o, s.heap.get? b = some o ∧ ∀ v, o.data ≠ .cell v) : Inv X (pins ++ pinsAt fp s.heap) σ H s :=
  I.pins_of fun p hp => (List.mem_append.mp hp).elim (fun z => I.pin p (List.mem_append_right _ z)) fun z => by
    obtain ⟨hb, e⟩ := of_pinsAt z
    obtain ⟨f0, f1, f2, _⟩ := hf p.1 hb
    obtain ⟨o, e', d⟩ := ho p.1 hb
    rw [e] at e'; cases e'
    exact ⟨e, f0, f1, f2, d⟩
theorem Inv.unpinned {pins pl : List (Addr × Obj)} {σ : St} {H : Hp} {s : Shared} (I : Inv X (pins ++ pl) σ H s) : Inv X pins σ H s := I.pins_of fun p hp => I.pin p (List.mem_append_right _ (List.mem_append_left _ hp))
theorem ps_for {iter : Expr} {body : List Stmt} {wi : TI} {g : TG} {tb : TS} {pos : Pos} (hp : PassesOwn (model X.prog X.w) X.A X.env X.xe) (hc : X.calm = true) (hi : PI X tg iter wi) (hg : PG X tg g) (hb : PSs X body tb)
    (hs : ∀ x, foldedSetIterable iter X.env x = pure x := by intro _; rfl) : PS X (.For tg iter body [] pos) (tFor wi g tb) := by
  intro pins s σ H D I h
  refine wpAny_For (thn (hi pins s σ H _ I h) fun v s1 h1 => thn h1 fun itv s2 h2 => ?_) hs
  obtain ⟨it, fp, tn, J, H2, e, I2, T, st2, f2, W, ⟨m0, w0⟩, turn⟩ := h2
  subst e
  have stat : ∀ {H' : Hp}, (∀ b ∈ fp, H' b = none) → ∀ b ∈ fp, FpOk X pins H' b := fun hn b hb => ⟨hn b hb, (f2 b hb).2⟩
  refine codeAny_forLoop_any (fun n s' => ∃ i σ' H', Inv X pins σ' H' s' ∧ tn i s'.heap ∧ (∀ b ∈ fp, H' b = none) ∧ W i n σ' H') ?_ m0 ⟨0, σ, H2, I2, st2, fun b hb => (f2 b hb).1, w0⟩
  rintro n s3 ⟨i, σ3, H3, I3, st3, fr3, w3⟩
  rcases turn i n σ3 H3 w3 with ⟨stop, qn⟩ | ⟨go, N, hN, step⟩
  · refine wpAny_passesOwn hp (thn (T.done X rfl rfl rfl hc i pins s3 σ3 H3 X.xe I3 (stat fr3) st3 stop) fun r s4 ⟨hr, I4⟩ => ?_)
    subst hr
    exact wpAny_execs_nil ⟨σ3, H3, I4, qn⟩
  · refine wpAny_passesOwn hp (thn (T.item X rfl rfl rfl hc i pins s3 σ3 H3 X.xe I3 (stat fr3) st3 go) fun r s4 ⟨u, hr, h4⟩ => ?_)
    subst hr
    refine wpAny_passesOwn hp (thn h4 fun _ s5 ⟨x, H5, I5, r5, y5, st5, fr5⟩ => ?_)
    have I5' := I5.pinned (stat fr5) (T.obj _ _ st5)
    refine wpAny_passesOwn hp (thn (hg _ s5 σ3 H5 x u _ I5' r5 (step x H5 y5)) fun _ s6 ⟨σ6, H6, I6, q6⟩ => ?_)
    refine wpAny_passesOwn hp (thn (hb _ s6 σ6 H6 _ I6 q6) fun f s7 q7 => ?_)
    have again : ∀ {σ7 : St} {H7 : Hp}, Inv X (pins ++ pinsAt fp s5.heap) σ7 H7 s7 → N σ7 H7 → ∃ m, m < n ∧ ∃ i σ' H', Inv X pins σ' H' s7 ∧ tn i s7.heap ∧ (∀ b ∈ fp, H' b = none) ∧ W i m σ' H' := fun {σ7 H7} I7 n7 => by
      obtain ⟨m', hm, w7⟩ := hN σ7 H7 n7
      refine ⟨m', hm, i + 1, σ7, H7, I7.unpinned, T.keep _ _ _ st5 fun b hb o e => (I7.pin (b, o) (List.mem_append_right _ (List.mem_append_right _ (mem_pinsAt hb e)))).1, fun b hb => ?_, w7⟩
      obtain ⟨o, e, d⟩ := T.obj _ _ st5 b hb
      exact (I7.pin (b, o) (List.mem_append_right _ (List.mem_append_right _ (mem_pinsAt hb e)))).2.1
    cases f with
    | next => obtain ⟨σ7, H7, I7, n7⟩ := q7; exact again I7 n7
    | cont => obtain ⟨σ7, H7, I7, n7⟩ := q7; exact again I7 n7
    | brk => obtain ⟨σ7, H7, I7, q7⟩ := q7; exact ⟨σ7, H7, I7.unpinned, q7⟩
    | ret v => obtain ⟨x7, σ7, H7, I7, r7, q7⟩ := q7; exact ⟨x7, σ7, H7, I7.unpinned, r7, q7⟩
end
theorem for_list {K : PySem.W.Frag} {a : Addr} {xs : List V} {g : TG} {tb : TS} {D : Ends} {σ : St} {H : Hp} (Pv : Nat → St → Hp → Prop) (h0 : Pv 0 σ H) (hl : ∀ i σ H, i ≤ xs.length → Pv i σ H → SqL K H a xs)
    (hs : ∀ i x σ H, xs[i]? = some x → Pv i σ H → g x σ H fun σ2 H2 => tb { D with nx := Pv (i + 1), ct := Pv (i + 1), bk := D.nx } σ2 H2) (hd : ∀ σ H, Pv xs.length σ H → D.nx σ H) :
    ∃ W : Nat → Nat → St → Hp → Prop, (∃ m, W 0 m σ H) ∧ ∀ i m σ H, W i m σ H →
      ((Itl K a).stop i H ∧ D.nx σ H) ∨ ((Itl K a).go i H ∧ ∃ N : St → Hp → Prop, (∀ σ' H', N σ' H' → ∃ m', m' < m ∧ W (i + 1) m' σ' H') ∧ ∀ x H', (Itl K a).yld i H x H' → g x σ H' fun σ2 H2 => tb { D with nx := N, ct := N, bk := D.nx } σ2 H2) := by
  refine ⟨fun i m σ H => m = xs.length - i ∧ i ≤ xs.length ∧ Pv i σ H, ⟨xs.length, by simp, Nat.zero_le _, h0⟩, ?_⟩
  rintro i m σ H ⟨rfl, hi, p⟩
  have q := hl i σ H hi p
  by_cases hlt : i < xs.length
  · refine .inr ⟨⟨xs, xs[i], q, by simp [hlt]⟩, Pv (i + 1), fun σ' H' p' => ⟨xs.length - (i + 1), by omega, rfl, hlt, p'⟩, fun x H' y => ?_⟩
    obtain ⟨e, y⟩ := y
    subst e
    exact hs i x σ _ (y xs q) p
  · have e : i = xs.length := by omega
    subst e
    exact .inl ⟨⟨xs, q, Nat.le_refl _⟩, hd σ H p⟩
theorem for_tup {K : PySem.W.Frag} {a : Addr} {xs : List V} {g : TG} {tb : TS} {D : Ends} {σ : St} {H : Hp} (Pv : Nat → St → Hp → Prop) (h0 : Pv 0 σ H) (hl : ∀ i σ H, i ≤ xs.length → Pv i σ H → SqT K H a xs)
    (hs : ∀ i x σ H, xs[i]? = some x → Pv i σ H → g x σ H fun σ2 H2 => tb { D with nx := Pv (i + 1), ct := Pv (i + 1), bk := D.nx } σ2 H2) (hd : ∀ σ H, Pv xs.length σ H → D.nx σ H) :
    ∃ W : Nat → Nat → St → Hp → Prop, (∃ m, W 0 m σ H) ∧ ∀ i m σ H, W i m σ H →
      ((Itt K a).stop i H ∧ D.nx σ H) ∨ ((Itt K a).go i H ∧ ∃ N : St → Hp → Prop, (∀ σ' H', N σ' H' → ∃ m', m' < m ∧ W (i + 1) m' σ' H') ∧ ∀ x H', (Itt K a).yld i H x H' → g x σ H' fun σ2 H2 => tb { D with nx := N, ct := N, bk := D.nx } σ2 H2) := by
  refine ⟨fun i m σ H => m = xs.length - i ∧ i ≤ xs.length ∧ Pv i σ H, ⟨xs.length, by simp, Nat.zero_le _, h0⟩, ?_⟩
  rintro i m σ H ⟨rfl, hi, p⟩
  have q := hl i σ H hi p
  by_cases hlt : i < xs.length
  · refine .inr ⟨⟨xs, xs[i], q, by simp [hlt]⟩, Pv (i + 1), fun σ' H' p' => ⟨xs.length - (i + 1), by omega, rfl, hlt, p'⟩, fun x H' y => ?_⟩
    obtain ⟨e, y⟩ := y
    subst e
    exact hs i x σ _ (y xs q) p
  · have e : i = xs.length := by omega
    subst e
    exact .inl ⟨⟨xs, q, Nat.le_refl _⟩, hd σ H p⟩
theorem for_range {lo : Int} {n : Nat} {g : TG} {tb : TS} {D : Ends} {σ : St} {H : Hp} (Pv : Nat → St → Hp → Prop) (h0 : Pv 0 σ H)
    (hs : ∀ i σ H, i < n → Pv i σ H → g (.int (lo + i)) σ H fun σ2 H2 => tb { D with nx := Pv (i + 1), ct := Pv (i + 1), bk := D.nx } σ2 H2) (hd : ∀ σ H, Pv n σ H → D.nx σ H) :
    ∃ W : Nat → Nat → St → Hp → Prop, (∃ m, W 0 m σ H) ∧ ∀ i m σ H, W i m σ H →
      ((Itr lo n).stop i H ∧ D.nx σ H) ∨ ((Itr lo n).go i H ∧ ∃ N : St → Hp → Prop, (∀ σ' H', N σ' H' → ∃ m', m' < m ∧ W (i + 1) m' σ' H') ∧ ∀ x H', (Itr lo n).yld i H x H' → g x σ H' fun σ2 H2 => tb { D with nx := N, ct := N, bk := D.nx } σ2 H2) := by
  refine ⟨fun i m σ H => m = n - i ∧ i ≤ n ∧ Pv i σ H, ⟨n, by simp, Nat.zero_le _, h0⟩, ?_⟩
  rintro i m σ H ⟨rfl, hi, p⟩
  by_cases hlt : i < n
  · refine .inr ⟨hlt, Pv (i + 1), fun σ' H' p' => ⟨n - (i + 1), by omega, rfl, hlt, p'⟩, fun x H' y => ?_⟩
    obtain ⟨e, y⟩ := y
    subst e y
    exact hs i σ _ hlt p
  · have e : i = n := by omega
    subst e
    exact .inl ⟨Nat.le_refl _, hd σ H p⟩
end L2
namespace L2
open PySem PySem.Spec PyProof.Rows
abbrev R2 := V → V → Hp → VK → Prop
def OpR (X : Cx) (f : Value → Value → Sem Value) (r : R2) : Prop :=
  ∀ (pins : List (Addr × Obj)) (s : Shared) (σ : St) (H : Hp) (x y : V) (v u : Value) (Q : VK), Inv X pins σ H s → RelV x v → RelV y u → r x y H Q →
    wpAny (model X.prog X.w) X.A (f v u) (EP X pins σ Q) X.xe s
def UnR (X : Cx) (f : Value → Sem Value) (r : V → Hp → VK → Prop) : Prop :=
  ∀ (pins : List (Addr × Obj)) (s : Shared) (σ : St) (H : Hp) (x : V) (v : Value) (Q : VK), Inv X pins σ H s → RelV x v → r x H Q →
    wpAny (model X.prog X.w) X.A (f v) (EP X pins σ Q) X.xe s
def CallR (X : Cx) (f : Value) (r : List V → Hp → VK → Prop) : Prop :=
  ∀ (pins : List (Addr × Obj)) (s : Shared) (σ : St) (H : Hp) (xs : List V) (us : List Value) (Q : VK), Inv X pins σ H s → Vals xs us → r xs H Q →
    wpAny (model X.prog X.w) X.A (call f us) (EP X pins σ Q) X.xe s
def tOp (r : R2) (ta tb : TE) : TE := fun σ H Q => ta σ H fun x H1 => tb σ H1 fun y H2 => r x y H2 Q
def tUn (r : V → Hp → VK → Prop) (ta : TE) : TE := fun σ H Q => ta σ H fun x H1 => r x H1 Q
def rI (C : Int → Int → Prop) (g : Int → Int → V) : R2 := fun x y H Q => ∃ i j, x = .int i ∧ y = .int j ∧ C i j ∧ Q (g i j) H
def rI0 (g : Int → Int → V) : R2 := fun x y H Q => ∃ i j, x = .int i ∧ y = .int j ∧ Q (g i j) H
def rU (g : Int → V) : V → Hp → VK → Prop := fun x H Q => ∃ i, x = .int i ∧ Q (g i) H
section
variable {X : Cx} {a b c : Expr} {ta tb tc : TE} {pos : Pos}
theorem binT (ha : PE X a ta) (hb : PE X b tb) {pins : List (Addr × Obj)} {s : Shared} {σ : St} {H : Hp} {R : V → V → Hp → Prop} (I : Inv X pins σ H s)
    (h : ta σ H fun x H1 => tb σ H1 fun y H2 => R x y H2) {Q : Value → Shared → Prop} {f : Value → Value → Sem Value}
    (hf : ∀ v u s2 x y H2, Inv X pins σ H2 s2 → RelV x v → RelV y u → R x y H2 → wpAny (model X.prog X.w) X.A (f v u) Q X.xe s2) :
    wpAny (model X.prog X.w) X.A (eval a X.env) (fun v s₁ => wpAny (model X.prog X.w) X.A (eval b X.env) (fun u s₂ => wpAny (model X.prog X.w) X.A (f v u) Q X.xe s₂) X.xe s₁) X.xe s := by
  refine thn (ha pins s σ H _ I h) fun v s1 ⟨x, H1, I1, r1, q1⟩ => ?_
  refine thn (hb pins s1 σ H1 _ I1 q1) fun u s2 ⟨y, H2, I2, r2, q2⟩ => ?_
  exact hf v u s2 x y H2 I2 r1 r2 q2
theorem pe_op {op : Operator} {r : R2} (ho : OpR X (binaryOp op) r) (ha : PE X a ta) (hb : PE X b tb) : PE X (.BinOp a op b pos) (tOp r ta tb) := by
  intro pins s σ H Q I h
  exact wpAny_BinOp (binT ha hb I h fun v u s2 x y H2 I2 rx ry q => ho pins s2 σ H2 x y v u Q I2 rx ry q)
theorem pe_un {op : UnaryOp} {r : V → Hp → VK → Prop} (ho : UnR X (unaryOp op) r) (ha : PE X a ta) : PE X (.UnaryOp op a pos) (tUn r ta) := by
  intro pins s σ H Q I h
  exact UnaryOp_ (thn (ha pins s σ H _ I h) fun v s1 ⟨x, H1, I1, r1, q1⟩ => ho pins s1 σ H1 x v Q I1 r1 q1)
theorem opI {f : Value → Value → Sem Value} {C : Int → Int → Prop} {g : Int → Int → Int}
    (rule : ∀ (i j : Int) (t u : Tok) (s : Shared) (Q : Value → Shared → Prop) (E : Value → Shared → Prop), C i j → Q (.int (g i j) s.toks) { s with toks := s.toks + 1 } → wpAny (model X.prog X.w) X.A (f (.int i t) (.int j u)) Q E s) :
    OpR X f (rI C fun i j => .int (g i j)) := by
  intro pins s σ H x y v u Q I rx ry h
  obtain ⟨i, j, rfl, rfl, hc, q⟩ := h
  obtain ⟨t, rfl⟩ := rx
  obtain ⟨t', rfl⟩ := ry
  exact rule i j t t' s _ _ hc ⟨.int (g i j), H, I.tok _, ⟨_, rfl⟩, q⟩
theorem opI0 {f : Value → Value → Sem Value} {g : Int → Int → Int}
    (rule : ∀ (i j : Int) (t u : Tok) (s : Shared) (Q : Value → Shared → Prop) (E : Value → Shared → Prop), Q (.int (g i j) s.toks) { s with toks := s.toks + 1 } → wpAny (model X.prog X.w) X.A (f (.int i t) (.int j u)) Q E s) :
    OpR X f (rI0 fun i j => .int (g i j)) := by
  intro pins s σ H x y v u Q I rx ry h
  obtain ⟨i, j, rfl, rfl, q⟩ := h
  obtain ⟨t, rfl⟩ := rx
  obtain ⟨t', rfl⟩ := ry
  exact rule i j t t' s _ _ ⟨.int (g i j), H, I.tok _, ⟨_, rfl⟩, q⟩
theorem opB0 {f : Value → Value → Sem Value} {g : Int → Int → Bool}
    (rule : ∀ (i j : Int) (t u : Tok) (s : Shared) (Q : Value → Shared → Prop) (E : Value → Shared → Prop), Q (.bool (g i j)) s → wpAny (model X.prog X.w) X.A (f (.int i t) (.int j u)) Q E s) :
    OpR X f (rI0 fun i j => .bl (g i j)) := by
  intro pins s σ H x y v u Q I rx ry h
  obtain ⟨i, j, rfl, rfl, q⟩ := h
  obtain ⟨t, rfl⟩ := rx
  obtain ⟨t', rfl⟩ := ry
  exact rule i j t t' s _ _ ⟨.bl (g i j), H, I, rfl, q⟩
def CDiv (i j : Int) : Prop := 0 < j ∧ j < 1073741824
def CPow (i j : Int) : Prop := 0 ≤ j ∧ j ≤ 1000000 ∧ i.natAbs < 2 ^ 64
def CMul (i j : Int) : Prop := (-(2 ^ 64) < i ∧ i < 2 ^ 64) ∨ (-(2 ^ 64) < j ∧ j < 2 ^ 64)
theorem CMul.ok {i j : Int} (h : CMul i j) : IntMulOk i j := by
  rcases h with ⟨h1, h2⟩ | ⟨h1, h2⟩
  · exact .of_left (intBits_le_64 h1 h2)
  · exact .of_right (intBits_le_64 h1 h2)
theorem op_add : OpR X (binaryOp .Add) (rI0 fun i j => .int (i + j)) := opI0 fun _ _ _ _ _ _ _ q => add_int q
theorem op_sub : OpR X (binaryOp .Sub) (rI0 fun i j => .int (i - j)) := opI0 fun _ _ _ _ _ _ _ q => sub_int q
theorem op_mul : OpR X (binaryOp .Mult) (rI CMul fun i j => .int (i * j)) := opI fun _ _ _ _ _ _ _ hc q => mul_int q hc.ok
theorem op_fdiv : OpR X (binaryOp .FloorDiv) (rI CDiv fun i j => .int (i / j)) := opI fun i j _ _ _ _ _ hc q => by
  have h1 : (0 : Int) < j := hc.1
  have h2 : j < 1073741824 := hc.2
  exact floordiv_int (by omega) (by rw [Int.fdiv_eq_ediv_of_nonneg i (by omega)]; exact q) (.inl (PyProof.noPylong_small (by omega)))
theorem op_mod : OpR X (binaryOp .Mod) (rI (fun _ j => 0 < j) fun i j => .int (i % j)) := opI fun i j _ _ _ _ _ hc q => by
  have h1 : (0 : Int) < j := hc
  exact mod_int' (by omega) (by rw [Int.fmod_eq_emod_of_nonneg i (by omega)]; exact q)
theorem op_pow : OpR X (binaryOp .Pow) (rI CPow fun i j => .int (i ^ j.toNat)) := opI fun _ _ _ _ _ _ _ hc q => pow_int_small hc.1 hc.2.1 hc.2.2 q
theorem unI {f : Value → Sem Value} {g : Int → Int}
    (rule : ∀ (i : Int) (t : Tok) (s : Shared) (Q : Value → Shared → Prop) (E : Value → Shared → Prop), Q (.int (g i) s.toks) { s with toks := s.toks + 1 } → wpAny (model X.prog X.w) X.A (f (.int i t)) Q E s) :
    UnR X f (rU fun i => .int (g i)) := by
  intro pins s σ H x v Q I rx h
  obtain ⟨i, rfl, q⟩ := h
  obtain ⟨t, rfl⟩ := rx
  exact rule i t s _ _ ⟨.int (g i), H, I.tok _, ⟨_, rfl⟩, q⟩
theorem un_neg : UnR X (unaryOp .USub) (rU fun i => .int (-i)) := unI fun _ _ _ _ _ q => neg_int q
end
def scal : V → V → Bool
  | .non, .non => true | .non, .int _ => true | .int _, .non => true | .non, .bl _ => true | .bl _, .non => true | .non, .str _ => true | .str _, .non => true
  | .int _, .int _ => true | .bl _, .bl _ => true | .str _, .str _ => true | .byt _, .byt _ => true
  | .int _, .str _ => true | .str _, .int _ => true | .bl _, .str _ => true | .str _, .bl _ => true
  | _, _ => false
def rEq : R2 := fun x y H Q => scal x y = true ∧ Q (.bl (decide (x = y))) H
def rNe : R2 := fun x y H Q => scal x y = true ∧ Q (.bl (!decide (x = y))) H
theorem dec_int {i j : Int} : decide (V.int i = V.int j) = (i == j) := by
  rw [Bool.eq_iff_iff]
  simp
theorem dec_bl {i j : Bool} : decide (V.bl i = V.bl j) = (i == j) := by
  rw [Bool.eq_iff_iff]
  simp
theorem dec_str {i j : Str} : decide (V.str i = V.str j) = (i == j) := by
  rw [Bool.eq_iff_iff]
  simp
theorem dec_byt {i j : Array UInt8} : decide (V.byt i = V.byt j) = (i.toList == j.toList) := by
  rw [Bool.eq_iff_iff]
  cases i
  cases j
  simp
section
variable {X : Cx} {a b c : Expr} {ta tb tc : TE} {pos : Pos}
theorem fin_bl {pins : List (Addr × Obj)} {σ : St} {H : Hp} {s : Shared} {Q : VK} {k k' : Bool} (I : Inv X pins σ H s) (q : Q (.bl k) H) (e : k = k') : EP X pins σ Q (.bool k') s := by
  subst e
  exact ⟨.bl k, H, I, rfl, q⟩
theorem op_eq : OpR X (compareOp .Eq) rEq := by
  intro pins s σ H x y v u Q I rx ry h
  obtain ⟨hs, q⟩ := h
  cases x with
  | non =>
    cases rx
    cases y with
    | non => cases ry; exact PySem.EqNone.eq_none_none (fin_bl I q (by simp))
    | bl j => cases ry; exact PySem.EqNone.eq_none_bool (fin_bl I q (by simp))
    | int j => obtain ⟨t', rfl⟩ := ry; exact PySem.EqNone.eq_none_int (fin_bl I q (by simp))
    | str j => obtain ⟨t', rfl⟩ := ry; exact PySem.EqNone.eq_none_str (fin_bl I q (by simp))
    | _ => exact absurd (show false = true from hs) Bool.false_ne_true
  | bl i =>
    cases rx
    cases y with
    | non => cases ry; exact PySem.EqNone.eq_bool_none (fin_bl I q (by simp))
    | bl j => cases ry; exact eq_bool (fin_bl I q dec_bl)
    | str j => obtain ⟨t', rfl⟩ := ry; exact PySem.EqMixed.eq_bool_str (fin_bl I q (by simp))
    | _ => exact absurd (show false = true from hs) Bool.false_ne_true
  | int i =>
    obtain ⟨t, rfl⟩ := rx
    cases y with
    | non => cases ry; exact PySem.EqNone.eq_int_none (fin_bl I q (by simp))
    | int j => obtain ⟨t', rfl⟩ := ry; exact eq_int (fin_bl I q dec_int)
    | str j => obtain ⟨t', rfl⟩ := ry; exact PySem.EqMixed.eq_int_str (fin_bl I q (by simp))
    | _ => exact absurd (show false = true from hs) Bool.false_ne_true
  | str i =>
    obtain ⟨t, rfl⟩ := rx
    cases y with
    | non => cases ry; exact PySem.EqNone.eq_str_none (fin_bl I q (by simp))
    | bl j => cases ry; exact PySem.EqMixed.eq_str_bool (fin_bl I q (by simp))
    | int j => obtain ⟨t', rfl⟩ := ry; exact PySem.EqMixed.eq_str_int (fin_bl I q (by simp))
    | str j => obtain ⟨t', rfl⟩ := ry; exact eq_str (fin_bl I q dec_str)
    | _ => exact absurd (show false = true from hs) Bool.false_ne_true
  | byt i =>
    obtain ⟨t, rfl⟩ := rx
    cases y with
    | byt j => obtain ⟨t', rfl⟩ := ry; exact PySem.W.eq_bytes (fin_bl I q dec_byt)
    | _ => exact absurd (show false = true from hs) Bool.false_ne_true
  | _ => cases y <;> exact absurd (show false = true from hs) Bool.false_ne_true
theorem op_ne : OpR X (compareOp .NotEq) rNe := by
  intro pins s σ H x y v u Q I rx ry h
  obtain ⟨hs, q⟩ := h
  cases x with
  | non =>
    cases rx
    cases y with
    | non => cases ry; exact PySem.EqNone.ne_none_none (fin_bl I q (by simp))
    | bl j => cases ry; exact PySem.EqNone.ne_none_bool (fin_bl I q (by simp))
    | int j => obtain ⟨t', rfl⟩ := ry; exact PySem.EqNone.ne_none_int (fin_bl I q (by simp))
    | str j => obtain ⟨t', rfl⟩ := ry; exact PySem.EqNone.ne_none_str (fin_bl I q (by simp))
    | _ => exact absurd (show false = true from hs) Bool.false_ne_true
  | bl i =>
    cases rx
    cases y with
    | non => cases ry; exact PySem.EqNone.ne_bool_none (fin_bl I q (by simp))
    | bl j => cases ry; exact ne_bool (fin_bl I q (congrArg not dec_bl))
    | str j => obtain ⟨t', rfl⟩ := ry; exact PySem.EqMixed.ne_bool_str (fin_bl I q (by simp))
    | _ => exact absurd (show false = true from hs) Bool.false_ne_true
  | int i =>
    obtain ⟨t, rfl⟩ := rx
    cases y with
    | non => cases ry; exact PySem.EqNone.ne_int_none (fin_bl I q (by simp))
    | int j => obtain ⟨t', rfl⟩ := ry; exact ne_int (fin_bl I q (congrArg not dec_int))
    | str j => obtain ⟨t', rfl⟩ := ry; exact PySem.EqMixed.ne_int_str (fin_bl I q (by simp))
    | _ => exact absurd (show false = true from hs) Bool.false_ne_true
  | str i =>
    obtain ⟨t, rfl⟩ := rx
    cases y with
    | non => cases ry; exact PySem.EqNone.ne_str_none (fin_bl I q (by simp))
    | bl j => cases ry; exact PySem.EqMixed.ne_str_bool (fin_bl I q (by simp))
    | int j => obtain ⟨t', rfl⟩ := ry; exact PySem.EqMixed.ne_str_int (fin_bl I q (by simp))
    | str j => obtain ⟨t', rfl⟩ := ry; exact ne_str (fin_bl I q (congrArg not dec_str))
    | _ => exact absurd (show false = true from hs) Bool.false_ne_true
  | byt i =>
    obtain ⟨t, rfl⟩ := rx
    cases y with
    | byt j => obtain ⟨t', rfl⟩ := ry; exact PySem.W.ne_bytes (fin_bl I q (congrArg not dec_byt))
    | _ => exact absurd (show false = true from hs) Bool.false_ne_true
  | _ => cases y <;> exact absurd (show false = true from hs) Bool.false_ne_true
theorem op_lt : OpR X (compareOp .Lt) (rI0 fun i j => .bl (decide (i < j))) := opB0 fun _ _ _ _ _ _ _ q => lt_int q
theorem op_le : OpR X (compareOp .LtE) (rI0 fun i j => .bl (decide (i ≤ j))) := opB0 fun _ _ _ _ _ _ _ q => le_int q
theorem op_gt : OpR X (compareOp .Gt) (rI0 fun i j => .bl (decide (j < i))) := opB0 fun _ _ _ _ _ _ _ q => gt_int q
theorem op_in_str : OpR X (compareOp .In) (fun x y H Q => ∃ i j, x = .str i ∧ y = .str j ∧ Q (.bl (!(Builtin.Str.occurrences j i 0 j.length 1).isEmpty)) H) := by
  intro pins s σ H x y v u Q I rx ry h
  obtain ⟨i, j, rfl, rfl, q⟩ := h
  obtain ⟨t, rfl⟩ := rx
  obtain ⟨t', rfl⟩ := ry
  exact in_str (fin_bl I q rfl)
theorem op_isN : OpR X (compareOp .Is) (fun x y H Q => y = .non ∧ Q (.bl (decide (x = .non))) H) := by
  intro pins s σ H x y v u Q I rx ry h
  obtain ⟨rfl, q⟩ := h
  cases ry
  refine is_none_gen (fin_bl I q ?_)
  cases x <;> first
    | (cases rx; rfl)
    | (obtain ⟨t, rfl⟩ := rx; rfl)
theorem op_notN : OpR X (compareOp .IsNot) (fun x y H Q => y = .non ∧ Q (.bl (!decide (x = .non))) H) := by
  intro pins s σ H x y v u Q I rx ry h
  obtain ⟨rfl, q⟩ := h
  cases ry
  refine isnot_none_gen (fin_bl I q ?_)
  cases x <;> first
    | (cases rx; rfl)
    | (obtain ⟨t, rfl⟩ := rx; rfl)
theorem nomark (b : Expr) {op : CmpOp} (h : op ≠ .In := by decide) (h2 : op ≠ .NotIn := by decide) : behindInMarks op b = false := by
  have e1 : (op == CmpOp.In) = false := by cases op <;> first | rfl | exact absurd rfl h
  have e2 : (op == CmpOp.NotIn) = false := by cases op <;> first | rfl | exact absurd rfl h2
  cases b <;> simp [behindInMarks, e1, e2]
theorem pe_cmpR {op : CmpOp} {r : R2} (ho : OpR X (compareOp op) r) (ha : PE X a ta) (hb : PE X b tb) (hm : behindInMarks op b = false) : PE X (.Compare a [op] [b] pos) (tOp r ta tb) := by
  intro pins s σ H Q I h
  exact wpAny_Compare1 (binT ha hb I h fun v u s2 x y H2 I2 rx ry q => ho pins s2 σ H2 x y v u Q I2 rx ry q) hm
def tTest (t : TE) : TT := fun σ H Q => t σ H fun x H' => ∃ k, x = .bl k ∧ Q k H'
theorem pt_cmpR {op : CmpOp} {r : R2} (ho : OpR X (compareOp op) r) (ha : PE X a ta) (hb : PE X b tb) (hm : behindInMarks op b = false) : PT X (.Compare a [op] [b] pos) (tTest (tOp r ta tb)) := by
  intro pins s σ H Q I h
  refine wpAny_isTrue_Compare1 (thn (ha pins s σ H _ I h) fun v s1 ⟨x, H1, I1, r1, q1⟩ => thn (hb pins s1 σ H1 _ I1 q1) fun u s2 ⟨y, H2, I2, r2, q2⟩ =>
    thn (ho pins s2 σ H2 x y v u _ I2 r1 r2 q2) fun c s3 ⟨z, H3, I3, r3, k, e, q3⟩ => ?_) hm
  subst e
  cases r3
  exact wpAny_truthy_bool ⟨H3, I3, q3⟩
def tChain (r r' : R2) (ta tb tc : TE) : TE := fun σ H Q => ta σ H fun x H1 => tb σ H1 fun y H2 => r x y H2 fun z H3 => ∃ k, z = .bl k ∧
  (if k = true then tc σ H3 fun w' H4 => r' y w' H4 Q else Q (.bl false) H3)
theorem pt_chain {op op' : CmpOp} {r r' : R2} (ho : OpR X (compareOp op) r) (ho' : OpR X (compareOp op') r') (ha : PE X a ta) (hb : PE X b tb) (hc : PE X c tc)
    (hm : lastMarks [op, op'] [b, c] = false := by with_unfolding_all rfl) : PT X (.Compare a [op, op'] [b, c] pos) (tTest (tChain r r' ta tb tc)) := by
  intro pins s σ H Q I h
  refine isTrue_chain (thn (ha pins s σ H _ I h) fun v s1 ⟨x, H1, I1, r1, q1⟩ => test_link (thn (hb pins s1 σ H1 _ I1 q1) fun u s2 ⟨y, H2, I2, r2, q2⟩ =>
    thn (ho pins s2 σ H2 x y v u _ I2 r1 r2 q2) fun d s3 ⟨z, H3, I3, r3, k, e, q3⟩ => ?_)) hm
  subst e
  cases r3
  refine wpAny_truthy_bool ?_
  cases k with
  | false =>
    obtain ⟨k', e', q'⟩ := q3
    cases e'
    exact ite_ff ⟨H3, I3, q'⟩
  | true =>
    refine ite_tt (test_last (thn (hc pins s3 σ H3 _ I3 q3) fun w' s4 ⟨z', H4, I4, r4, q4⟩ => thn (ho' pins s4 σ H4 y z' u w' _ I4 r2 r4 q4) fun d' s5 ⟨z2, H5, I5, r5, k2, e2, q5⟩ => ?_))
    subst e2
    cases r5
    exact wpAny_truthy_bool ⟨H5, I5, q5⟩
theorem line63 : (sizeLine : Nat) < 2 ^ 63 := by rw [sizeLine_eq]; decide
theorem op_add_str : OpR X (binaryOp .Add) (fun x y H Q => ∃ i j, x = .str i ∧ y = .str j ∧ i.length + j.length ≤ sizeLine ∧ Q (.str (i ++ j)) H) := by
  intro pins s σ H x y v u Q I rx ry h
  obtain ⟨i, j, rfl, rfl, hz, q⟩ := h
  obtain ⟨t, rfl⟩ := rx
  obtain ⟨t', rfl⟩ := ry
  exact add_str (fun t' tk => ⟨.str (i ++ j), H, I.tok _, ⟨_, rfl⟩, q⟩) hz
theorem vals1 {x : V} {us : List Value} (r : Vals [x] us) : ∃ u, us = [u] ∧ RelV x u := by
  cases r with
  | cons r1 r2 => cases r2; exact ⟨_, rfl, r1⟩
theorem vals2 {x y : V} {us : List Value} (r : Vals [x, y] us) : ∃ u w', us = [u, w'] ∧ RelV x u ∧ RelV y w' := by
  cases r with
  | cons r1 r2 =>
    cases r2 with
    | cons r3 r4 => cases r4; exact ⟨_, _, rfl, r1, r3⟩
def LenV (K : PySem.W.Frag) (x : V) (H : Hp) (n : Nat) : Prop :=
  match x with
  | .str y => y.length ≤ sizeLine ∧ n = y.length
  | .byt y => y.size ≤ sizeLine ∧ n = y.size
  | .ref p => (∃ xs, SqL K H p xs ∧ n = xs.length) ∨ ∃ xs, SqT K H p xs ∧ n = xs.length
  | _ => False
theorem call_len : CallR X (.builtin "len") (fun xs H Q => ∃ x n, xs = [x] ∧ LenV X.K x H n ∧ Q (.int n) H) := by
  intro pins s σ H xs us Q I r h
  obtain ⟨x, n, rfl, e, q⟩ := h
  obtain ⟨u, rfl, rx⟩ := vals1 r
  have hl := line63
  have hs : sizeLine = 16777216 := sizeLine_eq
  cases x with
  | str y =>
    obtain ⟨t, rfl⟩ := rx
    obtain ⟨hy, e'⟩ : y.length ≤ sizeLine ∧ n = y.length := e
    subst e'
    exact len_str (by omega) ⟨.int _, H, I.tok _, ⟨_, rfl⟩, q⟩
  | byt y =>
    obtain ⟨t, rfl⟩ := rx
    obtain ⟨hy, e'⟩ : y.size ≤ sizeLine ∧ n = y.size := e
    subst e'
    exact PySem.W.len_bytes (by omega) ⟨.int _, H, I.tok _, ⟨_, rfl⟩, q⟩
  | ref p =>
    cases rx
    have e' : (∃ xs, SqL X.K H p xs ∧ n = xs.length) ∨ ∃ xs, SqT X.K H p xs ∧ n = xs.length := e
    rcases e' with ⟨xs, hx, e'⟩ | ⟨xs, hx, e'⟩
    · subst e'
      obtain ⟨its, r', pl, hz⟩ := I.list hx
      have hlen := r'.length
      exact Calls.call_len_list pl.isList (by simp only [List.size_toArray]; omega) ⟨.int xs.length, H, I.tok _, ⟨_, by simp only [List.size_toArray]; rw [hlen]⟩, q⟩
    · subst e'
      obtain ⟨its, r', pl, hz⟩ := I.tuple hx
      have hlen := r'.length
      exact len_tuple pl (by simp only [List.size_toArray]; omega) ⟨.int xs.length, H, I.tok _, ⟨_, by simp only [List.size_toArray]; rw [hlen]⟩, q⟩
  | _ => exact (show False from e).elim
end
end L2
namespace L2
open PySem PySem.Spec PyProof.Rows
structure ObjM (h : Heap) (x dx C : Addr) (mA : Str → Option Value) : Prop where
  obj : h.get? x = some (PySem.W.instObj C dx)
  ns : h.Ns1 dx mA
  ne : dx ≠ x
section
variable {prog : Program} {w : World} {A : Around} {E : Value → Shared → Prop} {s : Shared} {K : PySem.W.Frag} {x dx C f : Addr} {mA : Str → Option Value} {name : Str} {v : Value}
end
section
variable {P : Program} {w : World} {H H' : Hp} {h h' : Heap} {a C dx : Addr} {fs fs' : List (Str × V)}
end
structure Cls (K : PySem.W.Frag) (C : Addr) : Prop where
  pg : PySem.W.plainGet K C Str.empty = true
  hd : PySem.W.hasDictIn K C = true
  po : PySem.W.plainOver K C = true
  sa : PySem.W.findIn K (.ref C) "__setattr__" = some (some (.builtin "object.__setattr__"))
theorem Cls.get {K : PySem.W.Frag} {C : Addr} (c : Cls K C) (f : Str) : PySem.W.plainGet K C f = true := c.pg
structure Con (K : PySem.W.Frag) (C : Addr) (f : Str) (v : V) (u : Value) : Prop where
  at_ : PySem.W.findIn K (.ref C) f = some (some u)
  rel : RelV v u
  get : PySem.W.specialIn K u "__get__" = some none
  cp : PySem.W.copiedNames.contains f = false
structure Meth (K : PySem.W.Frag) (C : Addr) (m : Str) (f : Addr) : Prop where
  at_ : PySem.W.findIn K (.ref C) m = some (some (.ref f))
  fn : PySem.W.isFn K (.ref f) = true
  kp : PySem.W.keepIn K (.ref f) = true
section
variable {X : Cx} {pins : List (Addr × Obj)} {σ : St} {H : Hp} {s : Shared} {a C dx : Addr} {fs : List (Str × V)} {f : Str} {v : V} {A : Around} {E : Value → Shared → Prop}
end
section
variable {X : Cx} {o e value : Expr} {f : Str} {pos pos' tpos : Pos} {ta tv : TE}
end
section
variable {X : Cx} {pins : List (Addr × Obj)} {σ : St} {H : Hp} {s : Shared} {A : Around} {E : Value → Shared → Prop} {Q : Value → Shared → Prop} {c : Value} {b : Bool}
inductive TyOf (K : PySem.W.Frag) (H : Hp) : V → Value → Prop where
  | non : TyOf K H .non (.type "NoneType")
  | bl (x : Bool) : TyOf K H (.bl x) (.type "bool")
  | int (i : Int) : TyOf K H (.int i) (.type "int")
  | str (x : Str) : TyOf K H (.str x) (.type "str")
  | flt (x : UInt64) : TyOf K H (.flt x) (.type "float")
  | lst {a : Addr} {xs : List V} (e : H a = some (.lst xs)) : TyOf K H (.ref a) (.type "list")
  | frz {a : Addr} {o : Obj} {xs : List V} (e : H a = some (.frz o (.lst xs))) : TyOf K H (.ref a) (.type "list")
  | tup {a : Addr} {xs : List V} (e : H a = some (.tup xs)) : TyOf K H (.ref a) (.type "tuple")
  | dK {a : Addr} {kvs : List (Key × V)} (e : H a = some (.dK kvs)) : TyOf K H (.ref a) (.type "dict")
  | dT {a : Addr} {kvs : List (List Key × V)} (e : H a = some (.dT kvs)) : TyOf K H (.ref a) (.type "dict")
  | ins {a C dx : Addr} {fs : List (Str × V)} (e : H a = some (.ins C dx fs)) (cl : Cls K C) (ha : PySem.W.findIn K (.ref C) "__class__" = some (some (.builtin "object.__class__")))
      (hn : PySem.W.specialIn K (.builtin "object.__class__") "__get__" = some (some (.builtin "getset_descriptor.__get__"))) (htk : PySem.W.takesIn K (.builtin "object.__class__") = some true)
      (hm : PySem.W.mroIn K C (.type "object") = some true) : TyOf K H (.ref a) (.ref C)
end
end L2
namespace L2
open PySem PySem.Spec PyProof.Rows
structure Room (k : Nat) (A : Around) : Prop where
  hd : A.handled = none
  dp : A.depth + 3 * k + 5 < recursionLimit
  un : A.units + 16 * k + 200 < cLine
theorem Room.mono {j k : Nat} {A : Around} (r : Room k A) (h : j ≤ k) : Room j A := ⟨r.hd, by have := r.dp; omega, by have := r.un; omega⟩
theorem Room.deeper {k : Nat} {A : Around} (r : Room (k + 1) A) (env : Env) : Room k (A.deeper env) :=
  ⟨r.hd, by have := r.dp; show A.depth + 1 + 3 * k + 5 < _; omega, by have := r.un; show A.units + 3 + 16 * k + 200 < _; omega⟩
theorem Room.in1 {k : Nat} {A : Around} (r : Room (k + 1) A) : Room k A.in1 :=
  ⟨r.hd, by have := r.dp; show A.depth + 3 * k + 5 < _; omega, by have := r.un; show A.units + 1 + 16 * k + 200 < _; omega⟩
theorem Room.depth {k : Nat} {A : Around} (r : Room k A) : A.depth < recursionLimit := by have := r.dp; omega
theorem Room.units {k : Nat} {A : Around} (r : Room k A) : A.units + 64 < cLine := by have := r.un; omega
def tNil : TA := fun _ H Q => Q [] H
def tCons (ta : TE) (tr : TA) : TA := fun σ H Q => ta σ H fun x H1 => tr σ H1 fun xs H2 => Q (x :: xs) H2
section
variable {X : Cx} {e : Expr} {es : List Expr} {te : TE} {t : TA} {pos : Pos}
theorem pa_nil : PA X [] tNil := fun _ _ _ _ H Q I h => Calls.spliced_nil ⟨[], H, I, .nil, h⟩
theorem pa_cons (ha : PE X e te) (hr : PA X es t) (hs : starEach (e :: es) X.env = (false, eval e X.env) :: starEach es X.env := by rfl) : PA X (e :: es) (tCons te t) := by
  intro pos pins s σ H Q I h
  rw [hs]
  show wpAny _ _ (spliced ((false, eval e X.env) :: backTo pos (starEach es X.env))) _ _ s
  refine Calls.spliced_cons (thn (ha pins s σ H _ I h) fun u s1 ⟨x, H1, I1, r1, q1⟩ => ?_)
  exact thn (hr pos pins s1 σ H1 _ I1 q1) fun us s2 ⟨xs, H2, I2, r2, q2⟩ => ⟨x :: xs, H2, I2, .cons r1 r2, q2⟩
def tTup (t : TA) : TE := fun σ H Q => t σ H fun xs H1 => xs.length ≤ sizeLine ∧ ∀ p, H1 p = none → Q (.ref p) (upd H1 p (.tup xs))
def tLst (t : TA) : TE := fun σ H Q => t σ H fun xs H1 => xs.length ≤ sizeLine ∧ ∀ p, H1 p = none → Q (.ref p) (upd H1 p (.lst xs))
theorem pe_tup {x1} (h : PA X es t) : PE X (.Tuple es x1 pos) (tTup t) := by
  intro pins s σ H Q I hq
  refine wpAny_Tuple_spliced (thn (h pos pins s σ H _ I hq) fun us s1 ⟨xs, H1, I1, r, z, q⟩ => ⟨by rw [← r.length]; exact z, ?_⟩)
  have hf : H1 s1.heap.objs.size = none := I1.hok.fresh (Nat.le_refl _)
  refine ⟨.ref s1.heap.objs.size, upd H1 s1.heap.objs.size (.tup xs), I1.laid (t' := s1.toks) (fun b u e => Heap.get?_push_of_some _ e) (Nat.le_refl _) ?_, rfl, q _ hf⟩
  exact ⟨z, us, r, ⟨_, Heap.get?_push_size _ rfl, rfl, _, rfl⟩⟩
theorem pe_lst (h : PA X es t) : PE X (.List es pos) (tLst t) := by
  intro pins s σ H Q I hq
  refine wpAny_List_spliced (thn (h pos pins s σ H _ I hq) fun us s1 ⟨xs, H1, I1, r, z, q⟩ => ⟨by rw [← r.length]; exact z, ?_⟩)
  have hf : H1 s1.heap.objs.size = none := I1.hok.fresh (Nat.le_refl _)
  refine ⟨.ref s1.heap.objs.size, upd H1 s1.heap.objs.size (.lst xs), I1.laid (t' := s1.toks) (fun b u e => Heap.get?_push_of_some _ e) (Nat.le_refl _) ?_, rfl, q _ hf⟩
  exact ⟨z, us, 0, r, Heap.get?_push_size _ rfl⟩
end
abbrev Sp := List V → Hp → VK → XK → Prop
abbrev CXT := List Env → Hp → Shared → XK → Value → Shared → Prop
structure Env0 (P : Program) (w : World) (K : PySem.W.Frag) (mg : Str → Option Value) (base : Heap) (A : Around) (outer : List Env) (s : Shared) (H : Hp) : Prop where
  frames : A.frames = some outer
  mod : Mod K mg base
  bs : ∀ b o, base.get? b = some o → s.heap.get? b = some o ∧ H b = none
  bsz : base.objs.size ≤ s.heap.objs.size
  funs : s.heap.FunFrames base outer
  frf : ∀ b ∈ frs outer, H b = none
  hok : HOk P w H s.heap
  bare : AllBare s.gens
def CE (outer : List Env) (P : Program) (w : World) (H : Hp) (s : Shared) (Q : VK) (u : Value) (s' : Shared) : Prop :=
  ∃ v H', s'.os = s.os ∧ AllBare s'.gens ∧ Un (frs outer) [] H H' s.heap s'.heap ∧ HOk P w H' s'.heap ∧ RelV v u ∧ Q v H'
def CR (CX : CXT) (outer : List Env) (P : Program) (w : World) (H : Hp) (s : Shared) (Q : VK) (E : XK) (r : Result) (s' : Shared) : Prop :=
  match r with
  | .ok (.ret u) => CE outer P w H s Q u s'
  | .ok _ => False
  | .error e => CX outer H s E e s'
structure FnOk (P : Program) (w : World) (K : PySem.W.Frag) (mg : Str → Option Value) (base : Heap) (CX : CXT) (k : Nat) (f : Addr) (fd : FuncData) (ps : List Str) (sp : Sp) : Prop where
  len : ∀ vs H Q E, sp vs H Q E → vs.length = ps.length
  run : ∀ (A : Around) (outer : List Env) (s : Shared) (H : Hp) (args : Args) (us : List Value) (vs : List V) (Q : VK) (E : XK), Room k A → Env0 P w K mg base A outer s H → BindsTo s fd args (ps.zip us) → Vals vs us → sp vs H Q E →
    codeAny (model P w) A (.call (.ref f) args) (CR CX outer P w H s Q E) s
theorem FnOk.mono {P : Program} {w : World} {K : PySem.W.Frag} {mg : Str → Option Value} {base : Heap} {CX : CXT} {j k : Nat} {f : Addr} {fd : FuncData} {ps : List Str} {sp : Sp} (F : FnOk P w K mg base CX j f fd ps sp) (h : j ≤ k) :
    FnOk P w K mg base CX k f fd ps sp := ⟨F.len, fun A outer s H args us vs Q E hr => F.run A outer s H args us vs Q E (hr.mono h)⟩
theorem Env0.in1 {P : Program} {w : World} {K : PySem.W.Frag} {mg : Str → Option Value} {base : Heap} {A : Around} {outer : List Env} {s : Shared} {H : Hp} (e : Env0 P w K mg base A outer s H) :
    Env0 P w K mg base A.in1 outer s H := ⟨e.frames, e.mod, e.bs, e.bsz, e.funs, e.frf, e.hok, e.bare⟩
section
variable {X : Cx} {pins : List (Addr × Obj)} {σ : St} {H : Hp} {s s' : Shared}
theorem Inv.env0 (I : Inv X pins σ H s) : Env0 X.prog X.w X.K X.mg X.base X.A X.stack s H :=
  ⟨I.ok.frames, I.ok.mod, I.bs, Nat.le_trans I.ok.bsz I.sz, I.stack, I.stkFree, I.hok, I.bare⟩
theorem Inv.after {Q : VK} {u : Value} (I : Inv X pins σ H s) (h : CE X.stack X.prog X.w H s Q u s') : EP X pins σ Q u s' := by
  obtain ⟨v, H', os, bare, un, hok, r, q⟩ := h
  obtain ⟨hh, g, d, t, os'⟩ := s'
  obtain rfl : os' = s.os := os
  exact ⟨v, H', I.call (h' := hh) (g' := g) (d' := d) (t' := t) (ch := []) un hok bare (fun b z => absurd z (by simp)), r, q⟩
end
def tCall (sp : Sp) (dvs : List V) (E : XK) (t : TA) : TE := fun σ H Q => t σ H fun vs H1 => sp (vs ++ dvs) H1 Q E
def Binds (K : PySem.W.Frag) (fd : FuncData) (ps : List Str) (ds : List Value) : Prop :=
  ∀ (s : Shared) (us : List Value), K.In s.heap → (us ++ ds).length = ps.length → BindsTo s fd ⟨us, []⟩ (ps.zip (us ++ ds))
theorem Binds.all {K : PySem.W.Frag} {fd : FuncData} {ps : List Str} (h : ∀ us : List Value, us.length = ps.length → bindArgs fd ⟨us, []⟩ = pure (ps.zip us)) : Binds K fd ps [] := fun s us _ hl => by
  rw [List.append_nil] at hl ⊢
  exact .of_eq (h us hl)
def Passes (CX : CXT) (X : Cx) (E : XK) : Prop := ∀ (pins : List (Addr × Obj)) (σ : St) (H : Hp) (s : Shared) (e : Value) (s' : Shared), Inv X pins σ H s → CX X.stack H s E e s' → X.xe e s'
section
variable {X : Cx} {CX : CXT} {k : Nat} {f C : Addr} {fd : FuncData} {ps : List Str} {sp : Sp} {dvs : List V} {ds : List Value} {E : XK} {x m : Str} {p pos apos : Pos} {e o : Expr} {es : List Expr} {ta : TE} {t : TA}
theorem run_fn {pins : List (Addr × Obj)} {σ : St} {H : Hp} {s : Shared} {Q : VK} {us : List Value} {vs : List V} (F : FnOk X.prog X.w X.K X.mg X.base CX k f fd ps sp) (hr : Room k X.A) (hb : Binds X.K fd ps ds) (hd : Vals dvs ds) (hx : Passes CX X E)
    (I : Inv X pins σ H s) (r : Vals vs us) (h : sp (vs ++ dvs) H Q E) : wpAny (model X.prog X.w) X.A (call (.ref f) us) (EP X pins σ Q) X.xe s := by
  have r2 : Vals (vs ++ dvs) (us ++ ds) := r.append hd
  have hl : (us ++ ds).length = ps.length := by rw [← r2.length]; exact F.len _ _ _ _ h
  refine wpAny_call (codeAny_mono (F.run X.A X.stack s H ⟨us, []⟩ (us ++ ds) (vs ++ dvs) Q E hr I.env0 (hb s us I.kIn hl) r2 h) fun r s' hq => ?_)
  cases r with
  | error e => exact hx pins σ H s e s' I hq
  | ok fl =>
    cases fl with
    | ret u => exact I.after hq
    | next => exact False.elim hq
    | brk => exact False.elim hq
    | cont => exact False.elim hq
theorem pe_call (F : FnOk X.prog X.w X.K X.mg X.base CX k f fd ps sp) (hr : Room k X.A) (hg : Gl X x) (hm : X.mg x = some (.ref f)) (hk : PySem.W.keepIn X.K (.ref f) = true) (hb : Binds X.K fd ps ds) (hd : Vals dvs ds) (hx : Passes CX X E)
    (ha : PA X (e :: es) t) (hdb : (x == ("__debug__" : Str)) = false := by decide) (he : starEach (e :: es) X.env = (false, eval e X.env) :: starEach es X.env := by rfl) (hpl : (backTo pos (starEach es X.env)).any (·.1) = false := by rfl) :
    PE X (.Call (.Name x p) (e :: es) [] pos) (tCall sp dvs E t) := by
  intro pins s σ H Q I h
  refine wpAny_Call_Name_kw (ld_glob I hg hm ?_ hdb)
  refine PySem.W.callWith_K (h₀ := X.base) I.ok.mod.kin hk (thn (ha pos pins s σ H _ I h) fun us s1 ⟨vs, H1, I1, r, q⟩ => ⟨I1.kIn, ?_⟩) he hpl
  exact run_fn F hr hb hd hx I1 r q
structure Mk (K : PySem.W.Frag) (C f : Addr) : Prop where
  makes : PySem.W.makesIn K C = true
  init : PySem.W.findIn K (.ref C) "__init__" = some (some (.ref f))
  fn : PySem.W.isFn K (.ref f) = true
  kp : PySem.W.keepIn K (.ref C) = true
end
section
variable {X : Cx} {CX : CXT} {k : Nat} {f C : Addr} {fd : FuncData} {ps ks : List Str} {sp : Sp} {E : XK} {x m : Str} {p pos apos kpos : Pos} {e o : Expr} {es : List Expr} {kws : List Keyword} {te ta : TE} {t tk : TA} {nm : Option Str}
structure KBinds (K : PySem.W.Frag) (fd : FuncData) (ps ks : List Str) (g : List Value → List Value → List Value) (gV : List V → List V → List V) : Prop where
  to : ∀ (s : Shared) (us ws : List Value), K.In s.heap → (g us ws).length = ps.length → BindsTo s fd ⟨us, ks.zip ws⟩ (ps.zip (g us ws))
  rel : ∀ {vs : List V} {us : List Value} {zs : List V} {ws : List Value}, Vals vs us → Vals zs ws → Vals (gV vs zs) (g us ws)
variable {g : List Value → List Value → List Value} {gV : List V → List V → List V}
end
structure FnScope (N P : List Str) (sc : Scope) : Prop where
  kind : sc.kind = .function
  co : sc.isCoroutine = false
  gen : sc.isGenerator = false
  nd : N.Nodup
  pre : N.take P.length = P
  par : ∀ x ∈ P, sc.names.lookup x = some .local ∨ sc.names.lookup x = some .cell
  nofree : ∀ y ∈ sc.names, y.2 ≠ .free
theorem bindL_out {kindOf : Str → Option NameKind} {x : Str} : ∀ {binds : List (Str × Value)} {m : Str → Option Value}, (∀ v, (x, v) ∉ binds) → bindL kindOf binds m x = m x
  | [], _, _ => rfl
  | (n, v) :: r, m, h => by
    unfold bindL
    rw [bindL_out fun w hw => h w (List.mem_cons_of_mem _ hw)]
    split
    · have : x ≠ n := by rintro rfl; exact h v List.mem_cons_self
      simp [this]
    · rfl
theorem bindC_out {kindOf : Str → Option NameKind} {x : Str} : ∀ {binds : List (Str × Value)} {m : Str → Option Value}, (∀ v, (x, v) ∉ binds) → bindC kindOf binds m x = m x
  | [], _, _ => rfl
  | (n, v) :: r, m, h => by
    unfold bindC
    rw [bindC_out fun w hw => h w (List.mem_cons_of_mem _ hw)]
    split
    · rfl
    · have : x ≠ n := by rintro rfl; exact h v List.mem_cons_self
      simp [this]
theorem bindL_get {kindOf : Str → Option NameKind} {x : Str} {v : Value} : ∀ {P : List Str} {vs : List Value} {i : Nat} {m : Str → Option Value}, P.Nodup → P[i]? = some x → vs[i]? = some v → kindOf x = some .local →
    bindL kindOf (P.zip vs) m x = some v
  | [], _, _, _, _, h, _, _ => by simp at h
  | _ :: _, [], _, _, _, _, h, _ => by simp at h
  | p :: P, w :: vs, 0, m, nd, h1, h2, hk => by
    simp at h1 h2; subst h1; subst h2
    show bindL kindOf ((p, w) :: P.zip vs) m p = _
    unfold bindL
    rw [bindL_out fun v hv => (List.nodup_cons.mp nd).1 (List.of_mem_zip hv).1, if_pos hk]
    simp
  | p :: P, w :: vs, i + 1, m, nd, h1, h2, hk => by
    show bindL kindOf ((p, w) :: P.zip vs) m x = _
    unfold bindL
    exact bindL_get (i := i) (List.nodup_cons.mp nd).2 (by simpa using h1) (by simpa using h2) hk
theorem bindC_get {kindOf : Str → Option NameKind} {x : Str} {v : Value} : ∀ {P : List Str} {vs : List Value} {i : Nat} {m : Str → Option Value}, P.Nodup → P[i]? = some x → vs[i]? = some v → kindOf x ≠ some .local →
    bindC kindOf (P.zip vs) m x = some v
  | [], _, _, _, _, h, _, _ => by simp at h
  | _ :: _, [], _, _, _, _, h, _ => by simp at h
  | p :: P, w :: vs, 0, m, nd, h1, h2, hk => by
    simp at h1 h2; subst h1; subst h2
    show bindC kindOf ((p, w) :: P.zip vs) m p = _
    unfold bindC
    rw [bindC_out fun v hv => (List.nodup_cons.mp nd).1 (List.of_mem_zip hv).1, if_neg hk]
    simp
  | p :: P, w :: vs, i + 1, m, nd, h1, h2, hk => by
    show bindC kindOf ((p, w) :: P.zip vs) m x = _
    unfold bindC
    exact bindC_get (i := i) (List.nodup_cons.mp nd).2 (by simpa using h1) (by simpa using h2) hk
def start (N : List Str) (vs : List V) : St := vs.map some ++ List.replicate (N.length - vs.length) none
def cxOf (CX : CXT) (P : Program) (w : World) (K : PySem.W.Frag) (mg : Str → Option Value) (base : Heap) (N : List Str) (qual : Str) (scope : Scope) (f : Addr) (cd : Value) (A : Around) (outer : List Env) (s : Shared) (H : Hp) (E : XK) : Cx where
  prog := P
  w := w
  K := K
  mg := mg
  base := base
  A := A.deeper (envOfC qual scope s.heap.objs.size f cd)
  N := N
  s₀ := s
  H₀ := H
  env := envOfC qual scope s.heap.objs.size f cd
  outer := outer
  stack := envOfC qual scope s.heap.objs.size f cd :: outer
  ex := []
  calm := true
  fn := fun _ => true
  pn := []
  xe := fun e s' => wpAny (model P w) (A.deeper (envOfC qual scope s.heap.objs.size f cd)) (leaving (envOfC qual scope s.heap.objs.size f cd) e) (fun _ s'' => CX outer H s E e s'') (fun e' s'' => CX outer H s E e' s'') s'
theorem cell_has {sc : Scope} {n : Nat} {x : Str} (h : sc.names.lookup x = some .cell) : ∃ c, (cellsFrom n sc.names []).lookup x = some c := by
  have q := PySem.W.cellsFrom_some sc.names n [] (.inl h)
  exact Option.isSome_iff_exists.mp q
theorem inv_start {CX : CXT} {P : Program} {w : World} {K : PySem.W.Frag} {mg : Str → Option Value} {base : Heap} {N ps : List Str} {qual : Str} {scope : Scope} {f : Addr} {cd : Value} {A : Around} {outer : List Env} {s s1 : Shared} {H : Hp} {E : XK} {us : List Value} {vs : List V}
    (S : FnScope N ps scope) (hd : A.handled = none) (e0 : Env0 P w K mg base A outer s H) (hl : vs.length = ps.length) (r : Vals vs us)
    (x : InCallC s s.heap.objs.size (bindL (envOfC qual scope s.heap.objs.size f cd).kindOf (ps.zip us) fun _ => none) (cellsFrom (s.heap.objs.size + 1) scope.names []) (bindC (envOfC qual scope s.heap.objs.size f cd).kindOf (ps.zip us) fun _ => none) s1) :
    Inv (cxOf CX P w K mg base N qual scope f cd A outer s H E) [] (start N vs) H s1 := by
  have hpl : ps.length ≤ N.length := by have := congrArg List.length S.pre; rw [List.length_take] at this; omega
  obtain ⟨h1, tk, rfl, hk⟩ := x.done
  have noA : ∀ b : Addr, b ∉ (cxOf CX P w K mg base N qual scope f cd A outer s H E).ex := fun b z => absurd (show b ∈ ([] : List Addr) from z) (by simp)
  refine ⟨⟨e0.mod, S.kind, rfl, rfl, Nat.le_refl _, fun y z c h1 h2 => ?_, fun y hy => ?_, fun y c _ h => ?_, fun _ => hd, Around.frames_deeper e0.frames, .inr ⟨rfl, rfl⟩, fun b z => absurd z (noA b), e0.bs, e0.bsz, fun b _ _ => noA b, fun b z => absurd z (noA b), e0.funs, e0.frf⟩,
    rfl, e0.bare, Un.kept hk, ⟨_, x.toInCall.ns, fun i y v h1 h2 h3 => ?_⟩, fun y c h => ⟨_, x.cell y c h⟩, e0.hok.fresh (Nat.le_refl _), fun y c h => ?_, fun p hp => absurd (show p ∈ ([] : List (Addr × Obj)) from hp) (by simp), e0.hok.kept hk, ?_⟩
  · exact name_of_addr x.apart (PySem.mem_of_lookup h1) (PySem.mem_of_lookup h2)
  · have hy : scope.names.lookup y = some .cell ∨ scope.names.lookup y = some .free := hy
    rcases hy with hy | hy
    · exact cell_has hy
    · exact absurd rfl (S.nofree _ (PySem.mem_of_lookup hy))
  · exact Nat.le_of_lt (x.above y c (PySem.mem_of_lookup h))
  · have hi : i < vs.length := by
      unfold start at h2
      by_cases hi : i < vs.length
      · exact hi
      · rw [List.getElem?_append_right (by simpa using hi)] at h2
        rw [List.getElem?_replicate] at h2
        split at h2 <;> cases h2
    have ha : vs[i]? = some v := by
      unfold start at h2
      rw [List.getElem?_append_left (by simpa using hi), List.getElem?_map] at h2
      cases e : vs[i]? with
      | none => rw [e] at h2; cases h2
      | some a => rw [e] at h2; cases h2; rfl
    obtain ⟨u, hu, rv⟩ := r.get ha
    have hp : ps[i]? = some y := by
      rw [← S.pre, List.getElem?_take_of_lt (by omega)]; exact h1
    have ndP : ps.Nodup := by rw [← S.pre]; exact S.nd.sublist (List.take_sublist _ _)
    refine ⟨u, rv, ?_⟩
    rcases S.par y (List.mem_of_getElem? hp) with k | k
    · exact .inl ⟨k, bindL_get ndP hp hu k⟩
    · obtain ⟨c, e⟩ := cell_has (n := s.heap.objs.size + 1) k
      refine .inr ⟨.inl k, c, e, ?_⟩
      have q := x.cell y c e
      rw [bindC_get ndP hp hu (by show scope.names.lookup y ≠ _; rw [k]; decide)] at q
      exact q
  · exact e0.hok.fresh (Nat.le_of_lt (x.above y c (PySem.mem_of_lookup h)))
  · unfold start
    show _ = N.length
    rw [List.length_append, List.length_map, List.length_replicate]
    omega
theorem fn_of {CX : CXT} {P : Program} {w : World} {K : PySem.W.Frag} {mg : Str → Option Value} {base : Heap} {k : Nat} {f : Addr} {name qual : Str} {params : Arguments} {body : List Stmt} {scope : Scope} {dV kV doc pm cdv ct oc : Value} {an od : Option Addr}
    {osl : Array (Option Value)} {N ps : List Str} {sp : Sp} (lk : K.lookup f = some ⟨oc, od, .func (PySem.W.fnOf name qual params body scope dV kV doc pm an cdv ct), osl⟩) (hcd : PySem.W.codeIn K cdv qual = true) (S : FnScope N ps scope)
    (len : ∀ vs H Q E, sp vs H Q E → vs.length = ps.length)
    (hbody : ∀ (A : Around) (outer : List Env) (s : Shared) (H : Hp) (vs : List V) (Q : VK) (E : XK), Room k (A.deeper (envOfC qual scope s.heap.objs.size f cdv)) → sp vs H Q E →
      ∃ t, PSs (cxOf CX P w K mg base N qual scope f cdv A outer s H E) body t ∧ t { nx := fun _ H' => Q .non H', rt := Q } (start N vs) H) :
    FnOk P w K mg base CX (k + 1) f (PySem.W.fnOf name qual params body scope dV kV doc pm an cdv ct) ps sp := by
  refine ⟨len, fun A outer s H args us vs Q E hr e0 hb r hsp => ?_⟩
  have hl := len _ _ _ _ hsp
  have KX : K.In s.heap := e0.mod.kin.keeps fun b o e => (e0.bs b o e).1
  have lim : s.heap.NoLimit := e0.mod.nolimit.keeps fun b o e => (e0.bs b o e).1
  have hkind : ∀ y ∈ ps.zip us, scope.names.lookup y.1 = some .local ∨ (scope.names.lookup y.1 = some .cell ∧ ((cellsFrom (s.heap.objs.size + 1) scope.names []).lookup y.1).isSome = true) := fun ⟨n, v⟩ hy => by
    rcases S.par n (List.of_mem_zip hy).1 with q | q
    · exact .inl q
    · exact .inr ⟨q, PySem.W.cellsFrom_some _ _ _ (.inl q)⟩
  refine codeAny_call_function hr.depth (KX _ _ lk) rfl S.co S.gen rfl (PySem.W.codeRec_of KX hcd) (hb _ _ _ _ ?_)
  refine wpAny_newFunctionEnv_cells S.kind hkind fun env he s1 x => ?_
  subst he
  refine ⟨lim.keeps x.toInCall.keep, codeAny_func ?_⟩
  obtain ⟨t, ht, hq⟩ := hbody A outer s H vs Q E (hr.deeper _) hsp
  have I : Inv (cxOf CX P w K mg base N qual scope f cdv A outer s H E) [] (start N vs) H s1 := inv_start S hr.hd e0 hl r x
  refine wpAny_mono (ht [] s1 (start N vs) H _ I hq) (fun fl s' hs => ?_) fun e s' hs => hs
  have fin : ∀ {σ' : St} {H' : Hp} {v : V} {u : Value}, Inv (cxOf CX P w K mg base N qual scope f cdv A outer s H E) [] σ' H' s' → RelV v u → Q v H' → CE outer P w H s Q u s' :=
    fun {σ' H' v u} J rv q => ⟨v, H', J.os, J.bare, J.base, J.hok, rv, q⟩
  cases fl with
  | ret u =>
    obtain ⟨v, σ', H', J, rv, q⟩ := hs
    exact fin J rv q
  | next =>
    obtain ⟨σ', H', J, q⟩ := hs
    exact fin (v := V.non) (u := Value.none) J rfl q
  | brk =>
    obtain ⟨_, _, _, q⟩ := hs
    exact False.elim q
  | cont =>
    obtain ⟨_, _, _, q⟩ := hs
    exact False.elim q
end L2
namespace L2
open PySem PySem.Spec PyProof.Rows
section
variable {X : Cx} {x : Str} {p pos : Pos} {e : Expr} {es : List Expr} {t : TA} {id T : String} {r : List V → Hp → VK → Prop}
def tCB (r : List V → Hp → VK → Prop) (t : TA) : TE := fun σ H Q => t σ H fun vs H1 => r vs H1 Q
theorem pe_callB (hc : CallR X (.builtin id) r) (hg : Gl X x) (hm : X.mg x = none) (hv : bootBuiltins x = some (.builtin id)) (ha : PA X (e :: es) t) (hn : x ≠ "__name__" := by decide) (hdb : (x == ("__debug__" : Str)) = false := by decide)
    (he : starEach (e :: es) X.env = (false, eval e X.env) :: starEach es X.env := by rfl) (hpl : (backTo pos (starEach es X.env)).any (·.1) = false := by rfl) : PE X (.Call (.Name x p) (e :: es) [] pos) (tCB r t) := by
  intro pins s σ H Q I h
  refine wpAny_Call_Name_kw (ld_blt I hg hm hv ?_ hn hdb)
  exact PyProof.Rows.callWith_builtin1 (thn (ha pos pins s σ H _ I h) fun us s1 ⟨vs, H1, I1, r1, q1⟩ => hc pins s1 σ H1 vs us Q I1 r1 q1) he hpl
theorem pe_callTy (hc : CallR X (.type T) r) (hg : Gl X x) (hm : X.mg x = none) (hv : bootBuiltins x = some (.type T)) (ha : PA X (e :: es) t) (hn : x ≠ "__name__" := by decide) (hdb : (x == ("__debug__" : Str)) = false := by decide)
    (he : starEach (e :: es) X.env = (false, eval e X.env) :: starEach es X.env := by rfl) (hpl : (backTo pos (starEach es X.env)).any (·.1) = false := by rfl) : PE X (.Call (.Name x p) (e :: es) [] pos) (tCB r t) := by
  intro pins s σ H Q I h
  refine wpAny_Call_Name_kw (ld_blt I hg hm hv ?_ hn hdb)
  exact PyProof.Rows.callWith_type1 (thn (ha pos pins s σ H _ I h) fun us s1 ⟨vs, H1, I1, r1, q1⟩ => hc pins s1 σ H1 vs us Q I1 r1 q1) he hpl
end
end L2
namespace HT
open PySem PyProof.Rows
section
open PySem.SeqAt
open PySem.AutoSeq1 (wpAny_loadPart')
open PySem.MeetsSeq PySem.MeetsSeq2 PySem.MeetsSeq3
end
section
variable {prog : Program} {w : World} {A : Around} {E : Value → Shared → Prop} {s : Shared}
theorem cat_tup {t b : Addr} {vs ws : List Value} {Q : Value → Shared → Prop} (ht : IsTup s.heap t vs.toArray) (hb : IsTup s.heap b ws.toArray) (hv : vs ≠ [])
    (h1 : ws = [] → Q (.ref t) s) (h2 : ws ≠ [] → Q (.ref s.heap.objs.size) { s with heap := s.heap.push { cls := .type "tuple", data := .seq (vs ++ ws).toArray } })
    (hsz : vs.length + ws.length ≤ sizeLine) : wpAny (model prog w) A (binaryOp .Add (.ref t) (.ref b)) Q E s := by
  obtain ⟨⟨cls, dd, data, sl⟩, ho, hc, n, hd⟩ := id ht
  obtain ⟨⟨cls2, dd2, data2, sl2⟩, ho2, hc2, n2, hd2⟩ := id hb
  simp only at hc hd hc2 hd2
  subst hc hd hc2 hd2
  have e : vs.toArray ++ ws.toArray = (vs ++ ws).toArray := by simp
  by_cases hw : ws = []
  · exact concat_meets ⟨_, ho, rfl⟩ ⟨_, ho2, rfl⟩ noFill_tuple_add seq_tuple_add PySem.F.slot_tuple_add PySem.F.entry_tuple_add (PySem.F.args_tuple_add_2 _ _)
      (tuple_addW1 t b vs.toArray ws.toArray n n2 dd dd2 sl sl2 (by simpa using hv) (by simp [hw])) ⟨ho, ho2, h1 hw⟩
  · refine concat_meets ⟨_, ho, rfl⟩ ⟨_, ho2, rfl⟩ noFill_tuple_add seq_tuple_add PySem.F.slot_tuple_add PySem.F.entry_tuple_add (PySem.F.args_tuple_add_2 _ _)
      (tuple_addW2 t b vs.toArray ws.toArray n n2 dd dd2 sl sl2 (by simpa using hv) (by simpa using hw) (by rw [List.size_toArray, List.size_toArray]; exact hsz)) ⟨ho, ho2, ?_⟩
    rw [e]
    exact h2 hw
def sIx (n d : Nat) : Option Int → Nat
  | none => d
  | some v => if v < 0 then (v + (n : Int)).toNat else min v.toNat n
theorem sIx_none (n d : Nat) : sIx n d none = d := rfl
theorem sIx_nat (n d k : Nat) : sIx n d (some (k : Int)) = min k n := by
  show (if (k : Int) < 0 then ((k : Int) + (n : Int)).toNat else min (k : Int).toNat n) = min k n
  rw [if_neg (by omega), Int.toNat_natCast]
theorem sIx_le (n d : Nat) (hd : d ≤ n) (o : Option Int) : sIx n d o ≤ n := by
  cases o with
  | none => exact hd
  | some v =>
    show (if v < 0 then (v + (n : Int)).toNat else min v.toNat n) ≤ n
    by_cases hv : v < 0
    · rw [if_pos hv]; omega
    · rw [if_neg hv]; exact Nat.min_le_right _ _
theorem clip_eq (v : Int) (n d : Nat) : (if v < 0 then max (v + (n : Int)) 0 else min v (n : Int)) = ((sIx n d (some v) : Nat) : Int) := by
  show (if v < 0 then max (v + (n : Int)) 0 else min v (n : Int)) = (((if v < 0 then (v + (n : Int)).toNat else min v.toNat n) : Nat) : Int)
  by_cases hv : v < 0
  · simp only [if_pos hv]; omega
  · simp only [if_neg hv]; omega
theorem adjust_gen (lo hi : Option Int) (n : Nat) : Builtin.Slice.sliceAdjust lo hi 1 (n : Int) = (((sIx n 0 lo : Nat) : Int), ((sIx n n hi : Nat) : Int)) := by
  have h1 : ¬ ((1 : Int) < 0) := by omega
  unfold Builtin.Slice.sliceAdjust
  simp only [h1, if_false]
  refine Prod.ext ?_ ?_
  · cases lo with
    | none => rfl
    | some v => exact clip_eq v n 0
  · cases hi with
    | none => rfl
    | some v => exact clip_eq v n n
theorem places_gen (i j : Nat) : Builtin.Slice.slicePlaces (i : Int) (j : Int) 1 = j - i := by
  unfold Builtin.Slice.slicePlaces
  have h1 : (1 : Int) > 0 := by omega
  simp only [h1, if_true, Int.ediv_one]
  split <;> omega
theorem slicePart_ {v : Value} {o : Option Int} {Q : Option Int → Shared → Prop} (p : IsPart v o) (h : Q o s) : wpAny (model prog w) A (Builtin.Slice.slicePartIndex v) Q E s := by
  cases p with
  | none => exact slicePart_none h
  | int i t => exact slicePart_int h
theorem sliceApplied_gen {sl : Addr} {vl vu : Value} {lo hi : Option Int} {n : Nat} {Q : Int × Int × Nat → Shared → Prop} (hs : s.heap.IsSliceOf sl vl vu .none) (pl : IsPart vl lo) (pu : IsPart vu hi)
    (h : Q (((sIx n 0 lo : Nat) : Int), 1, sIx n n hi - sIx n 0 lo) s) : wpAny (model prog w) A (Builtin.Slice.sliceApplied (.ref sl) (pure (n : Int))) Q E s := by
  obtain ⟨os, hos, hcs, hds⟩ := id hs
  unfold Builtin.Slice.sliceApplied Builtin.Slice.sliceFields
  refine wpAny_bind (wpAny_bind (wpAny_field hos hds (x := vl) rfl (wpAny_bind (wpAny_field hos hds (x := vu) rfl (wpAny_bind (wpAny_field hos hds (x := .none) rfl (wpAny_pure ?_)))))))
  refine wpAny_bind (slicePart_none ?_)
  show wpAny _ _ (if ((1 : Int) == 0) = true then _ else _) _ _ s
  rw [if_neg (by decide)]
  refine wpAny_bind (slicePart_ pl (wpAny_bind (slicePart_ pu (wpAny_bind (wpAny_pure ?_)))))
  show wpAny _ _ (match Builtin.Slice.sliceAdjust lo hi 1 (n : Int) with | (lo, hi) => pure (lo, (1 : Int), Builtin.Slice.slicePlaces lo hi 1)) _ _ s
  rw [adjust_gen lo hi n]
  show wpAny _ _ (pure (((sIx n 0 lo : Nat) : Int), (1 : Int), Builtin.Slice.slicePlaces ((sIx n 0 lo : Nat) : Int) ((sIx n n hi : Nat) : Int) 1)) _ _ s
  rw [places_gen]
  exact wpAny_pure h
theorem pick_gen (xs : Array Value) (i k : Nat) : ((List.range k).filterMap fun (m : Nat) => xs[((i : Int) + (m : Int) * 1).toNat]?).toArray = ((xs.toList.drop i).take k).toArray := by
  have e : (fun (m : Nat) => xs[((i : Int) + (m : Int) * 1).toNat]?) = fun m => xs[i + m]? := by
    funext m
    have : ((i : Int) + (m : Int) * 1).toNat = i + m := by omega
    rw [this]
  rw [e]
  have := pick_run xs i k
  rw [List.filterMap_map] at this
  have e2 : ((fun x => xs[x]?) ∘ fun x => i + x) = fun m => xs[i + m]? := rfl
  rw [e2] at this
  rw [this]
theorem getItem_tuple_cut {t sl : Addr} {items : Array Value} {vl vu : Value} {lo hi : Option Int} {Q : Value → Shared → Prop} (ht : IsTup s.heap t items) (hs : s.heap.IsSliceOf sl vl vu .none) (pl : IsPart vl lo) (pu : IsPart vu hi)
    (hw : ¬ (sIx items.size 0 lo = 0 ∧ sIx items.size items.size hi = items.size))
    (h : Q (.ref s.heap.objs.size) { s with heap := s.heap.push { cls := .type "tuple", data := .seq ((items.toList.drop (sIx items.size 0 lo)).take (sIx items.size items.size hi - sIx items.size 0 lo)).toArray } })
    (hsz : items.size ≤ sizeLine) : wpAny (model prog w) A (getItem (.ref t) (.ref sl)) Q E s := by
  have htake : sizeOk (.seq ((items.toList.drop (sIx items.size 0 lo)).take (sIx items.size items.size hi - sIx items.size 0 lo)).toArray) := by
    show ((items.toList.drop (sIx items.size 0 lo)).take (sIx items.size items.size hi - sIx items.size 0 lo)).toArray.size ≤ sizeLine
    rw [List.size_toArray, List.length_take, List.length_drop, Array.length_toList]
    omega
  have hj : sIx items.size items.size hi ≤ items.size := sIx_le _ _ (Nat.le_refl _) hi
  obtain ⟨os, hos, hcs, hds⟩ := id hs
  have hTs : s.TypeIs (.ref sl) "slice" := ⟨os, hos, hcs⟩
  unfold getItem
  try with_reducible refine wpAny_holding ?_
  first | refine wpAny_bind (wpAny_pure ?_) | skip
  refine wpAny_bind (wpAny_sequenceKey ht.typeIs (by decide) ?_)
  refine wpAny_bind (wpAny_callSpecial?_slot (name := Str.ofString "__getitem__") ht.typeIs PyProof.Rows.slot_tuple_getitem
    (wpAny_call_entry PyProof.Rows.slot_tuple_getitem ht.typeIs entry_tuple_getitem ?_ (args_tuple_getitem _ _)))
  show wpAny _ _ (Builtin.Tuple.tupleItemsOf (.ref t) >>= _) _ _ s
  refine wpAny_bind (tupleItemsOf_ ht ?_)
  refine wpAny_bind (wpAny_typeOf hTs ?_)
  rw [if_pos (by decide)]
  refine wpAny_bind (sliceApplied_gen hs pl pu ?_)
  have hno : ¬ ((((sIx items.size 0 lo : Nat) : Int) == 0 && (1 : Int) == 1 && (sIx items.size items.size hi - sIx items.size 0 lo) == items.size) = true) := by
    intro q
    rw [Bool.and_eq_true, Bool.and_eq_true] at q
    have q1 : ((sIx items.size 0 lo : Nat) : Int) = 0 := eq_of_beq q.1.1
    have q2 : sIx items.size items.size hi - sIx items.size 0 lo = items.size := eq_of_beq q.2
    exact hw ⟨by omega, by omega⟩
  show wpAny _ _ (if (((sIx items.size 0 lo : Nat) : Int) == 0 && (1 : Int) == 1 && (sIx items.size items.size hi - sIx items.size 0 lo) == items.size) = true then _ else _) _ _ s
  rw [if_neg hno, pick_gen]
  first
    | exact wpAny_bind (m := Builtin.Tuple.tupleExact _) (wpAny_newObj_type (wpAny_pure ⟨_, rfl, wpAny_pure h⟩) htake)
    | exact wpAny_bind (m := Builtin.Tuple.tupleExact _) (wpAny_newObj_type (wpAny_bind (wpAny_pure (wpAny_pure ⟨_, rfl, wpAny_pure h⟩))) htake)
    | exact wpAny_bind (wpAny_bind (m := Builtin.Tuple.tupleExact _) (wpAny_newObj_type (wpAny_pure (wpAny_pure ⟨_, rfl, wpAny_pure h⟩)) htake))
    | exact wpAny_bind (wpAny_bind (m := Builtin.Tuple.tupleExact _) (wpAny_newObj_type (wpAny_pure ⟨_, rfl, wpAny_pure h⟩) htake))
end
end HT
namespace L2
open PySem PySem.Spec PyProof.Rows
abbrev TO := St → Hp → (Option Int → Hp → Prop) → Prop
def PO (X : Cx) (e : Option Expr) (t : TO) : Prop :=
  ∀ (pins : List (Addr × Obj)) (s : Shared) (σ : St) (H : Hp) (Q : Option Int → Hp → Prop), Inv X pins σ H s → t σ H Q →
    wpAny (model X.prog X.w) X.A (evalPart e X.env) (fun u s' => ∃ o H', Inv X pins σ H' s' ∧ IsPart u o ∧ Q o H') X.xe s
def tNoPart : TO := fun _ H Q => Q none H
def tPart (t : TE) : TO := fun σ H Q => t σ H fun x H1 => ∃ i, x = .int i ∧ Q (some i) H1
section
variable {X : Cx} {e : Expr} {te : TE} {lo hi : Option Expr} {tl th : TO} {pos p2 : Pos}
theorem po_none : PO X none tNoPart := by
  intro pins s σ H Q I h
  rw [evalPart_none]
  exact wpAny_pure ⟨none, H, I, .none, h⟩
theorem po_some (h : PE X e te) : PO X (some e) (tPart te) := by
  intro pins s σ H Q I hw
  rw [evalPart_some]
  refine thn (h pins s σ H _ I hw) fun u s1 ⟨x, H1, I1, r1, q1⟩ => ?_
  obtain ⟨i, rfl, q⟩ := q1
  obtain ⟨t, rfl⟩ := r1
  exact ⟨some i, H1, I1, .int i t, q⟩
def SlR (X : Cx) (r : V → Option Int → Option Int → Hp → VK → Prop) : Prop :=
  ∀ (pins : List (Addr × Obj)) (s : Shared) (σ : St) (H : Hp) (x : V) (v vl vu : Value) (lo hi : Option Int) (sl : Addr) (Q : VK), Inv X pins σ H s → RelV x v → s.heap.IsSliceOf sl vl vu .none → IsPart vl lo → IsPart vu hi → r x lo hi H Q →
    ∃ T id, typeLookup (.type T) "__getitem__" = pure (some (.builtin id)) ∧ s.TypeIs v T ∧ wpAny (model X.prog X.w) X.A (getItem v (.ref sl)) (EP X pins σ Q) X.xe s
def tSl (r : V → Option Int → Option Int → Hp → VK → Prop) (te : TE) (tl th : TO) : TE := fun σ H Q => te σ H fun x H1 => tl σ H1 fun l H2 => th σ H2 fun u H3 => r x l u H3 Q
theorem pe_slice {r : V → Option Int → Option Int → Hp → VK → Prop} (hr : SlR X r) (he : PE X e te) (hl : PO X lo tl) (hu : PO X hi th) : PE X (.Subscript e (.Slice lo hi none p2) pos) (tSl r te tl th) := by
  intro pins s σ H Q I h
  refine Subscript_ (thn (he pins s σ H _ I h) fun v s1 ⟨x, H1, I1, r1, q1⟩ => ?_)
  refine wpAny_Slice (thn (hl pins s1 σ H1 _ I1 q1) fun vl s2 ⟨l, H2, I2, pl, q2⟩ => thn (hu pins s2 σ H2 _ I2 q2) fun vu s3 ⟨u, H3, I3, pu, q3⟩ => ?_)
  rw [evalPart_none]
  refine wpAny_pure ?_
  have I4 : Inv X pins σ H3 { s3 with heap := s3.heap.push { cls := .type "slice", data := .fields #[vl, vu, .none] } } := I3.kept (t' := s3.toks) fun b ob q => Heap.get?_push_of_some _ q
  obtain ⟨T, id, hT, ht, hg⟩ := hr pins { s3 with heap := s3.heap.push { cls := .type "slice", data := .fields #[vl, vu, .none] } } σ H3 x v vl vu l u s3.heap.objs.size Q I4 r1 (Heap.IsSliceOf.new ..) pl pu q3
  show wpAny (model X.prog X.w) X.A (subscriptTail e (.Slice lo hi none p2) v (.ref s3.heap.objs.size)) (EP X pins σ Q) X.xe { s3 with heap := s3.heap.push { cls := .type "slice", data := .fields #[vl, vu, .none] } }
  exact tail_any (ops := [.ref s3.heap.objs.size, v]) ht hT hg (by with_unfolding_all rfl)
def cutV (xs : List V) (lo hi : Option Int) : List V := (xs.drop (HT.sIx xs.length 0 lo)).take (HT.sIx xs.length xs.length hi - HT.sIx xs.length 0 lo)
theorem cutV_length (xs : List V) (lo hi : Option Int) : (cutV xs lo hi).length ≤ xs.length := by
  unfold cutV
  rw [List.length_take, List.length_drop]
  omega
def rSlT (K : PySem.W.Frag) : V → Option Int → Option Int → Hp → VK → Prop := fun x lo hi H Q => ∃ a xs, x = .ref a ∧ SqT K H a xs ∧
  ¬ (HT.sIx xs.length 0 lo = 0 ∧ HT.sIx xs.length xs.length hi = xs.length) ∧ ∀ p, H p = none → Q (.ref p) (upd H p (.tup (cutV xs lo hi)))
theorem sl_tup : SlR X (rSlT X.K) := by
  intro pins s σ H x v vl vu lo hi sl Q I rx hs pl pu h
  obtain ⟨a, xs, rfl, hx, hw, q⟩ := h
  cases rx
  obtain ⟨its, r, ht, hz⟩ := I.tuple hx
  have hlen : its.toArray.size = xs.length := by rw [List.size_toArray]; exact r.length.symm
  refine ⟨"tuple", _, PyProof.Rows.slot_tuple_getitem.lookup, ht.typeIs, ?_⟩
  refine HT.getItem_tuple_cut ht hs pl pu (by rw [hlen]; exact hw) ?_ (by rw [hlen]; exact hz)
  rw [hlen]
  refine ⟨.ref s.heap.objs.size, _, I.laid (t' := s.toks) (o := .tup (cutV xs lo hi)) (fun b ob q => Heap.get?_push_of_some _ q) (Nat.le_refl _) ?_, rfl, q _ (I.hok.fresh (Nat.le_refl _))⟩
  exact ⟨Nat.le_trans (cutV_length xs lo hi) hz, _, (r.drop (HT.sIx xs.length 0 lo)).take (HT.sIx xs.length xs.length hi - HT.sIx xs.length 0 lo), IsTup.new _ _⟩
def rCatT (K : PySem.W.Frag) : R2 := fun x y H Q => ∃ a b xs ys, x = .ref a ∧ y = .ref b ∧ SqT K H a xs ∧ SqT K H b ys ∧ xs ≠ [] ∧ xs.length + ys.length ≤ sizeLine ∧
  (ys = [] → Q (.ref a) H) ∧ (ys ≠ [] → ∀ p, H p = none → Q (.ref p) (upd H p (.tup (xs ++ ys))))
theorem Vals.nil_iff {xs : List V} {us : List Value} (r : Vals xs us) : us = [] ↔ xs = [] := by
  cases r with
  | nil => simp
  | cons _ _ => simp
theorem op_catT : OpR X (binaryOp .Add) (rCatT X.K) := by
  intro pins s σ H x y v u Q I rx ry h
  obtain ⟨a, b, xs, ys, rfl, rfl, ha, hb, hx, hz, q1, q2⟩ := h
  cases rx
  cases ry
  obtain ⟨its, r1, p1, _⟩ := I.tuple ha
  obtain ⟨its2, r2, p2, _⟩ := I.tuple hb
  refine HT.cat_tup p1 p2 (fun z => hx (r1.nil_iff.mp z)) (fun z => ⟨.ref a, H, I, rfl, q1 (r2.nil_iff.mp z)⟩) (fun z => ?_) (by rw [← r1.length, ← r2.length]; exact hz)
  refine ⟨.ref s.heap.objs.size, _, I.laid (t' := s.toks) (o := .tup (xs ++ ys)) (fun b ob q => Heap.get?_push_of_some _ q) (Nat.le_refl _) ?_, rfl, q2 (fun w => z (r2.nil_iff.mpr w)) _ (I.hok.fresh (Nat.le_refl _))⟩
  exact ⟨by rw [List.length_append]; exact hz, _, r1.append r2, IsTup.new _ _⟩
end
end L2
namespace L2
open PySem PySem.Spec PyProof.Rows
def ixN (n : Nat) (i : Int) : Option Nat := if 0 ≤ i then (if i < n then some i.toNat else none) else if -(n : Int) ≤ i then some (i + n).toNat else none
def atI {α : Type} (xs : List α) (i : Int) : Option α := (ixN xs.length i).bind fun j => xs[j]?
theorem ixN_seq {n : Nat} {i : Int} {j : Nat} (h : ixN n i = some j) : seqIndex? i n = some j ∧ j < n ∧ -(n : Int) ≤ i ∧ i < n := by
  unfold ixN at h
  by_cases h0 : 0 ≤ i
  · rw [if_pos h0] at h
    by_cases h1 : i < n
    · rw [if_pos h1] at h
      have e : i.toNat = j := Option.some.inj h
      exact ⟨by rw [seqIndex_of h0 h1, e], by omega, by omega, h1⟩
    · rw [if_neg h1] at h; cases h
  · rw [if_neg h0] at h
    by_cases h1 : -(n : Int) ≤ i
    · rw [if_pos h1] at h
      have e : (i + n).toNat = j := Option.some.inj h
      exact ⟨by rw [seqIndex_neg (by omega) h1, e], by omega, h1, by omega⟩
    · rw [if_neg h1] at h; cases h
theorem atI_get {α : Type} {xs : List α} {i : Int} {v : α} (h : atI xs i = some v) : ∃ j, seqIndex? i xs.length = some j ∧ xs[j]? = some v ∧ j < xs.length ∧ -(xs.length : Int) ≤ i ∧ i < xs.length := by
  unfold atI at h
  cases e : ixN xs.length i with
  | none => rw [e] at h; cases h
  | some j =>
    rw [e] at h
    obtain ⟨h1, h2, h3, h4⟩ := ixN_seq e
    exact ⟨j, h1, h, h2, h3, h4⟩
theorem atI_nat {α : Type} {xs : List α} {j : Nat} {v : α} (h : xs[j]? = some v) : atI xs (j : Int) = some v := by
  have hj : j < xs.length := (List.getElem?_eq_some_iff.mp h).1
  have e : ixN xs.length (j : Int) = some j := by
    unfold ixN
    rw [if_pos (by omega), if_pos (by omega)]; simp
  unfold atI; rw [e]; exact h
def PlainIx (b : Expr) : Prop := ∀ o i, subscripted b false o i = operate [o, i] (getItem o i)
def IxR (X : Cx) (r : R2) : Prop :=
  ∀ (value slice : Expr) (pins : List (Addr × Obj)) (s : Shared) (σ : St) (H : Hp) (x y : V) (v u : Value) (Q : VK), Inv X pins σ H s → RelV x v → RelV y u → r x y H Q →
    subscripted slice false v u = operate [v, u] (getItem v u) → wpAny (model X.prog X.w) X.A (subscriptTail value slice v u) (EP X pins σ Q) X.xe s
def MtR (X : Cx) (id : String) (r : V → List V → Hp → VK → Prop) : Prop :=
  ∀ (pins : List (Addr × Obj)) (s : Shared) (σ : St) (H : Hp) (x : V) (xs : List V) (v : Value) (us : List Value) (Q : VK), Inv X pins σ H s → RelV x v → Vals xs us → r x xs H Q →
    wpAny (model X.prog X.w) X.A (call (.builtin id) (v :: us)) (EP X pins σ Q) X.xe s
section
variable {X : Cx} {a b : Expr} {ta tb : TE} {pos : Pos}
theorem pe_ix {r : R2} (hr : IxR X r) (ha : PE X a ta) (hb : PE X b tb) (hs : PlainIx b) : PE X (.Subscript a b pos) (tOp r ta tb) := by
  intro pins s σ H Q I h
  exact Subscript_ (binT ha hb I h fun v u s2 x y H2 I2 rx ry q => hr a b pins s2 σ H2 x y v u Q I2 rx ry q (hs _ _))
def rIxL (K : PySem.W.Frag) : R2 := fun x y H Q => ∃ p xs i v, x = .ref p ∧ y = .int i ∧ SqL K H p xs ∧ atI xs i = some v ∧ Q v H
def rIxT (K : PySem.W.Frag) : R2 := fun x y H Q => ∃ p xs i v, x = .ref p ∧ y = .int i ∧ SqT K H p xs ∧ atI xs i = some v ∧ Q v H
def rIxS : R2 := fun x y H Q => ∃ z i c, x = .str z ∧ y = .int i ∧ z.length ≤ sizeLine ∧ atI z.cps.toList i = some c ∧ Q (.str ⟨#[c]⟩) H
theorem ix_list : IxR X (rIxL X.K) := by
  intro value slice pins s σ H x y v u Q I rx ry h hs
  obtain ⟨p, xs, i, z, rfl, rfl, hq, he, q⟩ := h
  cases rx
  obtain ⟨t, rfl⟩ := ry
  obtain ⟨its, r, pl, hz⟩ := I.list hq
  obtain ⟨j, h1, h2, h3, h4, h5⟩ := atI_get he
  obtain ⟨w, ew, rw'⟩ := r.get h2
  have hl := r.length
  have hn := line63
  have fin : EP X pins σ Q w s := ⟨z, H, I, rw', q⟩
  by_cases h0 : 0 ≤ i
  · have hj : i.toNat = j := by
      rw [seqIndex_of h0 h5] at h1
      exact Option.some.inj h1
    exact item_listR pl.isList h0 (by omega) (by rw [hj]; simpa using ew) fin hs
  · have hj : (i + (its.toArray.size : Int)).toNat = j := by
      rw [seqIndex_neg (by omega) h4] at h1
      rw [List.size_toArray, ← hl]
      exact Option.some.inj h1
    exact subscriptTail_builtinR (x := w) pl.isList.typeIs slot_list_getitem.lookup
      (wpAny_getItem_list_neg (Q := fun r s' => r = w ∧ EP X pins σ Q r s') pl.isList (by omega) (by rw [List.size_toArray] <;> omega) (by omega) (by rw [hj]; simpa using ew) ⟨rfl, fin⟩) hs
theorem ix_tup : IxR X (rIxT X.K) := by
  intro value slice pins s σ H x y v u Q I rx ry h hs
  obtain ⟨p, xs, i, z, rfl, rfl, hq, he, q⟩ := h
  cases rx
  obtain ⟨t, rfl⟩ := ry
  obtain ⟨its, r, pl, hz⟩ := I.tuple hq
  obtain ⟨j, h1, h2, h3, h4, h5⟩ := atI_get he
  obtain ⟨w, ew, rw'⟩ := r.get h2
  have hl := r.length
  have hn := line63
  have fin : EP X pins σ Q w s := ⟨z, H, I, rw', q⟩
  exact subscriptTail_builtinR (x := w) pl.typeIs slot_tuple_getitem.lookup
    (getItem_tuple (j := j) (Q := fun r s' => r = w ∧ EP X pins σ Q r s') pl (by omega) (by omega) (by rw [List.size_toArray, ← hl]; exact h1) (by simpa using ew) ⟨rfl, fin⟩) hs
theorem ix_str : IxR X rIxS := by
  intro value slice pins s σ H x y v u Q I rx ry h hs
  obtain ⟨z, i, c, rfl, rfl, hz, he, q⟩ := h
  obtain ⟨t, rfl⟩ := rx
  obtain ⟨t', rfl⟩ := ry
  obtain ⟨j, h1, h2, h3, h4, h5⟩ := atI_get he
  have hl : z.cps.toList.length = z.length := by simp [Str.length]
  rw [hl] at h1 h4 h5
  have hn := line63
  exact tail_any (typeIs_str s z t) slot_str_getitem.lookup (getItem_str (c := c) (by
    have e1 : decide (i < -(2 ^ 63 : Int)) = false := decide_eq_false (by omega)
    have e2 : decide (i ≥ 2 ^ 63) = false := decide_eq_false (by omega)
    rw [e1, e2, Bool.or_false]) (by rw [h1]; simpa using h2) ⟨.str ⟨#[c]⟩, H, I.tok _, ⟨_, rfl⟩, q⟩) hs
theorem mapSeq_set (its : List Value) (n j : Nat) (u : Value) : Obj.mapSeq (·.setIfInBounds j u) { cls := .type "list", data := .seq its.toArray n } = { cls := .type "list", data := .seq (its.set j u).toArray n } := by
  simp [Obj.mapSeq]
theorem Inv.lst {pins : List (Addr × Obj)} {σ : St} {H : Hp} {s : Shared} {p : Addr} {xs : List V} (I : Inv X pins σ H s) (h : H p = some (.lst xs)) :
    ∃ (its : List Value) (n : Nat), Vals xs its ∧ s.heap.get? p = some { cls := .type "list", data := .seq its.toArray n } ∧ xs.length ≤ sizeLine := by
  obtain ⟨z, its, n, r, e⟩ := I.hok p _ h
  exact ⟨its, n, r, e, z⟩
theorem Inv.lstUpd {pins : List (Addr × Obj)} {σ : St} {H : Hp} {s : Shared} {p : Addr} {xs ys : List V} {its its' : List Value} {n n' : Nat} {f : Obj → Obj} (I : Inv X pins σ H s) (h : H p = some (.lst xs))
    (ho : s.heap.get? p = some { cls := .type "list", data := .seq its.toArray n }) (hf : f { cls := .type "list", data := .seq its.toArray n } = { cls := .type "list", data := .seq its'.toArray n' }) (r : Vals ys its') (hz : ys.length ≤ sizeLine) (t : Nat) :
    Inv X pins σ (upd H p (.lst ys)) { s with heap := s.heap.update p f, toks := t } := by
  have e : (s.heap.update p f).get? p = some { cls := .type "list", data := .seq its'.toArray n' } := by
    rw [Heap.get?_update_self f ho (by rw [hf] <;> rfl), hf]
  refine I.write (x := p) (e := p) (by rw [h]; trivial) (.inl rfl) (fun b u hb q => (Heap.get?_update_other _ _ (Ne.symm hb)).trans q) ⟨_, e⟩ ?_
  exact ⟨hz, its', n', r, e⟩
def rSetL : V → V → V → Hp → (Hp → Prop) → Prop := fun o i v H Q => ∃ p xs k j, o = .ref p ∧ i = .int k ∧ H p = some (.lst xs) ∧ ixN xs.length k = some j ∧ Q (upd H p (.lst (xs.set j v)))
theorem set_list : PSet X rSetL := by
  intro pins s σ H o i v ov iv u Q I ro ri rv h
  obtain ⟨p, xs, k, j, rfl, rfl, hp, hj, q⟩ := h
  cases ro
  obtain ⟨t, rfl⟩ := ri
  obtain ⟨its, n, r, ho, hz⟩ := I.lst hp
  obtain ⟨h1, h2, h3, h4⟩ := ixN_seq hj
  have hl := r.length
  have hn := line63
  have I' : Inv X pins σ (upd H p (.lst (xs.set j v))) { s with heap := s.heap.update p (Obj.mapSeq (·.setIfInBounds j u)) } :=
    I.lstUpd hp ho (mapSeq_set its n j u) (r.set rv j) (by rw [List.length_set]; exact hz) s.toks
  by_cases h0 : 0 ≤ k
  · have hk : k.toNat = j := by
      rw [seqIndex_of h0 h4] at h1
      exact Option.some.inj h1
    exact PySem.W.ki_setAt ho h0 (by omega) (by rw [List.size_toArray, ← hl]; exact h4) (by rw [hk]; exact ⟨_, I', q⟩)
  · have hk : (k + (its.toArray.size : Int)).toNat = j := by
      rw [seqIndex_neg (by omega) h3] at h1
      rw [List.size_toArray, ← hl]
      exact Option.some.inj h1
    exact PySem.W.ki_setBack ho (by omega) (by rw [List.size_toArray, ← hl]; exact h3) (by omega) (by rw [hk]; exact ⟨_, I', q⟩)
theorem call_list_of : CallR X (.type "list") (fun xs H Q => ∃ p ys, xs = [.ref p] ∧ (SqL X.K H p ys ∨ SqT X.K H p ys) ∧ ∀ l, H l = none → Q (.ref l) (upd H l (.lst ys))) := by
  intro pins s σ H xs us Q I r h
  obtain ⟨p, ys, rfl, hq, q⟩ := h
  obtain ⟨u, rfl, rx⟩ := vals1 r
  cases rx
  have fin : ∀ (its : List Value), Vals ys its → ys.length ≤ sizeLine → ∀ (h' : Heap) (c' : Nat), (∀ b o', s.heap.get? b = some o' → h'.get? b = some o') →
      h'.get? s.heap.objs.size = some { cls := .type "list", dict := none, data := .seq its.toArray c', slots := #[] } → EP X pins σ Q (.ref s.heap.objs.size) { s with heap := h' } := fun its r' hz h' c' kp e =>
    ⟨.ref s.heap.objs.size, _, I.laid (t' := s.toks) kp (Nat.le_refl _) (show ObjOk X.prog X.w _ h' _ (.lst ys) from ⟨hz, its, c', r', e⟩), rfl, q _ (I.hok.fresh (Nat.le_refl _))⟩
  rcases hq with hq | hq
  · obtain ⟨its, r', pl, hz⟩ := I.list hq
    have hlen := r'.length
    obtain ⟨o, ho, hc, n, hd⟩ := pl.isList
    exact call_list_seq p (.inl rfl) ho hc hd (fun h' c' kp e => fin its r' hz h' c' kp e) (by simp only [List.size_toArray] <;> omega)
  · obtain ⟨its, r', pl, hz⟩ := I.tuple hq
    have hlen := r'.length
    obtain ⟨o, ho, hc, n, hd⟩ := pl
    exact call_list_seq p (.inr rfl) ho hc hd (fun h' c' kp e => fin its r' hz h' c' kp e) (by simp only [List.size_toArray] <;> omega)
def tyV (K : PySem.W.Frag) (T : String) (x : V) (H : Hp) : Prop := match x with
  | .str _ => T = "str"
  | .int _ => T = "int"
  | .ref p => (T = "list" ∧ ∃ xs, SqL K H p xs) ∨ (T = "tuple" ∧ ∃ o, K.lookup p = some o ∧ o.cls = .type "tuple" ∧ o.dict = none) ∨
      (T = "dict" ∧ ((∃ kvs, H p = some (.dK kvs)) ∨ ∃ kvs, H p = some (.dT kvs))) ∨ (T = "set" ∧ ∃ S n, H p = some (.set S n))
  | _ => False
theorem tyV_is {pins : List (Addr × Obj)} {σ : St} {H : Hp} {s : Shared} {T : String} {x : V} {v : Value} (I : Inv X pins σ H s) (r : RelV x v) (ty : tyV X.K T x H) :
    s.TypeIs v T ∧ ∀ a, v = .ref a → ∃ ob, s.heap.get? a = some ob ∧ ob.dict = none := by
  cases x with
  | str z =>
    obtain ⟨t, rfl⟩ := r
    cases (show T = "str" from ty)
    exact ⟨typeIs_str s z t, fun _ e => nomatch e⟩
  | int i =>
    obtain ⟨t, rfl⟩ := r
    cases (show T = "int" from ty)
    exact ⟨typeIs_int s i t, fun _ e => nomatch e⟩
  | ref p =>
    cases r
    rcases ty with ⟨rfl, xs, hq⟩ | ⟨rfl, o, hk, hc, hd⟩ | ⟨rfl, hk⟩ | ⟨rfl, S, n, hk⟩
    · obtain ⟨its, _, pl, _⟩ := I.list hq
      refine ⟨pl.isList.typeIs, fun a e => ?_⟩
      cases e
      obtain ⟨o, n, e, c, hd, _⟩ := pl
      exact ⟨o, e, hd⟩
    · refine ⟨⟨o, I.kIn p o hk, hc⟩, fun a e => ?_⟩
      cases e
      exact ⟨o, I.kIn _ o hk, hd⟩
    · have z : ∃ o, s.heap.get? p = some o ∧ o.ExactDict := by
        rcases hk with ⟨kvs, hk⟩ | ⟨kvs, hk⟩
        · obtain ⟨_, _, _, _, o, _, _, e, ex, _⟩ := I.hok p _ hk
          exact ⟨o, e, ex⟩
        · obtain ⟨_, _, _, _, o, _, _, e, ex, _⟩ := I.hok p _ hk
          exact ⟨o, e, ex⟩
      obtain ⟨o, e, ex⟩ := z
      refine ⟨⟨o, e, ex.1⟩, fun a e2 => ?_⟩
      cases e2
      exact ⟨o, e, ex.2.1⟩
    · obtain ⟨o, _, _, _, e, ex, _⟩ := I.hok p _ hk
      refine ⟨⟨o, e, ex.1⟩, fun a e2 => ?_⟩
      cases e2
      exact ⟨o, e, ex.2.1⟩
  | _ => exact False.elim ty
def tBM (K : PySem.W.Frag) (T : String) (r : V → List V → Hp → VK → Prop) (to : TE) (t : TA) : TE := fun σ H Q => to σ H fun x H1 => tyV K T x H1 ∧ t σ H1 fun xs H2 => r x xs H2 Q
variable {o e : Expr} {es : List Expr} {to : TE} {t : TA} {name : Str} {apos cpos : Pos} {T id : String} {r : V → List V → Hp → VK → Prop}
theorem pe_bm (pa : PlainAttrs T) (slot : Slot T name id) (hty : typeOf (.builtin id) = pure (.type "method_descriptor")) (hm : MtR X id r) (ho : PE X o to) (ha : PA X (e :: es) t)
    (hbase : attributeBase o name X.env (eval o X.env) = eval o X.env := by rfl)
    (hfew : ((backTo cpos (starEach (e :: es) X.env)).all (fun x => !x.1) && (backToKw cpos (keywordEach [] X.env)).all (fun x => x.1.isSome)
      && decide ((e :: es).length + ([] : List Keyword).length + (if ([] : List Keyword).isEmpty then 0 else 1) < 30)) = true := by rfl)
    (hline : (apos.endLine == cpos.line) = true := by rfl) (hs : starEach (e :: es) X.env = (false, eval e X.env) :: starEach es X.env := by rfl) (hplain : (backTo cpos (starEach es X.env)).any (·.1) = false := by rfl) :
    PE X (.Call (.Attribute o name apos) (e :: es) [] cpos) (tBM X.K T r to t) := by
  intro pins s σ H Q I h
  refine wpAny_Call_method_late hbase hfew hline rfl (thn (ho pins s σ H _ I h) fun v s1 ⟨x, H1, I1, r1, ty, q1⟩ => ?_)
  obtain ⟨h1, h2⟩ := tyV_is I1 r1 ty
  refine ⟨T, id, pa, slot, hty, h1, h2, ?_⟩
  have hA := ha cpos pins s1 σ H1 _ I1 q1
  rw [hs] at hA ⊢
  refine Calls.callWith_builtin (by show (false || (backTo cpos (starEach es X.env)).any (·.1)) = false; rw [hplain] <;> rfl) (Calls.evalArgs_plain ?_)
  exact thn hA fun us s2 ⟨vs, H2, I2, r2, q2⟩ => hm pins s2 σ H2 x vs v us Q I2 r1 r2 q2
/- xs.append(e), list.index on a module's tuple .. are MtR facts of 06m -/
end
end L2
namespace L2
open PySem PySem.Spec PyProof.Rows
def MtM (X : Cx) (id : String) (r : V → List V → Hp → VK → Prop) : Prop :=
  ∀ (pins : List (Addr × Obj)) (s : Shared) (σ : St) (H : Hp) (x : V) (xs : List V) (v : Value) (us : List Value) (Q : VK), Inv X pins σ H s → RelV x v → Vals xs us → r x xs H Q →
    wpAny (model X.prog X.w) X.A (call (.builtin id) (v :: us)) (EP X pins σ Q) X.xe s
theorem Vals.one : ∀ {x : V} {us : List Value}, Vals [x] us → ∃ u, us = [u] ∧ RelV x u
  | _, _, .cons r .nil => ⟨_, rfl, r⟩
theorem Vals.zero : ∀ {us : List Value}, Vals [] us → us = []
  | _, .nil => rfl
theorem Vals.reverse {xs : List V} {us : List Value} (h : Vals xs us) : Vals xs.reverse us.reverse := by
  induction h with
  | nil => exact .nil
  | cons r t ih => rw [List.reverse_cons, List.reverse_cons]; exact Vals.append ih (.cons r .nil)
section
variable {X : Cx} {pins : List (Addr × Obj)} {σ : St} {H : Hp} {s : Shared} {l b : Addr} {xs ys zs : List V}
theorem Inv.lset {its its' : List Value} {n : Nat} {f : Array Value → Array Value} {t' : Nat} (I : Inv X pins σ H s) (hH : H l = some (.lst xs))
    (e : s.heap.get? l = some { cls := .type "list", data := .seq its.toArray n }) (hf : f its.toArray = its'.toArray) (hv : Vals ys its') (hz : ys.length ≤ sizeLine) :
    Inv X pins σ (upd H l (.lst ys)) { s with heap := s.heap.update l (Obj.mapSeq f), toks := t' } := by
  have q := PySem.IsL.update e f
  rw [hf] at q
  refine I.write (x := l) (e := l) (by rw [hH]; exact trivial) (.inl rfl) (fun b' u hb hu => (Heap.get?_update_other s.heap (Obj.mapSeq f) (Ne.symm hb)).trans hu) ⟨_, q⟩ ?_
  exact ⟨hz, its', _, hv, q⟩
theorem Inv.lnew {its : List Value} {t' : Nat} (I : Inv X pins σ H s) (hv : Vals ys its) (hz : ys.length ≤ sizeLine) :
    Inv X pins σ (upd H s.heap.objs.size (.lst ys)) { s with heap := s.heap.push { cls := .type "list", data := .seq its.toArray }, toks := t' } :=
  I.laid (fun _ _ q => Heap.get?_push_of_some _ q) (Nat.le_refl _) ⟨hz, its, 0, hv, Heap.get?_push_size _ rfl⟩
theorem Inv.fresh (I : Inv X pins σ H s) : H s.heap.objs.size = none := I.hok.fresh (Nat.le_refl _)
theorem Inv.lstM (I : Inv X pins σ H s) (hH : H l = some (.lst xs)) : xs.length ≤ sizeLine ∧ ∃ (its : List Value) (n : Nat), Vals xs its ∧ xs.length = its.length ∧ s.heap.get? l = some { cls := .type "list", data := .seq its.toArray n } := by
  obtain ⟨z, its, n, r, e⟩ := I.hok l _ hH
  exact ⟨z, its, n, r, r.length, e⟩
theorem notLongL {n : Nat} (h : n ≤ sizeLine) : Builtin.List.listTooLong n = false := by
  unfold Builtin.List.listTooLong
  exact decide_eq_false (by omega)
end
section
variable {X : Cx}
def rAppend : V → List V → Hp → VK → Prop := fun x vs H Q => ∃ l xs y, x = .ref l ∧ vs = [y] ∧ H l = some (.lst xs) ∧ xs.length < sizeLine ∧ Q .non (upd H l (.lst (xs ++ [y])))
theorem mt_append : MtM X "list.append" rAppend := by
  intro pins s σ H x vs v us Q I rx rv h
  obtain ⟨l, xs, y, rfl, rfl, hH, hz, q⟩ := h
  cases rx
  obtain ⟨u, rfl, ru⟩ := rv.one
  obtain ⟨z, its, n, r, hl, e⟩ := I.lstM hH
  refine call_meets F.slot_list_append ⟨_, e, rfl⟩ F.entry_list_append (F.args_list_append_2 _ _) (PySem.list_append l its.toArray n u (by rw [List.size_toArray]; omega)) ⟨e, ?_⟩
  refine ⟨.non, _, I.lset (its' := its ++ [u]) hH e (by simp) (r.append (.cons ru .nil)) ?_, rfl, q⟩
  rw [List.length_append, List.length_singleton]
  omega
def rExtend : V → List V → Hp → VK → Prop := fun x vs H Q => ∃ l b xs zs, x = .ref l ∧ vs = [.ref b] ∧ H l = some (.lst xs) ∧ H b = some (.lst zs) ∧ xs.length + zs.length ≤ sizeLine ∧ Q .non (upd H l (.lst (xs ++ zs)))
theorem mt_extend : MtM X "list.extend" rExtend := by
  intro pins s σ H x vs v us Q I rx rv h
  obtain ⟨l, b, xs, zs, rfl, rfl, hH, hB, hz, q⟩ := h
  cases rx
  obtain ⟨u, rfl, ru⟩ := rv.one
  cases ru
  obtain ⟨z, its, n, r, hl, e⟩ := I.lstM hH
  obtain ⟨z2, its2, n2, r2, hl2, e2⟩ := I.lstM hB
  have hsz : its.toArray.size + its2.toArray.size ≤ sizeLine := by rw [List.size_toArray, List.size_toArray]; omega
  have hlong : ¬ (!its.toArray.isEmpty && Builtin.List.listTooLong (its.toArray.size + its2.toArray.size)) = true := by
    rw [notLongL hsz, Bool.and_false]
    exact Bool.false_ne_true
  refine call_meets F.slot_list_extend ⟨_, e, rfl⟩ F.entry_list_extend (F.args_list_extend_2 _ _)
    (AutoSeq1.list_extend_list_list_0 l its.toArray n b its2.toArray n2 hlong (by rw [List.size_toArray]; omega) (by omega)) ⟨e, e2, ?_⟩
  refine ⟨.non, _, I.lset (its' := its ++ its2) hH e (by simp) (r.append r2) ?_, rfl, q⟩
  rw [List.length_append]
  omega
def rCat : R2 := fun x y H Q => ∃ l b xs zs, x = .ref l ∧ y = .ref b ∧ H l = some (.lst xs) ∧ H b = some (.lst zs) ∧ xs.length + zs.length ≤ sizeLine ∧ ∀ p, H p = none → Q (.ref p) (upd H p (.lst (xs ++ zs)))
theorem op_cat : OpR X (binaryOp .Add) rCat := by
  intro pins s σ H x y v u Q I rx ry h
  obtain ⟨l, b, xs, zs, rfl, rfl, hH, hB, hz, q⟩ := h
  cases rx
  cases ry
  obtain ⟨z, its, n, r, hl, e⟩ := I.lstM hH
  obtain ⟨z2, its2, n2, r2, hl2, e2⟩ := I.lstM hB
  refine PySem.P.add_list e e2 ?_ (by rw [List.size_toArray, List.size_toArray]; omega)
  have ea : its.toArray ++ its2.toArray = (its ++ its2).toArray := by simp
  rw [ea]
  exact ⟨.ref _, _, I.lnew (t' := s.toks) (r.append r2) (by rw [List.length_append]; omega), rfl, q _ I.fresh⟩
end
section
variable {prog : Program} {w : World} {A : Around} {E : Value → Shared → Prop} {s : Shared}
end
section
variable {X : Cx}
end
end L2
namespace L2
open PySem PySem.Spec PyProof.Rows
section
variable {κ : Type} [DecidableEq κ]
def valV (kvs : List (κ × V)) (k : κ) : Option V := (kvs.find? fun kv => decide (kv.1 = k)).map (·.2)
def putK (kvs : List (κ × V)) (k : κ) (v : V) : List (κ × V) :=
  if (kvs.any fun kv => decide (kv.1 = k)) = true then kvs.map (fun kv => if kv.1 = k then (kv.1, v) else kv) else kvs ++ [(k, v)]
def dropK (kvs : List (κ × V)) (k : κ) : List (κ × V) := kvs.filter fun kv => decide (kv.1 ≠ k)
theorem valV_pos {p : κ × V} {r : List (κ × V)} {k : κ} (e : p.1 = k) : valV (p :: r) k = some p.2 := by simp [valV, List.find?_cons, e]
theorem valV_neg {p : κ × V} {r : List (κ × V)} {k : κ} (e : ¬ p.1 = k) : valV (p :: r) k = valV r k := by simp [valV, List.find?_cons, e]
theorem valV_any (k : κ) : ∀ kvs : List (κ × V), (kvs.any fun kv => decide (kv.1 = k)) = (valV kvs k).isSome
  | [] => rfl
  | p :: r => by
    rw [List.any_cons]
    by_cases e : p.1 = k
    · simp only [valV_pos e, decide_eq_true e, Bool.true_or, Option.isSome_some]
    · rw [valV_neg e, decide_eq_false e, Bool.false_or]; exact valV_any k r
theorem length_putK (kvs : List (κ × V)) (k : κ) (v : V) : (putK kvs k v).length ≤ kvs.length + 1 := by
  unfold putK
  split
  · rw [List.length_map]; omega
  · rw [List.length_append, List.length_cons, List.length_nil]; omega
theorem RelO.isSome_eq {o : Option V} {u : Option Value} (r : RelO o u) : o.isSome = u.isSome := by
  cases o with
  | none => cases u with
    | none => rfl
    | some _ => exact (show False from r).elim
  | some _ => cases u with
    | none => exact (show False from r).elim
    | some _ => rfl
theorem RelO.getD {o : Option V} {u : Option Value} {d : V} {d' : Value} (r : RelO o u) (rd : RelV d d') : RelV (o.getD d) (u.getD d') := by
  cases o with
  | none => cases u with
    | none => exact rd
    | some _ => exact (show False from r).elim
  | some _ => cases u with
    | none => exact (show False from r).elim
    | some _ => exact r
theorem KV.val {kvs : List (κ × V)} {vs : List (κ × Value)} (r : KV kvs vs) (k : κ) : RelO (valV kvs k) (valueAt vs k) := by
  unfold KV at r
  induction r with
  | nil => exact True.intro
  | @cons p q ps qs h t ih =>
    obtain ⟨h1, h2⟩ := h
    by_cases e : p.1 = k
    · have e' : q.1 = k := h1.symm.trans e
      have b : valueAt (q :: qs) k = some q.2 := by simp [valueAt, List.find?_cons, e']
      rw [valV_pos e, b]; exact h2
    · have e' : ¬ q.1 = k := fun z => e (h1.trans z)
      have b : valueAt (q :: qs) k = valueAt qs k := by simp [valueAt, List.find?_cons, e']
      rw [valV_neg e, b]; exact ih
theorem KV.any {kvs : List (κ × V)} {vs : List (κ × Value)} (r : KV kvs vs) (k : κ) : (kvs.any fun kv => decide (kv.1 = k)) = vs.any fun kv => decide (kv.1 = k) := by
  unfold KV at r
  induction r with
  | nil => rfl
  | cons h t ih => rw [List.any_cons, List.any_cons, ih, h.1]
theorem KV.repl {kvs : List (κ × V)} {vs : List (κ × Value)} (r : KV kvs vs) (k : κ) {y : V} {u : Value} (ry : RelV y u) :
    KV (kvs.map fun kv => if kv.1 = k then (kv.1, y) else kv) (vs.map fun kv => if kv.1 = k then (kv.1, u) else kv) := by
  unfold KV at r ⊢
  induction r with
  | nil => exact .nil
  | @cons p q ps qs h t ih =>
    rw [List.map_cons, List.map_cons]
    refine .cons ?_ ih
    obtain ⟨h1, h2⟩ := h
    by_cases e : p.1 = k
    · rw [if_pos e, if_pos (h1.symm.trans e)]; exact ⟨h1, ry⟩
    · rw [if_neg e, if_neg (fun z => e (h1.trans z))]; exact ⟨h1, h2⟩
theorem KV.put {kvs : List (κ × V)} {vs : List (κ × Value)} (r : KV kvs vs) (k : κ) {y : V} {u : Value} (ry : RelV y u) : KV (putK kvs k y) (stored vs k u) := by
  unfold putK stored
  rw [r.any k]
  by_cases e : (vs.any fun kv => decide (kv.1 = k)) = true
  · rw [if_pos e, if_pos e]; exact r.repl k ry
  · rw [if_neg e, if_neg e]; exact Paired.snoc r ⟨rfl, ry⟩
theorem KV.drop {kvs : List (κ × V)} {vs : List (κ × Value)} (r : KV kvs vs) (k : κ) : KV (dropK kvs k) (without vs k) := by
  unfold KV at r ⊢
  unfold dropK without
  induction r with
  | nil => exact .nil
  | @cons p q ps qs h t ih =>
    obtain ⟨h1, h2⟩ := h
    rw [List.filter_cons, List.filter_cons]
    by_cases e : p.1 = k
    · have a : ¬ decide (p.1 ≠ k) = true := by simp [e]
      have b : ¬ decide (q.1 ≠ k) = true := by simp [h1.symm.trans e]
      rw [if_neg a, if_neg b]; exact ih
    · have e' : ¬ q.1 = k := fun z => e (h1.trans z)
      have a : decide (p.1 ≠ k) = true := by simp [e]
      have b : decide (q.1 ≠ k) = true := by simp [e']
      rw [if_pos a, if_pos b]; exact .cons ⟨h1, h2⟩ ih
theorem KV.keys {kvs : List (κ × V)} {vs : List (κ × Value)} (r : KV kvs vs) : kvs.map (·.1) = vs.map (·.1) := by
  unfold KV at r
  induction r with
  | nil => rfl
  | cons h t ih => rw [List.map_cons, List.map_cons, ih, h.1]
theorem KV.length {kvs : List (κ × V)} {vs : List (κ × Value)} (r : KV kvs vs) : kvs.length = vs.length := Paired.length r
end
theorem kV_is {P : Program} {w : World} {k : Key} {u : Value} (r : RelV (kV k) u) : (mixKind P w).is k u = true := by
  cases k with
  | inl i => obtain ⟨t, e⟩ := (show ∃ t, u = Value.int i t from r); subst e; exact mixKind_int P w i t
  | inr x => obtain ⟨t, e⟩ := (show ∃ t, u = Value.str x t from r); subst e; exact mixKind_str P w x t
theorem items_are {P : Program} {w : World} : ∀ {ks : List Key} {us : List Value}, Vals (ks.map kV) us → ItemsAre (mixKind P w) ks us
  | [], _, r => by rw [List.map_nil] at r; cases r; exact .nil
  | k :: ks, _, r => by
    rw [List.map_cons] at r
    cases r with
    | cons h t => exact .cons (kV_is h) (items_are t)
abbrev KT (H : Hp) : List (List Key × V) → List (List Key × Addr × Value) → Prop := Paired fun p q => p.1 = q.1 ∧ H q.2.1 = some (.tup (p.1.map kV)) ∧ RelV p.2 q.2.2
theorem KT.val {H : Hp} {kvs : List (List Key × V)} {xs : List (List Key × Addr × Value)} (r : KT H kvs xs) (k : List Key) : RelO (valV kvs k) ((atKey xs k).map (·.2)) := by
  induction r with
  | nil => exact True.intro
  | @cons p q ps qs h t ih =>
    obtain ⟨h1, _, h2⟩ := h
    by_cases e : p.1 = k
    · have e' : q.1 = k := h1.symm.trans e
      have b : atKey (q :: qs) k = some q.2 := by simp [atKey, List.find?_cons, e']
      rw [valV_pos e, b]; exact h2
    · have e' : ¬ q.1 = k := fun z => e (h1.trans z)
      have b : atKey (q :: qs) k = atKey qs k := by simp [atKey, List.find?_cons, e']
      rw [valV_neg e, b]; exact ih
theorem KT.repl {H : Hp} {kvs : List (List Key × V)} {xs : List (List Key × Addr × Value)} (r : KT H kvs xs) (k : List Key) {y : V} {u : Value} (ry : RelV y u) :
    KT H (kvs.map fun kv => if kv.1 = k then (kv.1, y) else kv) (xs.map (putAt k u)) := by
  induction r with
  | nil => exact .nil
  | @cons p q ps qs h t ih =>
    rw [List.map_cons, List.map_cons]
    refine .cons ?_ ih
    obtain ⟨h1, h2, h3⟩ := h
    unfold putAt
    by_cases e : p.1 = k
    · rw [if_pos e, if_pos (h1.symm.trans e)]; exact ⟨h1, h2, ry⟩
    · rw [if_neg e, if_neg (fun z => e (h1.trans z))]; exact ⟨h1, h2, h3⟩
theorem KT.put {H : Hp} {kvs : List (List Key × V)} {xs : List (List Key × Addr × Value)} (r : KT H kvs xs) (k : List Key) {b : Addr} {y : V} {u : Value} (hb : H b = some (.tup (k.map kV))) (ry : RelV y u) :
    KT H (putK kvs k y) (storedH xs k b u) := by
  have e : (kvs.any fun kv => decide (kv.1 = k)) = (atKey xs k).isSome := by
    rw [valV_any, (r.val k).isSome_eq, Option.isSome_map]
  unfold putK storedH
  rw [e]
  by_cases q : (atKey xs k).isSome = true
  · rw [if_pos q, if_pos q]; exact r.repl k ry
  · rw [if_neg q, if_neg q]; exact Paired.snoc r ⟨rfl, hb, ry⟩
theorem KT.keeps {H H' : Hp} {kvs : List (List Key × V)} {xs : List (List Key × Addr × Value)} (r : KT H kvs xs) (ht : ∀ b ys, H b = some (.tup ys) → H' b = some (.tup ys)) : KT H' kvs xs :=
  Paired.mapP r fun _ _ z => ⟨z.1, ht _ _ z.2.1, z.2.2⟩
section
variable {P : Program} {w : World} {H : Hp} {h : Heap} {a : Addr}
theorem rd_of {u : HO} (ok : HOk P w H h) (e : Rd H a u) : ObjOk P w H h a u := e.ok ok
theorem dk_rd {kvs : List (Key × V)} (ok : HOk P w H h) (e : Rd H a (.dK kvs)) : kvs.length ≤ sizeLine ∧ (a == sysModules) = false ∧ ∃ vs, KV kvs vs ∧ h.DictOf (mixKind P w) a vs :=
  show ObjOk P w H h a (.dK kvs) from rd_of ok e
theorem dk_of {kvs : List (Key × V)} (ok : HOk P w H h) (e : H a = some (.dK kvs)) : kvs.length ≤ sizeLine ∧ (a == sysModules) = false ∧ ∃ vs, KV kvs vs ∧ h.DictOf (mixKind P w) a vs := dk_rd ok (.inl e)
theorem key_of {ks : List Key} (ok : HOk P w H h) (e : H a = some (.tup (ks.map kV))) : (tupleKind (mixKind P w)).is h ks a := by
  obtain ⟨_, its, r, o, h1, h2, n, h3⟩ := (show ObjOk P w H h a (.tup (ks.map kV)) from ok a _ e)
  exact ⟨o, its.toArray, n, h1, h2, h3, by simpa using items_are r⟩
theorem dt_rd {kvs : List (List Key × V)} (ok : HOk P w H h) (e : Rd H a (.dT kvs)) : kvs.length ≤ sizeLine ∧ (a == sysModules) = false ∧
    ∃ xs, KT H kvs xs ∧ h.DictOfH (tupleKind (mixKind P w)) a xs := by
  obtain ⟨z, y, xs, r, o, es, ep, h1, h2, h3, h4, h5⟩ := (show ObjOk P w H h a (.dT kvs) from rd_of ok e)
  refine ⟨z, y, xs, r, o, es, ep, h1, h2, h3, h4, fun x hx => ?_, h5⟩
  have all : ∀ {l : List (List Key × V)} {m : List (List Key × Addr × Value)}, KT H l m → ∀ x ∈ m, (tupleKind (mixKind P w)).is h x.1 x.2.1 := by
    intro l m q
    induction q with
    | nil => intro x hx; exact nomatch hx
    | @cons p q ps qs hq t ih =>
      intro x hx
      rcases List.mem_cons.mp hx with e | hx
      · subst e
        exact key_of ok (by rw [← hq.1]; exact hq.2.1)
      · exact ih x hx
  exact all r x hx
theorem dt_of {kvs : List (List Key × V)} (ok : HOk P w H h) (e : H a = some (.dT kvs)) : kvs.length ≤ sizeLine ∧ (a == sysModules) = false ∧
    ∃ xs, KT H kvs xs ∧ h.DictOfH (tupleKind (mixKind P w)) a xs := dt_rd ok (.inl e)
end
def DGet (H : Hp) (a : Addr) (y : V) (r : Option V) : Prop :=
  (∃ kvs k, Rd H a (.dK kvs) ∧ y = kV k ∧ r = valV kvs k) ∨ ∃ kvs k b, Rd H a (.dT kvs) ∧ y = .ref b ∧ H b = some (.tup (k.map kV)) ∧ r = valV kvs k
def DPut (H : Hp) (a : Addr) (y v : V) (H' : Hp) : Prop :=
  (∃ kvs k, H a = some (.dK kvs) ∧ y = kV k ∧ kvs.length < sizeLine ∧ H' = upd H a (.dK (putK kvs k v))) ∨
  ∃ kvs k b, H a = some (.dT kvs) ∧ y = .ref b ∧ H b = some (.tup (k.map kV)) ∧ kvs.length < sizeLine ∧ H' = upd H a (.dT (putK kvs k v))
theorem DGet.k {H : Hp} {a : Addr} {kvs : List (Key × V)} {k : Key} (e : H a = some (.dK kvs)) : DGet H a (kV k) (valV kvs k) := .inl ⟨kvs, k, .inl e, rfl, rfl⟩
theorem DGet.t {H : Hp} {a b : Addr} {kvs : List (List Key × V)} {k : List Key} (e : H a = some (.dT kvs)) (eb : H b = some (.tup (k.map kV))) : DGet H a (.ref b) (valV kvs k) := .inr ⟨kvs, k, b, .inl e, rfl, eb, rfl⟩
theorem DPut.k {H : Hp} {a : Addr} {kvs : List (Key × V)} {k : Key} {v : V} (e : H a = some (.dK kvs)) (hl : kvs.length < sizeLine) : DPut H a (kV k) v (upd H a (.dK (putK kvs k v))) := .inl ⟨kvs, k, e, rfl, hl, rfl⟩
theorem DPut.t {H : Hp} {a b : Addr} {kvs : List (List Key × V)} {k : List Key} {v : V} (e : H a = some (.dT kvs)) (eb : H b = some (.tup (k.map kV))) (hl : kvs.length < sizeLine) :
    DPut H a (.ref b) v (upd H a (.dT (putK kvs k v))) := .inr ⟨kvs, k, b, e, rfl, eb, hl, rfl⟩
section
variable {X : Cx} {pins : List (Addr × Obj)} {σ : St} {H : Hp} {s : Shared} {a : Addr} {y v : V} {u r : Value} {o : Option V} {A : Around} {E : Value → Shared → Prop}
theorem Inv.big (I : Inv X pins σ H s) : sysModules < s.heap.objs.size := by
  have h : mainGlobals < s.heap.objs.size := (I.mod.glob.keeps I.bk).lt
  exact Nat.lt_trans (by decide) h
theorem d_in {Q : Value → Shared → Prop} (hu : A.units + 1 < cLine) (I : Inv X pins σ H s) (g : DGet H a y o) (ry : RelV y u) (h : ∀ s', Inv X pins σ H s' → Q (.bool o.isSome) s') :
    wpAny (model X.prog X.w) A (compareOp .In u (.ref a)) Q E s := by
  rcases g with ⟨kvs, k, e, ey, l⟩ | ⟨kvs, k, b, e, ey, eb, l⟩
  · subst ey
    obtain ⟨z, hd, vs, rel, dd⟩ := dk_rd I.hok e
    refine wpAny_in_of (kV_is ry) hd dd.mapOf ?_
    rw [← (rel.val k).isSome_eq, ← l]
    exact h _ (I.tok _)
  · subst ey
    cases (show u = Value.ref b from ry)
    obtain ⟨z, hd, xs, rel, dd⟩ := dt_rd I.hok e
    refine wpAny_in_heap (tupleKind_room_in1 hu) (key_of I.hok eb) hd dd ?_
    have q := (rel.val k).isSome_eq
    rw [Option.isSome_map] at q
    rw [← q, ← l]
    exact h _ (I.tok _)
theorem d_write {h' : Heap} {t' : Nat} {ob : HO} (I : Inv X pins σ H s) (mu : Mut (H a)) (hs : Heap.SameBut a s.heap h') (he : ∃ q, h'.get? a = some q) (new : ObjOk X.prog X.w (upd H a ob) h' a ob) :
    Inv X pins σ (upd H a ob) { s with heap := h', toks := t' } :=
  I.write (x := a) (e := a) mu (.inl rfl) (fun b q hb z => (hs.2 b hb).trans z) he new
theorem dk_new {P : Program} {w : World} {H' : Hp} {h' : Heap} {kvs : List (Key × V)} {vs : List (Key × Value)} (z : kvs.length ≤ sizeLine) (hd : (a == sysModules) = false) (rel : KV kvs vs) (dd : h'.DictOf (mixKind P w) a vs) :
    ObjOk P w H' h' a (.dK kvs) := ⟨z, hd, vs, rel, dd⟩
theorem d_setItem {H' : Hp} {Q : Unit → Shared → Prop} (hu : A.units + 1 < cLine) (I : Inv X pins σ H s) (g : DPut H a y v H') (ry : RelV y u) (rv : RelV v r) (h : ∀ s', Inv X pins σ H' s' → Q () s') :
    wpAny (model X.prog X.w) A (setItem (.ref a) u r) Q E s := by
  rcases g with ⟨kvs, k, e, ey, l, eH⟩ | ⟨kvs, k, b, e, ey, eb, l, eH⟩
  · subst ey eH
    obtain ⟨z, hd, vs, rel, dd⟩ := dk_of I.hok e
    have hz : vs.length ≤ sizeLine := by rw [← rel.length]; exact z
    have hl : (putK kvs k v).length ≤ sizeLine := by have := length_putK kvs k v; omega
    refine wpAny_setItem_pairs (hsz := hz) (kV_is ry) dd fun h' dd' hs => h _ ?_
    have he : ∃ q, h'.get? a = some q := let ⟨q, _, _, hq, _⟩ := dd'; ⟨q, hq⟩
    exact d_write I (by rw [e]; exact True.intro) hs he (dk_new hl hd (rel.put k rv) dd')
  · subst ey eH
    cases (show u = Value.ref b from ry)
    obtain ⟨z, hd, xs, rel, dd⟩ := dt_of I.hok e
    have hz : xs.length ≤ sizeLine := by rw [← Paired.length rel]; exact z
    have hl : (putK kvs k v).length ≤ sizeLine := by have := length_putK kvs k v; omega
    refine wpAny_setItem_heap (hsz := hz) (tupleKind_room_in1 hu) (key_of I.hok eb) dd fun h' dd' hs => h _ ?_
    obtain ⟨q, es, ep, hq, h2, h3, h4, _, h5⟩ := dd'
    refine d_write I (by rw [e]; exact True.intro) hs ⟨q, hq⟩ ⟨hl, hd, _, (rel.put k eb rv).keeps fun c ys ec => ?_, q, es, ep, hq, h2, h3, h4, h5⟩
    rw [upd_ne (ne_of ec e (fun z => nomatch z))]
    exact ec
end
section
variable {X : Cx} {pins : List (Addr × Obj)} {σ : St} {H : Hp} {s : Shared} {a : Addr} {kvs : List (Key × V)} {k : Key} {u : Value} {A : Around} {E : Value → Shared → Prop}
end
def tDIn (ty td : TE) : TE := fun σ H Q => ty σ H fun y H1 => td σ H1 fun x H2 => ∃ a o, x = .ref a ∧ DGet H2 a y o ∧ Q (.bl o.isSome) H2
def sDPut (td ty tv : TE) : TS := fun D σ H => tv σ H fun v H1 => td σ H1 fun x H2 => ty σ H2 fun y H3 => ∃ a H4, x = .ref a ∧ DPut H3 a y v H4 ∧ D.nx σ H4
section
variable {X : Cx} {o i e value : Expr} {pos pos' tpos : Pos} {td ty tv : TE}
theorem pc_din (hu : X.A.units + 1 < cLine) (hi : PE X i ty) (ho : PE X o td) : PC X .In i o (tDIn ty td) := by
  intro pins s σ H Q I h
  refine thn (hi pins s σ H _ I h) fun iv s1 ⟨y, H1, I1, ry, q1⟩ => thn (ho pins s1 σ H1 _ I1 q1) fun u s2 ⟨x, H2, I2, rx, a, ov, ex, g, q2⟩ => ?_
  subst ex
  obtain rfl : u = Value.ref a := rx
  exact d_in hu I2 g ry fun s3 I3 => ⟨.bl ov.isSome, H2, I3, rfl, q2⟩
theorem ps_dput (hu : X.A.units + 1 < cLine) (ho : PE X o td) (hi : PE X i ty) (hv : PE X value tv) (hs : swapsWith value (some (.Subscript o i pos')) pos.line X.env = pure false) :
    PS X (.Assign [.Subscript o i pos'] value pos) (sDPut td ty tv) := by
  intro pins s σ H D I h
  refine wpAny_Assign_Subscript (thn (hv pins s σ H _ I h) fun r s1 ⟨v, H1, I1, rv, q1⟩ => thn (ho pins s1 σ H1 _ I1 q1) fun u s2 ⟨x, H2, I2, rx, q2⟩ => thn (hi pins s2 σ H2 _ I2 q2) fun iv s3 ⟨y, H3, I3, ry, a, H4, ex, g, q3⟩ => ?_) hs
  subst ex
  obtain rfl : u = Value.ref a := rx
  exact d_setItem hu I3 g ry rv fun s4 I4 => ⟨σ, H4, I4, q3⟩
end
theorem dk_empty {P : Program} {w : World} {H : Hp} (h : Heap) (hb : sysModules < h.objs.size) : ObjOk P w H (h.push { cls := .type "dict", data := .dict #[] }) h.objs.size (.dK []) :=
  ⟨Nat.zero_le _, beq_eq_false_iff_ne.mpr (Ne.symm (Nat.ne_of_lt hb)), [], .nil, Heap.DictOf.new h⟩
def tDNewK : TE := fun _ H Q => ∀ p, H p = none → Q (.ref p) (upd H p (.dK []))
section
variable {X : Cx} {pos : Pos}
theorem pe_dnewK : PE X (.Dict [] [] pos) tDNewK := fun pins s σ H Q I h =>
  wpAny_Dict_empty ⟨.ref s.heap.objs.size, _, I.laid (a := s.heap.objs.size) (o := .dK []) (t' := s.toks) (fun _ _ q => Heap.get?_push_of_some _ q) (Nat.le_refl _) (dk_empty s.heap I.big), rfl, h _ (I.hok.fresh (Nat.le_refl _))⟩
end
structure M1 (X : Cx) (o : Expr) (m : Str) (apos : Pos) (e : Expr) (cpos : Pos) : Prop where
  base : attributeBase o m X.env (eval o X.env) = eval o X.env
  few : ((backTo cpos (starEach [e] X.env)).all (fun x => !x.1) && (backToKw cpos (keywordEach [] X.env)).all (fun x => x.1.isSome)
    && decide (([e] : List Expr).length + ([] : List Keyword).length + (if ([] : List Keyword).isEmpty then 0 else 1) < 30)) = true
  line : (apos.endLine == cpos.line) = true
  trees : backTo cpos (starEach [e] X.env) = [(false, eval e X.env)]
structure M2 (X : Cx) (o : Expr) (m : Str) (apos : Pos) (e f : Expr) (cpos : Pos) : Prop where
  base : attributeBase o m X.env (eval o X.env) = eval o X.env
  few : ((backTo cpos (starEach [e, f] X.env)).all (fun x => !x.1) && (backToKw cpos (keywordEach [] X.env)).all (fun x => x.1.isSome)
    && decide (([e, f] : List Expr).length + ([] : List Keyword).length + (if ([] : List Keyword).isEmpty then 0 else 1) < 30)) = true
  line : (apos.endLine == cpos.line) = true
  trees : backTo cpos (starEach [e, f] X.env) = [(false, eval e X.env), (false, eval f X.env)]
section
variable {X : Cx} {pins : List (Addr × Obj)} {σ : St} {H : Hp} {s : Shared} {a : Addr} {y d : V} {u r : Value} {o : Option V} {A : Around} {E : Value → Shared → Prop}
end
section
variable {X : Cx} {o e f : Expr} {apos cpos : Pos} {td ty tx : TE}
end
section
variable {X : Cx} {pins : List (Addr × Obj)} {σ : St} {H : Hp} {s : Shared} {a : Addr} {kvs : List (Key × V)} {A : Around} {E : Value → Shared → Prop}
end
section
variable {X : Cx} {pins : List (Addr × Obj)} {σ : St} {H : Hp} {s : Shared} {a : Addr} {y : V} {u : Value} {A : Around} {E : Value → Shared → Prop}
end
end L2
namespace Att
open PySem PySem.W PySem.Calls PyProof.Rows
theorem ints_of_wellAll {P : Params} {h : Heap} : ∀ (ns : List Int) (vs : List Value), WellAll P h vs (ns.map WData.int) → IntsAre vs ns := by
  intro ns
  induction ns with
  | nil =>
    intro vs w
    rw [List.map_nil] at w
    cases w
    exact .nil
  | cons n ns ih =>
    intro vs w
    rw [List.map_cons] at w
    cases w with
    | cons a b =>
      cases a
      exact .cons _ _ (ih _ b)
theorem script_of {l : OpenLaw} {n : Nat} (hn : l.most = some n) {P : Params} {h : Heap} {args : List WData} {vals : List Value}
    (hpre : l.row.toRowW.claim.pre args = true) (hwl : WellAll P h vals args) :
    ∃ a vs ns, vals = [Value.ref a] ∧ args = [WData.list (ns.map WData.int)] ∧ h.get? a = some { cls := .type "list", data := .seq vs.toArray } ∧ IntsAre vs ns ∧ ns.length ≤ n := by
  have hsh : WShape.hasAll [] args [.list .int] = true := (pre_splitW hpre).1
  have hc : l.pre.holds [] { args := args } = true := (pre_splitW hpre).2
  obtain ⟨d, r, rfl, h1, h2⟩ := hasAllW_cons hsh
  obtain rfl := hasAllW_nil h2
  obtain ⟨xs, rfl, h3⟩ := hasW_list h1
  obtain ⟨ns, rfl⟩ := items_int h3
  have hlen : ns.length ≤ n := by
    unfold OpenLaw.pre at hc
    have h4 : (WTm.not (.lt (.lit (.int (n : Int))) (.len (.arg 0)))).holds [] { args := [.list (ns.map .int)] } = true := by
      have h4 := (holds_andW hc).1
      rw [hn] at h4
      exact h4
    have h5 := condW_of h4 (w_not (w_lt w_lit (w_len_list (w_arg rfl))))
    rw [List.length_map] at h5
    refine Nat.le_of_not_lt fun q => ?_
    have q' : (n : Int) < ((ns.length : Nat) : Int) := by omega
    first
      | (rw [decide_eq_true q'] at h5; exact absurd h5 (by decide))
      | (simp at h5; omega)
  cases hwl with
  | cons w1 w2 =>
    cases w2
    cases w1 with
    | list ho hall => exact ⟨_, _, ns, rfl, rfl, ho, ints_of_wellAll ns _ hall, hlen⟩
theorem post_true (l : OpenLaw) (args : List WData) : l.row.toRowW.claim.post args (.bool true) args = true :=
  postW_of (r := l.row.toRowW) (X := (true == true))
    (show WShape.has [] (.bool true) .bool = true by first | rfl | decide | simp [WShape.has, WShape.arms, WShape.armsAll])
    (show (WTm.eq .res (.lit (.bool true))).value [] { args := args, res := some (.bool true), after := args } = some (.bool (true == true)) from w_eq_bool (w_res rfl) w_lit) rfl
theorem attach_call {l : OpenLaw} {n : Nat} {q : Program} {loose : List Str} {XP : (Str → Option Value) → Heap → Prop} {YP : World → Heap → Prop} {d : DefRec}
    (hn : l.most = some n) (hdf : d.params.defaults = [])
    (call : ∀ (w : World) (s₀ s₁ : Shared) (mg mb : Str → Option Value) (fa : Addr) (o : Obj) (pm cd doc : Value) (a : Addr) (vs : List Value) (ns : List Int),
      Ground q loose [] XP w s₀ mg mb s₁.heap → YP w s₁.heap →
      s₁.heap.get? fa = some o → o.data = .func (docDef d.name d.params d.body d.scope pm cd doc) → s₁.heap.CodeRec cd d.name → mg d.name = some (.ref fa) →
      s₁.heap.get? a = some { cls := .type "list", data := .seq vs.toArray } → IntsAre vs ns → ns.length ≤ n → s₁.gens = #[] →
      codeAny (model l.prog w) callerA (.call (.ref fa) ⟨[.ref a], []⟩) (fun r s' => r = .ok (.ret (.bool true)) ∧ OldK s₁.heap s'.heap ∧ s'.os = s₁.os ∧ AllBare s'.gens) s₁) :
    WalkO q loose XP YP l.row.toRowW d [] (fun f vs => PySem.call f vs) := by
  intro w s₀ s₁ mg mb G Y fa o pm cd doc dV kV ho hd hcd hD hmg hg args vals as hpre hlay hrd hwl hlo
  obtain rfl : dV = .none := Dflts.none hD hdf
  obtain rfl : kV = .none := Dflts.noKw hD
  obtain ⟨a, vs, ns, rfl, rfl, hobj, hints, hlen⟩ := script_of hn hpre hwl
  refine enter_call (codeAny_mono (call w s₀ s₁ mg mb fa o pm cd doc a vs ns G Y ho (fd_plain hd) hcd hmg hobj hints hlen hg) fun r s' hq => ?_)
  obtain ⟨rfl, h2, h3, h4⟩ := hq
  exact ⟨.inl ⟨.bool true, .bool true, [], rfl, fun _ => rfl, .bool true, post_true l _, fun _ => ⟨List.Pairwise.nil, fun _ hm => (nomatch hm)⟩⟩, h2, h3, h4⟩
section
variable {prog : Program} {w : World} {A : Around} {E : Value → Shared → Prop} {s : Shared} {K : Frag}
end
end Att
namespace L2
open PySem PySem.Spec PyProof.Rows
theorem vals_ints : ∀ {vs : List Value} {ns : List Int}, IntsAre vs ns → Vals (ns.map V.int) vs
  | _, _, .nil => .nil
  | _, _, .cons n t h => .cons ⟨t, rfl⟩ (vals_ints h)
def Only (H : Hp) : Prop := ∀ b, H b = none ∨ ∃ o xs, H b = some (.frz o (.lst xs))
theorem law_call {P : Program} {w : World} {K : PySem.W.Frag} {mg mb : Str → Option Value} {CX : CXT} {k : Nat} {fa a : Addr} {fd : FuncData} {x : Str} {sp : Sp} {s₁ : Shared} {vs : List Value} {ns : List Int}
    (KX : K.In s₁.heap) (hns : s₁.heap.Ns mainGlobals mg) (hb : s₁.heap.Ns builtinsNs mb) (hbb : ∀ x : Str, x ≠ "__name__" → mb x = bootBuiltins x) (hlim : s₁.heap.NoLimit) (hg : s₁.gens = #[])
    (ha : s₁.heap.get? a = some { cls := .type "list", data := .seq vs.toArray }) (hi : IntsAre vs ns) (hl : ns.length ≤ sizeLine) (hr : Room k callerA)
    (F : ∀ base : Heap, K.In base → base.Ns mainGlobals mg → FnOk P w K mg base CX k fa fd [x] sp) (hbind : ∀ (s : Shared) (u : Value), BindsTo s fd ⟨[u], []⟩ [(x, u)])
    (hsp : ∀ H : Hp, Only H → SqL K H a (ns.map V.int) → sp [.ref a] H (fun v _ => v = .bl true) fun _ _ _ => False)
    (hCX : ∀ H e s', CX [] H s₁ (fun _ _ _ => False) e s' → False) :
    codeAny (model P w) callerA (.call (.ref fa) ⟨[.ref a], []⟩) (fun r s' => r = .ok (.ret (.bool true)) ∧ OldK s₁.heap s'.heap ∧ s'.os = s₁.os ∧ AllBare s'.gens) s₁ := by
  have rv := vals_ints hi
  have lenV := hi.length
  have core : ∀ H : Hp, Only H → SqL K H a (ns.map V.int) → HOk P w H s₁.heap → (∀ b, H b ≠ none → b = a) → (H a ≠ none → K.lookup a = none) →
      codeAny (model P w) callerA (.call (.ref fa) ⟨[.ref a], []⟩) (fun r s' => r = .ok (.ret (.bool true)) ∧ OldK s₁.heap s'.heap ∧ s'.os = s₁.os ∧ AllBare s'.gens) s₁ := by
    intro H hO hS hok hA hK
    have base_of : ∀ {b : Addr} {o : Obj}, s₁.heap.get? b = some o → H b = none → (hidT s₁.heap H).get? b = some o := fun e n => hidT_get e n
    have noA : ∀ {b : Addr} {o : Obj} {es : Array DictEntry} {ep : Nat}, s₁.heap.get? b = some o → o.data = .dict es ep → H b = none := fun {b o es ep} e d => by
      cases q : H b with
      | none => rfl
      | some u =>
        have e' : b = a := hA b (by rw [q]; simp)
        subst e'
        rw [ha] at e; cases e
        have d' : Data.seq vs.toArray _ = Data.dict es ep := d
        cases d'
    have nsK : ∀ {b : Addr} {m : Str → Option Value}, s₁.heap.Ns b m → (hidT s₁.heap H).Ns b m := fun {b m} ⟨o, es, ep, e, d, r⟩ => ⟨o, es, ep, base_of e (noA e d), d, r⟩
    have hKb : K.In (hidT s₁.heap H) := fun b o e => base_of (KX b o e) (by
      cases q : H b with
      | none => rfl
      | some u =>
        have e' : b = a := hA b (by rw [q]; simp)
        subst e'
        rw [hK (by rw [q]; simp)] at e; cases e)
    have hM : Mod K mg (hidT s₁.heap H) := ⟨hKb, nsK hns, ⟨mb, nsK hb, hbb⟩, let ⟨mc, h1, h2⟩ := hlim; ⟨mc, nsK h1, h2⟩⟩
    have e0 : Env0 P w K mg (hidT s₁.heap H) callerA [] s₁ H := ⟨rfl, hM, fun b o e => of_hidT e, Nat.le_of_eq (hidT_size _ _), trivial, fun b hb => absurd (show b ∈ ([] : List Addr) from hb) (by simp), hok, .of_eq hg⟩
    refine codeAny_mono ((F _ hKb (nsK hns)).run callerA [] s₁ H ⟨[.ref a], []⟩ [.ref a] [.ref a] _ _ hr e0 (hbind s₁ (.ref a)) (.cons rfl .nil) (hsp H hO hS)) fun r s' h => ?_
    cases r with
    | error e => exact (hCX H e s' h).elim
    | ok fl =>
      cases fl with
      | next => exact False.elim h
      | brk => exact False.elim h
      | cont => exact False.elim h
      | ret u =>
        obtain ⟨v, H', os, bare, un, hok', r', q⟩ := h
        have q' : v = .bl true := q
        subst q'
        obtain rfl : u = Value.bool true := r'
        refine ⟨rfl, OldK.of_keep fun b o e => ?_, os, bare⟩
        cases q : H b with
        | none => exact un.keep b o e q (by intro z; exact absurd (show b ∈ ([] : List Addr) from z) (by simp)) (by simp)
        | some u =>
          rcases hO b with z | ⟨ob, xs, z⟩
          · rw [q] at z; cases z
          · have z2 := un.frzs b ob _ z
            obtain ⟨e1, _⟩ := hok b _ z
            obtain ⟨e2, _⟩ := hok' b _ z2
            rw [e] at e1; cases e1
            exact e2
  cases hk : K.lookup a with
  | some o =>
    have e := KX a o hk
    rw [ha] at e
    cases e
    refine core (fun _ => none) (fun _ => .inl rfl) (.inr ⟨_, vs.toArray, _, hk, rfl, rfl, rfl, by rw [List.size_toArray, lenV]; exact hl, by simpa using rv⟩) (fun b u z => by have z' : (none : Option HO) = some u := z; cases z') (fun b z => absurd rfl z) fun z => absurd rfl z
  | none =>
    refine core (fun b => if b = a then some (.frz { cls := .type "list", data := .seq vs.toArray } (.lst (ns.map V.int))) else none) (fun b => ?_) (.inl (.inr ⟨{ cls := .type "list", data := .seq vs.toArray }, if_pos rfl⟩)) (fun b u z => ?_) (fun b z => ?_) fun _ => hk
    · by_cases hb : b = a
      · exact .inr ⟨_, _, if_pos hb⟩
      · exact .inl (if_neg hb)
    · by_cases hb : b = a
      · have z' := (if_pos hb).symm.trans z
        cases z'
        subst hb
        exact ⟨ha, by rw [List.length_map]; exact hl, vs, _, rv, ha⟩
      · have z' := (if_neg hb).symm.trans z
        cases z'
    · by_cases hb : b = a
      · exact hb
      · exact absurd (if_neg hb) z
end L2
namespace L2
open PySem PySem.Spec PyProof.Rows
abbrev KOf {K : PySem.W.Frag} {h : Heap} (_ : K.In h) : PySem.W.Frag := K
theorem walk_of {l : PySem.W.OpenLaw} {n k : Nat} {q : Program} {loose : List Str} {XP : (Str → Option Value) → Heap → Prop} {YP : World → Heap → Prop} {d : DefRec} {K : Params → PySem.W.Frag} {CX : World → CXT} {sp : World → Sp} {x : Str}
    (hn : l.most = some n) (hn2 : n ≤ sizeLine) (hdf : d.params.defaults = []) (hr : Room k callerA)
    (hY : ∀ (w : World) (h : Heap), YP w h → (K w.params).In h)
    (F : ∀ (w : World) (mg : Str → Option Value) (fa : Addr) (h : Heap), (K w.params).In h → h.Ns mainGlobals mg → mg d.name = some (.ref fa) →
      ∃ fd : FuncData, (∀ (s : Shared) (u : Value), BindsTo s fd ⟨[u], []⟩ [(x, u)]) ∧
        ∀ base : Heap, (K w.params).In base → base.Ns mainGlobals mg → FnOk l.prog w (K w.params) mg base (CX w) k fa fd [x] (sp w))
    (hsp : ∀ (w : World) (H : Hp) (a : Addr) (ns : List Int), ns.length ≤ n → Only H → SqL (K w.params) H a (ns.map V.int) → sp w [.ref a] H (fun v _ => v = .bl true) fun _ _ _ => False)
    (hCX : ∀ (w : World) (H : Hp) (s : Shared) (e : Value) (s' : Shared), CX w [] H s (fun _ _ _ => False) e s' → False) :
    PySem.W.WalkO q loose XP YP l.row.toRowW d [] (fun f vs => PySem.call f vs) := by
  refine Att.attach_call hn hdf fun w s₀ s₁ mg mb fa o pm cd doc a vs ns G Y ho hd hcd hmg hobj hints hlen hg => ?_
  have KX := hY w _ Y
  obtain ⟨fd, hb, hF⟩ := F w mg fa _ KX G.T.g hmg
  exact law_call KX G.T.g G.T.b G.T.builtins G.T.nolimit hg hobj hints (Nat.le_trans hlen hn2) hr hF hb (fun H hO hS => hsp w H a ns hlen hO hS) fun H e s' => hCX w H s₁ e s'
theorem walk_ofK {l : PySem.W.OpenLaw} {n k : Nat} {q : Program} {loose : List Str} {XP : (Str → Option Value) → Heap → Prop} {YP : World → Heap → Prop} {d : DefRec} {K : Params → PySem.W.Frag} {CX : CXT} {sp : PySem.W.Frag → Sp} {x : Str}
    (hn : l.most = some n) (hn2 : n ≤ sizeLine) (hdf : d.params.defaults = []) (hr : Room k callerA)
    (hY : ∀ (w : World) (h : Heap), YP w h → (K w.params).In h)
    (F : ∀ (w : World) (mg : Str → Option Value) (fa : Addr) (h : Heap), (K w.params).In h → h.Ns mainGlobals mg → mg d.name = some (.ref fa) →
      ∃ fd : FuncData, (∀ (s : Shared) (u : Value), BindsTo s fd ⟨[u], []⟩ [(x, u)]) ∧
        ∀ base : Heap, (K w.params).In base → base.Ns mainGlobals mg → FnOk l.prog w (K w.params) mg base CX k fa fd [x] (sp (K w.params)))
    (hsp : ∀ (K : PySem.W.Frag) (H : Hp) (a : Addr) (ns : List Int), ns.length ≤ n → Only H → SqL K H a (ns.map V.int) → sp K [.ref a] H (fun v _ => v = .bl true) fun _ _ _ => False)
    (hCX : ∀ (H : Hp) (s : Shared) (e : Value) (s' : Shared), CX [] H s (fun _ _ _ => False) e s' → False) :
    PySem.W.WalkO q loose XP YP l.row.toRowW d [] (fun f vs => PySem.call f vs) :=
  walk_of (K := K) (CX := fun _ => CX) (sp := fun w => sp (K w.params)) hn hn2 hdf hr hY F (fun w H a ns h1 h2 h3 => hsp (K w.params) H a ns h1 h2 h3) fun _ H s e s' => hCX H s e s'
end L2
/- THE LAST THEOREM (shape; LID, My.* are yours):
   My.Adr: a structure of the addresses that your layer names (classes, functions); My.Txt K t: a structure (Prop) of the equations over K;
   My.txt_mk : {K} {implicit addresses ..} (e1 : nsIn K mainGlobals "law" = some (some (.ref f))) (e2 : K.lookup f = some ⟨oc, od, .func (fnOf "law" "law" params body scope dV kV doc pm an cdv ct), sl⟩) (e3 : codeIn K cdv "law" = true) .. : ∃ t, My.Txt K t
set_option maxRecDepth 100000 in
set_option maxHeartbeats 0 in
theorem PySem.Challenge.cw_LID_holds : PySem.Challenge.rw_LID.Holds := by
  w_on; o_law; k_head; (case hw => w_witness2)
  k_fill
  refine L2.walk_of (l := PySem.Challenge.rw_LID) (n := 63) (k := 40) (x := "script") (CX := fun w => ..) (sp := fun _ => My.sp_law) rfl (by decide) rfl ⟨rfl, by decide, by decide⟩ (fun w h Y => PySem.W.kIn_of Y) ?F ?S ?C
  case F =>
    intro w mg fa h KX G hmg
    have T : ∃ t, My.Txt (L2.KOf KX) t := by
      dsimp only [L2.KOf]                          -- K must stand as «<heap const> w.params» for k_is
      refine' My.txt_mk ?e1 ?e2 ?e3 ..
      (case e1 => PySem.W.k_is)                    -- in the order: a name -> its address -> its object -> its parts
      (case e2 => PySem.W.k_is)
      ..
    obtain ⟨t, T⟩ := T
    have e0 := hmg.symm.trans (PySem.W.mg_of KX G T.law)
    cases e0                                       -- fa is the law's own address
    exact ⟨_, fun s u => .of_eq rfl, fun base kb nb => My.law_fn T kb nb⟩     -- if «.of_eq rfl» comes too early: refine' ⟨_, ?b, fun base kb nb => My.law_fn T kb nb⟩; exact fun s u => .of_eq rfl
  case S => exact fun w H a ns hl hO hS => ..
  case C => exact ..
(the tactic k_is has no namespace: write k_is) -/
namespace L2
open PySem PySem.Spec PyProof.Rows
def defArgs (s : Stmt) : Arguments := match s with
  | .FunctionDef _ a _ _ _ _ _ _ _ _ => a
  | _ => { posonlyargs := [], args := [], vararg := none, kwonlyargs := [], kw_defaults := [], kwarg := none, defaults := [] }
def defBody (s : Stmt) : List Stmt := match s with
  | .FunctionDef _ _ b _ _ _ _ _ _ _ => b
  | _ => []
def defScope (s : Stmt) : Scope := match s with
  | .FunctionDef _ _ _ _ _ _ sc _ _ _ => sc
  | _ => { kind := .function, names := [], isGenerator := false, isCoroutine := false }
abbrev CX0 : CXT := fun _ _ _ _ _ _ => False
abbrev E0 : XK := fun _ _ _ => False
theorem pass0 {X : Cx} : Passes CX0 X E0 := fun _ _ _ _ _ _ _ h => h.elim
structure Fun (K : PySem.W.Frag) (x qual : Str) (st : Stmt) (f : Addr) (fd : FuncData) : Prop where
  ex : ∃ (oc : Value) (od : Option Addr) (kV doc pm : Value) (an : Option Addr) (cdv ct : Value) (osl : Array (Option Value)),
    fd = PySem.W.fnOf x qual (defArgs st) (defBody st) (defScope st) .none kV doc pm an cdv ct ∧ K.lookup f = some ⟨oc, od, .func fd, osl⟩ ∧ PySem.W.codeIn K cdv qual = true
  kp : PySem.W.keepIn K (.ref f) = true
section
variable {P : Program} {w : World} {K : PySem.W.Frag} {mg : Str → Option Value} {base : Heap}
theorem Fun.ok {x qual : Str} {st : Stmt} {f : Addr} {fd : FuncData} {N ps : List Str} {k : Nat} {sp : Sp} (F : Fun K x qual st f fd) (S : FnScope N ps (defScope st)) (len : ∀ vs H Q E, sp vs H Q E → vs.length = ps.length)
    (hbody : ∀ (cdv : Value) (A : Around) (outer : List Env) (s : Shared) (H : Hp) (vs : List V) (Q : VK) (E : XK), Room k (A.deeper (envOfC qual (defScope st) s.heap.objs.size f cdv)) → sp vs H Q E →
      ∃ t, PSs (cxOf CX0 P w K mg base N qual (defScope st) f cdv A outer s H E).nox (defBody st) t ∧ t { nx := fun _ H' => Q .non H', rt := Q } (start N vs) H) : FnOk P w K mg base CX0 (k + 1) f fd ps sp := by
  obtain ⟨oc, od, kV, doc, pm, an, cdv, ct, osl, rfl, lk, hcd⟩ := F.ex
  refine fn_of lk hcd S len fun A outer s H vs Q E hr hsp => ?_
  obtain ⟨t, h, q⟩ := hbody cdv A outer s H vs Q E hr hsp
  exact ⟨t, h.nox, q⟩
theorem Fun.binds {x qual : Str} {st : Stmt} {f : Addr} {fd : FuncData} {ps : List Str} (F : Fun K x qual st f fd)
    (h : ∀ (kV doc pm : Value) (an : Option Addr) (cdv ct : Value) (us : List Value), us.length = ps.length → bindArgs (PySem.W.fnOf x qual (defArgs st) (defBody st) (defScope st) .none kV doc pm an cdv ct) ⟨us, []⟩ = pure (ps.zip us)) : Binds K fd ps [] := by
  obtain ⟨oc, od, kV, doc, pm, an, cdv, ct, osl, rfl, lk, hcd⟩ := F.ex
  exact .all (h kV doc pm an cdv ct)
theorem fun_mk {x qual : Str} {st : Stmt} {f : Addr} {oc : Value} {od an : Option Addr} {osl : Array (Option Value)} {kV doc pm cdv ct : Value} (l : K.lookup f = some ⟨oc, od, .func (PySem.W.fnOf x qual (defArgs st) (defBody st) (defScope st) .none kV doc pm an cdv ct), osl⟩)
    (c : PySem.W.codeIn K cdv qual = true) (k : PySem.W.keepIn K (.ref f) = true) : Fun K x qual st f (PySem.W.fnOf x qual (defArgs st) (defBody st) (defScope st) .none kV doc pm an cdv ct) := ⟨⟨oc, od, kV, doc, pm, an, cdv, ct, osl, rfl, l, c⟩, k⟩
end
theorem hu_of {A : Around} {k : Nat} (hr : Room k A) : A.units + 1 < cLine := Nat.lt_of_le_of_lt (Nat.add_le_add_left (by decide : 1 ≤ 64) _) hr.units
theorem small1000 {n : Nat} (h : n ≤ 1000) : n < sizeLine := Nat.lt_of_le_of_lt h (by decide)
section
variable {X : Cx}
theorem pv (i : Nat) {x : Str} {pos : Pos} (hN : X.N[i]? = some x := by rfl) (hv : Vis X.env.scope x := by first | exact Or.inl rfl | exact Or.inr (Or.inl rfl) | exact Or.inr (Or.inr rfl)) (hd : (x == ("__debug__" : Str)) = false := by decide)
    (hcd : (x == ("__classdict__" : Str)) = false := by decide) : PE X (.Name x pos) (tVar i) := pe_var hN hv hd hcd
end
theorem iteF {A B : Prop} (h : B) : if false = true then A else B := by
  rw [if_neg Bool.false_ne_true]
  exact h
theorem iteT {A B : Prop} (h : A) : if true = true then A else B := by
  rw [if_pos rfl]
  exact h
theorem ite2 {c A B : Prop} [Decidable c] (h1 : c → A) (h2 : ¬ c → B) : if c then A else B := by
  by_cases h : c
  · rw [if_pos h]
    exact h1 h
  · rw [if_neg h]
    exact h2 h
def Same (H H' : Hp) : Prop := ∀ b o, H b = some o → H' b = some o
theorem Same.refl (H : Hp) : Same H H := fun _ _ h => h
theorem Same.trans {H H1 H2 : Hp} (a : Same H H1) (b : Same H1 H2) : Same H H2 := fun c o h => b c o (a c o h)
theorem Same.free {H H' : Hp} (e : Same H H') {l : Addr} (h : H' l = Option.none) : H l = Option.none := by
  cases q : H l with
  | none => rfl
  | some o =>
    rw [e l o q] at h
    cases h
theorem Same.seq {K : PySem.W.Frag} {H H' : Hp} {a : Addr} {xs : List V} (e : Same H H') (h : SqL K H a xs) : SqL K H' a xs := by
  rcases h with (h | ⟨o, h⟩) | h
  · exact .inl (.inl (e _ _ h))
  · exact .inl (.inr ⟨o, e _ _ h⟩)
  · exact .inr h
section
variable {X : Cx}
end
section
variable {κ : Type} [DecidableEq κ]
end
end L2
namespace L2
open PySem PySem.Spec PyProof.Rows
theorem lookup_cons_or {β : Type} {x n : Str} {b c : β} {l : List (Str × β)} (h : ((n, b) :: l).lookup x = some c) : (x = n ∧ b = c) ∨ l.lookup x = some c := by
  rw [List.lookup_cons] at h
  cases e : x == n with
  | true =>
    rw [e] at h
    exact .inl ⟨eq_of_beq e, Option.some.inj h⟩
  | false =>
    rw [e] at h
    exact .inr h
theorem lookup_cons_some {β : Type} {x n : Str} {b : β} {l : List (Str × β)} (h : x = n ∨ ∃ c, l.lookup x = some c) : ∃ c, ((n, b) :: l).lookup x = some c := by
  rw [List.lookup_cons]
  cases e : x == n with
  | true => exact ⟨b, rfl⟩
  | false =>
    rcases h with h | h
    · subst h
      simp at e
    · exact h
theorem closFor_go {env : Env} : ∀ (names : List (Str × NameKind)) (acc : List (Str × Addr)), (∀ y ∈ names, y.2 = .free → ∃ c, env.cells.lookup y.1 = some c) →
    (∀ x c, acc.lookup x = some c → env.cells.lookup x = some c) →
    ∃ cl, (forIn names acc (fun x r => if (x.2 == NameKind.free) = true then (cellOf env x.1 >>= fun c => pure (ForInStep.yield ((x.1, c) :: r))) else pure (ForInStep.yield r)) : Sem (List (Str × Addr))) = pure cl ∧
      (∀ x c, cl.lookup x = some c → env.cells.lookup x = some c) ∧ (∀ y ∈ names, y.2 = .free → ∃ c, cl.lookup y.1 = some c) ∧ (∀ x c, acc.lookup x = some c → ∃ c', cl.lookup x = some c')
  | [], acc, _, h => ⟨acc, rfl, h, (fun _ z => nomatch z), fun x c e => ⟨c, e⟩⟩
  | (n, k) :: r, acc, hn, h => by
    rw [List.forIn_cons]
    by_cases hk : k = .free
    · subst hk
      obtain ⟨c, hc⟩ := hn (n, .free) List.mem_cons_self rfl
      have e1 : (cellOf env n : Sem Addr) = pure c := by
        have hc' : env.cells.lookup n = some c := hc
        unfold cellOf
        rw [hc']
      obtain ⟨cl, e, h1, h2, h3⟩ := closFor_go r ((n, c) :: acc) (fun y hy => hn y (List.mem_cons_of_mem _ hy)) (fun x c' e => by
        rcases lookup_cons_or e with ⟨e1, e2⟩ | e
        · subst e1; subst e2; exact hc
        · exact h x c' e)
      refine ⟨cl, ?_, h1, ?_, fun x c' e => ?_⟩
      · show ((if ((n, NameKind.free).2 == NameKind.free) = true then (cellOf env n >>= fun c => pure (ForInStep.yield ((n, c) :: acc))) else pure (ForInStep.yield acc)) >>= _) = _
        rw [if_pos (show ((n, NameKind.free).2 == NameKind.free) = true from rfl), e1]
        exact e
      · intro y hy hf
        rcases List.mem_cons.mp hy with rfl | hy
        · exact h3 n c (by simp)
        · exact h2 y hy hf
      · obtain ⟨c2, e2⟩ := lookup_cons_some (n := n) (b := c) (.inr ⟨c', e⟩)
        exact h3 x c2 e2
    · obtain ⟨cl, e, h1, h2, h3⟩ := closFor_go r acc (fun y hy => hn y (List.mem_cons_of_mem _ hy)) h
      refine ⟨cl, ?_, h1, ?_, h3⟩
      · show ((if ((n, k).2 == NameKind.free) = true then (cellOf env n >>= fun c => pure (ForInStep.yield ((n, c) :: acc))) else pure (ForInStep.yield acc)) >>= _) = _
        rw [if_neg (by simpa using hk)]
        exact e
      · intro y hy hf
        rcases List.mem_cons.mp hy with rfl | hy
        · exact absurd hf hk
        · exact h2 y hy hf
theorem closFor {scope : Scope} {env : Env} (h : ∀ y ∈ scope.names, y.2 = .free → ∃ c, env.cells.lookup y.1 = some c) :
    ∃ cl, closureFor scope env = pure cl ∧ (∀ x c, cl.lookup x = some c → env.cells.lookup x = some c) ∧ (∀ y ∈ scope.names, y.2 = .free → ∃ c, cl.lookup y.1 = some c) := by
  obtain ⟨cl, e, h1, h2, _⟩ := closFor_go scope.names [] h (fun x c e => by simp at e)
  refine ⟨cl, ?_, h1, h2⟩
  unfold closureFor
  show ((forIn scope.names [] (fun x r => if (x.2 == NameKind.free) = true then (cellOf env x.1 >>= fun c => pure (ForInStep.yield ((x.1, c) :: r))) else pure (ForInStep.yield r)) : Sem (List (Str × Addr))) >>= fun r => pure r) = _
  rw [e]
  rfl
def relK (env : Env) (x : Str) (k : NameKind) : NameKind := if (k == .free && env.scope.kind == .function && env.kindOf x == some .cell) = true then .cell else k
theorem lookup_relabel {env : Env} {x : Str} : ∀ (names : List (Str × NameKind)),
    (names.map fun (n, k) => if (k == NameKind.free && env.scope.kind == .function && env.kindOf n == some .cell) = true then (n, NameKind.cell) else (n, k)).lookup x = (names.lookup x).map (relK env x)
  | [] => rfl
  | (n, k) :: r => by
    have ih := lookup_relabel (env := env) (x := x) r
    have e : (if (k == NameKind.free && env.scope.kind == .function && env.kindOf n == some .cell) = true then (n, NameKind.cell) else (n, k)) = (n, relK env n k) := by
      unfold relK
      split <;> rfl
    show List.lookup x ((if (k == NameKind.free && env.scope.kind == .function && env.kindOf n == some .cell) = true then (n, NameKind.cell) else (n, k)) :: _) = _
    rw [e, List.lookup_cons, List.lookup_cons]
    cases hx : x == n with
    | true =>
      have := eq_of_beq hx
      subst this
      rfl
    | false => exact ih
theorem kindOf_comp {scope : Scope} {cl : List (Str × Addr)} {C : Addr} {env : Env} {x : Str} : (compEnvC scope cl C env).kindOf x = (scope.names.lookup x).map (relK env x) := lookup_relabel (env := env) (x := x) scope.names
theorem relK_free {env : Env} {x : Str} : relK env x .free = .cell ∨ relK env x .free = .free := by
  unfold relK
  split
  · exact .inl rfl
  · exact .inr rfl
theorem relK_of {env : Env} {x : Str} {k : NameKind} (h : relK env x k = .cell ∨ relK env x k = .free) : k = .cell ∨ k = .free := by
  unfold relK at h
  split at h
  · rename_i z
    simp only [Bool.and_eq_true, beq_iff_eq] at z
    exact .inr z.1.1
  · exact h
def capt (caps : List (Option Nat)) (σ : St) : St := caps.map fun o => match o with
  | none => none
  | some j => (σ[j]?).join
def compOk (oN : List Str) (osc : Scope) (N : List Str) (caps : List (Option Nat)) (sc : Scope) : Bool :=
  (sc.kind == .function) && decide N.Nodup && (N.length == caps.length) && sc.names.all (fun y => !(y.2 == .cell)) &&
  sc.names.all (fun y => !(y.2 == .local) || sc.names.lookup y.1 == some .local) &&
  sc.names.all (fun y => !(y.2 == .free) || (osc.names.lookup y.1 == some .cell || osc.names.lookup y.1 == some .free)) &&
  (N.zip caps).all (fun p => match p.2 with
    | none => true
    | some j => oN[j]? == some p.1 && sc.names.lookup p.1 == some .free)
structure CompOk (oN : List Str) (osc : Scope) (N : List Str) (caps : List (Option Nat)) (sc : Scope) : Prop where
  kind : sc.kind = .function
  nd : N.Nodup
  len : N.length = caps.length
  nocell : ∀ y ∈ sc.names, y.2 ≠ .cell
  loc : ∀ y ∈ sc.names, y.2 = .local → sc.names.lookup y.1 = some .local
  fr : ∀ y ∈ sc.names, y.2 = .free → osc.names.lookup y.1 = some .cell ∨ osc.names.lookup y.1 = some .free
  cap : ∀ (i j : Nat) (x : Str), N[i]? = some x → caps[i]? = some (some j) → oN[j]? = some x ∧ sc.names.lookup x = some .free
theorem compOk_of {oN : List Str} {osc : Scope} {N : List Str} {caps : List (Option Nat)} {sc : Scope} (h : compOk oN osc N caps sc = true) : CompOk oN osc N caps sc := by
  unfold compOk at h
  simp only [Bool.and_eq_true, List.all_eq_true, decide_eq_true_eq, beq_iff_eq, Bool.or_eq_true, Bool.not_eq_true', beq_eq_false_iff_ne, ne_eq] at h
  obtain ⟨⟨⟨⟨⟨⟨h1, h2⟩, h3⟩, h4⟩, h5⟩, h6⟩, h7⟩ := h
  refine ⟨h1, h2, h3, h4, fun y hy e => ?_, fun y hy e => ?_, fun i j x hi hj => ?_⟩
  · rcases h5 y hy with z | z
    · exact absurd e z
    · exact z
  · rcases h6 y hy with z | z
    · exact absurd e z
    · exact z
  · have hm : (x, some j) ∈ N.zip caps := by
      refine List.mem_of_getElem? (i := i) ?_
      rw [List.getElem?_zip_eq_some]
      exact ⟨hi, hj⟩
    have := h7 _ hm
    simpa using this
def cxComp (X : Cx) (N : List Str) (scope : Scope) (cl : List (Str × Addr)) (C : Addr) (fp : List Addr) (s : Shared) (H : Hp) : Cx :=
  { X with N := N, s₀ := s, H₀ := H, env := compEnvC scope cl C X.env, outer := X.stack, ex := fp, fn := fun _ => false, pn := [], xe := fun _ _ => False }
section
variable {X : Cx} {pins : List (Addr × Obj)} {σ : St} {H : Hp} {s : Shared} {N : List Str} {caps : List (Option Nat)} {scope : Scope} {cl : List (Str × Addr)} {fp : List Addr}
theorem inv_comp (I : Inv X pins σ H s) (hf : ∀ b ∈ fp, FpOk X pins H b) (ho : ∀ b ∈ fp, ∃ o, s.heap.get? b = some o) (S : CompOk X.N X.env.scope N caps scope)
    (c1 : ∀ x c, cl.lookup x = some c → X.env.cells.lookup x = some c) (c2 : ∀ y ∈ scope.names, y.2 = .free → ∃ c, cl.lookup y.1 = some c)
    {h' : Heap} {m : Str → Option Value} {tk : Nat} (hn : h'.Ns s.heap.objs.size m) (hk : ∀ b u, s.heap.get? b = some u → h'.get? b = some u) :
    Inv (cxComp X N scope cl s.heap.objs.size fp s H) [] (capt caps σ) H { s with heap := h', toks := tk } := by
  have noS : ∀ b ∈ fp, b ∉ frs X.stack := fun b hb z => by
    obtain ⟨_, f1, f2, _⟩ := hf b hb
    rcases List.mem_cons.mp (I.stkSub b z) with e | e
    · exact f1 e
    · exact f2 e
  have frOf : ∀ x, scope.names.lookup x = some .free → ∃ c, cl.lookup x = some c := fun x e => c2 (x, .free) (PySem.mem_of_lookup e) rfl
  refine ⟨⟨I.ok.mod, S.kind, I.ok.glob, I.ok.blt, Nat.le_refl _, fun x y c e1 e2 => I.ok.inj x y c (c1 x c e1) (c1 y c e2), fun x hx => ?_, fun x c z _ => absurd (show false = true from z) (by decide), I.ok.hd, I.ok.frames, .inl rfl,
    fun b hb => ⟨?_, fun x c e => (hf b hb).2.2.2.2.1 x c (c1 x c e)⟩, I.bs, Nat.le_trans I.ok.bsz I.sz, fun b o e hb => ?_, noS, I.stack, I.stkFree⟩,
    rfl, I.bare, Un.kept hk, ⟨m, hn, fun i x v e1 e2 e3 => ?_⟩, fun x c e => ?_, I.hok.fresh (Nat.le_refl _), fun x c e => I.freeC x c (c1 x c e), fun p hp => absurd (show p ∈ ([] : List (Addr × Obj)) from hp) (by simp), I.hok.kept hk, ?_⟩
  · have hx' : (scope.names.lookup x).map (relK X.env x) = some .cell ∨ (scope.names.lookup x).map (relK X.env x) = some .free := by
      rw [← kindOf_comp (cl := cl) (C := s.heap.objs.size)]
      exact hx
    cases e : scope.names.lookup x with
    | none =>
      rw [e] at hx'
      rcases hx' with z | z <;> cases z
    | some k =>
      rw [e] at hx'
      have z : relK X.env x k = .cell ∨ relK X.env x k = .free := by
        rcases hx' with z | z
        · exact .inl (Option.some.inj z)
        · exact .inr (Option.some.inj z)
      rcases relK_of z with z | z
      · subst z
        exact absurd rfl (S.nocell _ (PySem.mem_of_lookup e))
      · subst z
        exact frOf x e
  · obtain ⟨o, e⟩ := ho b hb
    exact Nat.ne_of_lt (Heap.lt_size e)
  · obtain ⟨_, _, _, f3, _⟩ := hf b hb
    rcases f3 with z | z
    · exact I.ok.noex b o e z
    · exact absurd (Nat.lt_of_lt_of_le (Heap.lt_size e) (Nat.le_trans I.ok.bsz z)) (Nat.lt_irrefl _)
  · have hi : i < caps.length := by
      unfold capt at e2
      obtain ⟨h1, _⟩ := List.getElem?_eq_some_iff.mp e2
      simpa using h1
    have ec : (capt caps σ)[i]? = (caps[i]?).map fun o => match o with
        | none => none
        | some j => (σ[j]?).join := by
      unfold capt
      rw [List.getElem?_map]
    rw [e2] at ec
    cases q : caps[i]? with
    | none =>
      rw [q] at ec
      cases ec
    | some o =>
      rw [q] at ec
      cases o with
      | none =>
        cases (Option.some.inj ec)
      | some j =>
        have ej : σ[j]? = some (some v) := by
          have z : some v = (σ[j]?).join := Option.some.inj ec
          cases q2 : σ[j]? with
          | none => rw [q2] at z; cases z
          | some w => rw [q2] at z; exact congrArg some z.symm
        obtain ⟨n1, n2⟩ := S.cap i j x e1 q
        have vis : X.env.kindOf x = some .cell ∨ X.env.kindOf x = some .free := S.fr (x, .free) (PySem.mem_of_lookup n2) rfl
        obtain ⟨m0, _, hl⟩ := I.loc
        obtain ⟨u, r, l⟩ := hl j x v n1 ej (.inr vis)
        refine ⟨u, r, ?_⟩
        rcases l with ⟨k, _⟩ | ⟨_, c, ec, z⟩
        · rw [k] at vis
          rcases vis with z | z <;> cases z
        · obtain ⟨c', e'⟩ := frOf x n2
          have : c' = c := Option.some.inj ((c1 x c' e').symm.trans ec)
          subst this
          refine .inr ⟨?_, c', e', ?_⟩
          · have kk : (compEnvC scope cl s.heap.objs.size X.env).kindOf x = some (relK X.env x .free) := by rw [kindOf_comp, n2]; rfl
            rcases relK_free (env := X.env) (x := x) with z | z
            · rw [z] at kk; exact .inl kk
            · rw [z] at kk; exact .inr kk
          · obtain ⟨o, ho1, ho2⟩ := z
            exact ⟨o, hk _ _ ho1, ho2⟩
  · obtain ⟨v, o, ho1, ho2⟩ := I.cell x c (c1 x c e)
    exact ⟨v, o, hk _ _ ho1, ho2⟩
  · show (capt caps σ).length = N.length
    unfold capt
    rw [List.length_map]
    exact S.len.symm
end
end L2
namespace L2
open PySem PySem.Spec PyProof.Rows
def PF (X : Cx) (ifs : List Expr) (t : TT) : Prop :=
  ∀ (pins : List (Addr × Obj)) (s : Shared) (σ : St) (H : Hp) (Q : Bool → Hp → Prop), Inv X pins σ H s → t σ H Q →
    wpAny (model X.prog X.w) X.A (forIn ifs true fun c r => if r = true then do let ok ← isTrue c X.env (eval c X.env); pure (ForInStep.yield ok) else pure (ForInStep.yield r)) (TP X pins σ Q) X.xe s
def tYes : TT := fun _ H Q => Q true H
section
variable {X : Cx}
theorem pf_nil : PF X [] tYes := fun _ _ _ H _ I h => wpAny_pure ⟨H, I, h⟩
theorem pf_one {c : Expr} {t : TT} (hc : PT X c t) : PF X [c] t := by
  intro pins s σ H Q I h
  rw [List.forIn_cons]
  refine wpAny_bind ?_
  rw [if_pos rfl]
  refine wpAny_bind (thn (hc pins s σ H Q I h) fun ok s1 q => wpAny_pure ?_)
  exact wpAny_pure q
end
theorem compLoop_any {prog : Program} {w : World} {A : Around} {R : Result → Shared → Prop} {s : Shared} {elt target iter : Expr} {ifs : List Expr} {scope : Scope} {pos : Pos} {it acc : Value} {env : Env} (I : Nat → Shared → Prop)
    (turn : ∀ n s, I n s → wpAny (model prog w) A (pyNext it) (fun r s₁ => match r with
      | none => R (.ok .next) s₁
      | some v => wpAny (model prog w) A (letOwnedTupleGo target it v) (fun _ s₁' => wpAny (model prog w) A (assign target env v) (fun _ s₂ =>
          wpAny (model prog w) A (forIn ifs true fun c r => if r = true then do let ok ← isTrue c env (eval c env); pure (ForInStep.yield ok) else pure (ForInStep.yield r)) (fun ok s₃ =>
            if ok = true then wpAny (model prog w) A (eval elt env) (fun x s₄ =>
              wpAny (model prog w) A (call (.builtin "list.append") [acc, x]) (fun _ s₅ => ∃ m, m < n ∧ I m s₅) (fun _ _ => False) s₄) (fun _ _ => False) s₃
            else ∃ m, m < n ∧ I m s₃) (fun _ _ => False) s₂) (fun _ _ => False) s₁') (fun _ _ => False) s₁) (fun _ _ => False) s)
    (n : Nat) (h : I n s) :
    codeAny (model prog w) A (.compLoop (.ListComp elt [⟨target, iter, ifs, 0⟩] scope pos) 0 it acc env) R s := by
  refine codeAny_loop rfl I (fun n s hI => ?_) n h
  show wpAny _ A ((compTurn (.ListComp elt [⟨target, iter, ifs, 0⟩] scope pos) 0 it acc env).onRaise (fun x => do noteFrame x env; theTreesLotGoes x)) _ _ s
  refine wpAny_noted ?_
  rw [compTurn_list]
  refine wpAny_bind (wpAny_standAt (wpAny_bind (wpAny_mono (turn n s hI) (fun r s₁ h₁ => ?_) fun _ _ z => False.elim z)))
  cases r with
  | none => exact wpAny_pure h₁
  | some v =>
    refine wpAny_bind (wpAny_mono h₁ (fun _ s₁' h₁' => ?_) fun _ _ z => False.elim z)
    refine wpAny_bind (wpAny_mono h₁' (fun _ s₂ h₂ => wpAny_bind (wpAny_mono h₂ (fun ok s₃ h₃ => ?_) fun _ _ z => False.elim z)) fun _ _ z => False.elim z)
    cases ok with
    | false => exact wpAny_pure ⟨rfl, h₃⟩
    | true =>
      exact wpAny_bind (wpAny_bind (wpAny_mono h₃ (fun x s₄ h₄ => wpAny_bind (wpAny_mono h₄ (fun _ s₅ h₅ => wpAny_pure (wpAny_pure ⟨rfl, h₅⟩)) fun _ _ z => False.elim z)) fun _ _ z => False.elim z))
def CompW (J : It) (g : TG) (tf : TT) (te : TE) (D : Addr) (QE : Hp → Prop) (W : Nat → Nat → St → Hp → Prop) : Prop := ∀ i m σ H, W i m σ H →
  (J.stop i H ∧ QE H) ∨ (J.go i H ∧ ∃ N : St → Hp → Prop, (∀ σ' H', N σ' H' → ∃ m', m' < m ∧ W (i + 1) m' σ' H') ∧ ∀ x H', J.yld i H x H' → g x σ H' fun σ2 H2 => tf σ2 H2 fun b H3 =>
    if b = true then te σ2 H3 fun v H4 => ∃ xs, H4 D = some (.lst xs) ∧ xs.length < sizeLine ∧ N σ2 (upd H4 D (.lst (xs ++ [v]))) else N σ2 H3)
def tComp (caps : List (Option Nat)) (wi : TI) (g : TG) (tf : TT) (te : TE) : TE := fun σ H Q => wi σ H fun J H1 => ∀ D, H1 D = none →
  ∃ W : Nat → Nat → St → Hp → Prop, (∃ m, W 0 m (capt caps σ) (upd H1 D (.lst []))) ∧ CompW J g tf te D (fun H' => Q (.ref D) H') W
section
variable {X : Cx} {pins : List (Addr × Obj)} {σ : St} {H : Hp} {s : Shared} {N : List Str} {caps : List (Option Nat)} {scope : Scope} {elt tg iter : Expr} {ifs : List Expr} {wi : TI} {g : TG} {tf : TT} {te : TE} {pos : Pos}
theorem comp_core {RR : Value → Addr → Result → Shared → Prop} {cl : List (Str × Addr)} {Q : VK} (hc : X.calm = true) (S : CompOk X.N X.env.scope N caps scope) (hi : PI X tg iter wi)
    (hg : ∀ cl C fp s H, PG (cxComp X N scope cl C fp s H) tg g) (hf : ∀ cl C fp s H, PF (cxComp X N scope cl C fp s H) ifs tf) (he : ∀ cl C fp s H, PE (cxComp X N scope cl C fp s H) elt te)
    (c1 : ∀ x c, cl.lookup x = some c → X.env.cells.lookup x = some c) (c2 : ∀ y ∈ scope.names, y.2 = .free → ∃ c, cl.lookup y.1 = some c)
    (I : Inv X pins σ H s) (h : tComp caps wi g tf te σ H Q)
    (fin : ∀ (D C : Addr) (m : Str → Option Value) (H5 : Hp) (s5 : Shared), Inv X pins σ H5 s5 → s5.heap.Ns C m → FpOk X pins H5 C → Q (.ref D) H5 → RR (.ref D) C (.ok .next) s5) :
    wpAny (model X.prog X.w) X.A (eval iter X.env) (fun x s₁ => wpAny (model X.prog X.w) X.A (pyIter x) (fun it s₂ => wpAny (model X.prog X.w) X.A (newList []) (fun acc s₃ =>
      wpAny (model X.prog X.w) X.A (newFunctionEnv scope X.env.globals cl [] X.env.qual none .none (some X.env)) (fun cenv s₄ =>
        codeAny (model X.prog X.w) X.A (.compStart (.ListComp elt [⟨tg, iter, ifs, 0⟩] scope pos) 0 it acc { cenv with scope := relabel scope X.env }) (RR acc cenv.locals) s₄) X.xe s₃) X.xe s₂) X.xe s₁) X.xe s := by
  refine thn (hi pins s σ H _ I h) fun v s1 h1 => thn h1 fun itv s2 h2 => ?_
  obtain ⟨it, fp, tn, J, H2, e, I2, T, st2, f2, q⟩ := h2
  subst e
  have nD : H2 s2.heap.objs.size = none := I2.hok.fresh (Nat.le_refl _)
  obtain ⟨W, ⟨m0, w0⟩, turn⟩ := q s2.heap.objs.size nD
  refine wpAny_newObj_type ?_
  have I3 : Inv X pins σ (upd H2 s2.heap.objs.size (.lst [])) { s2 with heap := s2.heap.push { cls := .type "list", data := .seq ([] : List Value).toArray } } :=
    I2.laid (t' := s2.toks) (o := .lst []) (fun b ob e => Heap.get?_push_of_some _ e) (Nat.le_refl _) ⟨Nat.zero_le _, [], 0, .nil, Heap.get?_push_size _ rfl⟩
  have ob2 : ∀ b ∈ fp, ∃ o, s2.heap.get? b = some o := fun b hb => let ⟨o, e, _⟩ := T.obj 0 s2.heap st2 b hb; ⟨o, e⟩
  have nfD : ∀ b ∈ fp, b ≠ s2.heap.objs.size := fun b hb => let ⟨o, e⟩ := ob2 b hb; Nat.ne_of_lt (Heap.lt_size e)
  generalize hs3 : ({ s2 with heap := s2.heap.push { cls := .type "list", data := .seq ([] : List Value).toArray } } : Shared) = s3 at I3
  have eh : s3.heap = s2.heap.push { cls := .type "list", data := .seq ([] : List Value).toArray } := by rw [← hs3]
  generalize hD : s2.heap.objs.size = D at *
  generalize hH3 : upd H2 D (.lst []) = H3 at I3 w0
  have f3 : ∀ b ∈ fp, FpOk X pins H3 b := fun b hb => ⟨by rw [← hH3, upd_ne (nfD b hb)]; exact (f2 b hb).1, (f2 b hb).2⟩
  have ob3 : ∀ b ∈ fp, ∃ o, s3.heap.get? b = some o := fun b hb => let ⟨o, e⟩ := ob2 b hb; ⟨o, by rw [eh]; exact Heap.get?_push_of_some _ e⟩
  have st3 : tn 0 s3.heap := T.keep 0 _ _ st2 fun b hb o e => by rw [eh]; exact Heap.get?_push_of_some _ e
  show wpAny (model X.prog X.w) X.A (newFunctionEnv scope X.env.globals cl [] X.env.qual none .none (some X.env)) _ X.xe s3
  refine wpAny_newFunctionEnv S.nocell (by intro y hy; simp at hy) (fun h₁ hns₁ hsb₁ => ?_) S.kind
  have k1 : ∀ b u, s3.heap.get? b = some u → h₁.get? b = some u := fun b u e => hsb₁.extBut b u (Nat.ne_of_lt (Heap.lt_size e)) (Heap.get?_push_of_some _ e)
  have J0 := inv_comp (tk := s3.toks + ([] : List (Str × Value)).length) I3 f3 ob3 S c1 c2 hns₁ k1
  generalize hC : s3.heap.objs.size = C at *
  generalize hX' : cxComp X N scope cl C fp s3 H3 = X' at J0
  have st4 : tn 0 h₁ := T.keep 0 _ _ st3 fun b hb o e => k1 b o e
  have stat : ∀ {H' : Hp}, (∀ b ∈ fp, H' b = none) → ∀ b ∈ fp, FpOk X' [] H' b := fun {H'} hn b hb => by
    subst hX'
    exact ⟨hn b hb, (J0.ok.exf b hb).1, J0.ok.exfs b hb, .inl hb, (J0.ok.exf b hb).2, fun p hp => absurd (show p ∈ ([] : List (Addr × Obj)) from hp) (by simp)⟩
  have loop : ∀ s4 : Shared, s4 = { s3 with heap := h₁, toks := s3.toks + ([] : List (Str × Value)).length } →
      codeAny (model X.prog X.w) X.A (.compLoop (.ListComp elt [⟨tg, iter, ifs, 0⟩] scope pos) 0 (.ref it) (.ref D) (compEnvC scope cl C X.env)) (RR (.ref D) C) s4 := by
    rintro s4 rfl
    refine compLoop_any (fun n s' => ∃ i σ' H', Inv X' [] σ' H' s' ∧ tn i s'.heap ∧ (∀ b ∈ fp, H' b = none) ∧ W i n σ' H') ?_ m0 ⟨0, _, H3, J0, st4, fun b hb => (f3 b hb).1, w0⟩
    rintro n s4 ⟨i, σ4, H4, J4, st4, fr4, w4⟩
    rcases turn i n σ4 H4 w4 with ⟨stop, qn⟩ | ⟨go, Nn, hNn, step⟩
    · have d := T.done X' (by subst hX'; rfl) (by subst hX'; rfl) (by subst hX'; rfl) (by subst hX'; exact hc) i [] s4 σ4 H4 (fun _ _ => False) J4 (stat fr4) st4 stop
      have eA : X'.A = X.A := by subst hX'; rfl
      rw [eA] at d
      refine wpAny_mono d (fun r s5 hr => ?_) fun _ _ z => z
      obtain ⟨hr, J5⟩ := hr
      subst hr
      have I5 : Inv X pins σ H4 s5 := by
        subst hX'
        exact I3.call' J5.os J5.base J5.hok J5.bare fun b hb => ⟨(f3 b hb).2.2.2.1, (f3 b hb).2.1, (f3 b hb).2.2.2.2.1, (f3 b hb).2.2.2.2.2⟩
      obtain ⟨m, hn, _⟩ := J5.loc
      have fr := J5.free
      subst hX'
      exact fin D C m H4 s5 I5 hn (I3.fpOk (b := C) (Nat.le_of_eq hC) fr) qn
    · have d := T.item X' (by subst hX'; rfl) (by subst hX'; rfl) (by subst hX'; rfl) (by subst hX'; exact hc) i [] s4 σ4 H4 (fun _ _ => False) J4 (stat fr4) st4 go
      have eA : X'.A = X.A := by subst hX'; rfl
      rw [eA] at d
      refine wpAny_mono d (fun r s5 hr => ?_) fun _ _ z => z
      obtain ⟨u, hr, h5⟩ := hr
      subst hr
      refine wpAny_mono h5 (fun _ s6 q6 => ?_) fun _ _ z => z
      obtain ⟨x, H6, J6, r6, y6, st6, fr6⟩ := q6
      have J6' := J6.pinned (stat fr6) (T.obj _ _ st6)
      have again : ∀ {H9 : Hp} {s9 : Shared} {σ9 : St}, Inv X' ([] ++ pinsAt fp s6.heap) σ9 H9 s9 → Nn σ9 H9 → ∃ m, m < n ∧ ∃ i σ' H', Inv X' [] σ' H' s9 ∧ tn i s9.heap ∧ (∀ b ∈ fp, H' b = none) ∧ W i m σ' H' := fun {H9 s9 σ9} J9 q9 => by
        obtain ⟨m', hm, w9⟩ := hNn σ9 H9 q9
        refine ⟨m', hm, i + 1, σ9, H9, J9.unpinned, T.keep _ _ _ st6 fun b hb o e => (J9.pin (b, o) (List.mem_append_right _ (List.mem_append_right _ (mem_pinsAt hb e)))).1, fun b hb => ?_, w9⟩
        obtain ⟨o, e, d⟩ := T.obj _ _ st6 b hb
        exact (J9.pin (b, o) (List.mem_append_right _ (List.mem_append_right _ (mem_pinsAt hb e)))).2.1
      subst hX'
      refine wpAny_mono (hg cl C fp s3 H3 _ s6 σ4 H6 x u _ J6' r6 (step x H6 y6)) (fun _ s7 q7 => ?_) fun _ _ z => z
      obtain ⟨σ7, H7, J7, q7⟩ := q7
      refine wpAny_mono (hf cl C fp s3 H3 _ s7 σ7 H7 _ J7 q7) (fun ok s8 q8 => ?_) fun _ _ z => z
      obtain ⟨H8, J8, q8⟩ := q8
      cases ok with
      | false =>
        rw [if_neg (by decide)] at q8
        rw [if_neg (by decide)]
        exact again J8 q8
      | true =>
        rw [if_pos rfl] at q8
        rw [if_pos rfl]
        refine wpAny_mono (he cl C fp s3 H3 _ s8 σ7 H8 _ J8 q8) (fun v9 s9 q9 => ?_) fun _ _ z => z
        obtain ⟨y, H9, J9, r9, xs, hD9, hz, q9⟩ := q9
        refine wpAny_mono (mt_append (X := cxComp X N scope cl C fp s3 H3) _ s9 σ7 H9 (.ref D) [y] (.ref D) [v9] (fun _ H' => Nn σ7 H') J9 rfl (.cons r9 .nil) ⟨D, xs, y, rfl, rfl, hD9, hz, q9⟩) (fun _ s10 q10 => ?_) fun _ _ z => z
        obtain ⟨_, H10, J10, _, q10⟩ := q10
        exact again J10 q10
  exact codeAny_compStart_list (loop _ rfl) (T.self _ 0 _ _ _ st4 (loop _ rfl))
theorem pe_comp (hc : X.calm = true) (ho : compOk X.N X.env.scope N caps scope = true) (hi : PI X tg iter wi)
    (hg : ∀ cl C fp s H, PG (cxComp X N scope cl C fp s H) tg g) (hf : ∀ cl C fp s H, PF (cxComp X N scope cl C fp s H) ifs tf) (he : ∀ cl C fp s H, PE (cxComp X N scope cl C fp s H) elt te)
    (hs : ∀ x, foldedSetIterable iter X.env x = pure x := by intro _; rfl) : PE X (.ListComp elt [⟨tg, iter, ifs, 0⟩] scope pos) (tComp caps wi g tf te) := by
  intro pins s σ H Q I h
  have S := compOk_of ho
  obtain ⟨cl, hcl, c1, c2⟩ := closFor (scope := scope) (env := X.env) (fun y hy e => I.ok.has y.1 (S.fr y hy e))
  rw [eval_ListComp]
  refine wpAny_comprehension_free (use := none) rfl hs hcl S.kind S.loc (comp_core (RR := fun acc C => compPost (model X.prog X.w) X.A X.xe none (EP X pins σ Q) acc C) hc S hi hg hf he c1 c2 I h ?_)
  intro D C m H5 s5 I5 hn fC q
  exact ⟨m, hn, fun h' sb => ⟨.ref D, H5, I5.turned (t' := s5.toks) (fun b o hb e => (sb.2 b hb).trans e) fC.1 fC.2.1 fC.2.2.2.1 fC.2.2.2.2.1 fC.2.2.2.2.2, rfl, q⟩⟩
theorem ps_setComp {i : Nat} {x : Str} {px spos : Pos} (hN : X.N.Nodup) (hix : X.N[i]? = some x) (hx : X.env.scope.names.lookup x = some .local) (hc : X.calm = true) (ho : compOk X.N X.env.scope N caps scope = true) (hi : PI X tg iter wi)
    (hg : ∀ cl C fp s H, PG (cxComp X N scope cl C fp s H) tg g) (hf : ∀ cl C fp s H, PF (cxComp X N scope cl C fp s H) ifs tf) (he : ∀ cl C fp s H, PE (cxComp X N scope cl C fp s H) elt te)
    (hsw : swapsWith (.ListComp elt [⟨tg, iter, ifs, 0⟩] scope pos) (some (.Name x px)) spos.line X.env = pure true := by rfl)
    (hs : ∀ x, foldedSetIterable iter X.env x = pure x := by intro _; rfl) : PS X (.Assign [.Name x px] (.ListComp elt [⟨tg, iter, ifs, 0⟩] scope pos) spos) (tAsg (tComp caps wi g tf te) (gName i)) := by
  intro pins s σ H D I h
  have S := compOk_of ho
  obtain ⟨cl, hcl, c1, c2⟩ := closFor (scope := scope) (env := X.env) (fun y hy e => I.ok.has y.1 (S.fr y hy e))
  rw [exec_Assign_Name_used _ _ _ _ hsw]
  refine wpAny_bind (wpAny_standAt (wpAny_bind ?_))
  show wpAny _ X.A (do let _ ← comprehension (.ListComp elt [⟨tg, iter, ifs, 0⟩] scope pos) scope X.env _ (newList []) false (eval iter X.env) (some (assign (.Name x px) X.env))) _ _ s
  refine wpAny_bind (wpAny_mono (wpAny_comprehension_free (use := some (assign (.Name x px) X.env)) (Q := fun _ s' => SP X pins D .next s') rfl hs hcl S.kind S.loc
    (comp_core (RR := fun acc C => compPost (model X.prog X.w) X.A X.xe (some (assign (.Name x px) X.env)) (fun _ s' => SP X pins D .next s') acc C) hc S hi hg hf he c1 c2 I h ?_)) (fun _ s' hq => wpAny_pure (wpAny_pure hq)) fun _ _ e => e)
  intro Da C m H5 s5 I5 hn fC q
  obtain ⟨oC, es, ep, hoC, hd, hrest⟩ := id hn
  have I5' := I5.pinned (fp := [C]) (fun b hb => by
    have e : b = C := by simpa using hb
    subst e; exact fC) (fun b hb => by
    have e : b = C := by simpa using hb
    subst e; exact ⟨oC, hoC, fun v z => by rw [hd] at z; cases z⟩)
  show wpAny _ X.A (assign (.Name x px) X.env (.ref Da)) _ _ _
  refine wpAny_assign_Name (store_ok I5' hN hix (.inl hx) (v := .ref Da) rfl (fun s6 I6 => ?_) (.inr hx))
  have pC := I6.pin (C, oC) (List.mem_append_right _ (List.mem_append_right _ (mem_pinsAt (by simp) hoC)))
  refine ⟨m, ⟨oC, es, ep, pC.1, hd, hrest⟩, fun h' sb => ?_⟩
  exact ⟨_, H5, I6.unpinned.turned (t' := s6.toks) (fun b o hb e => (sb.2 b hb).trans e) fC.1 fC.2.1 fC.2.2.2.1 fC.2.2.2.2.1 fC.2.2.2.2.2, q⟩
end
end L2
namespace L2
open PySem PySem.Spec PyProof.Rows
theorem comp_by {J : It} {g : TG} {tf : TT} {te : TE} {D : Addr} {QE : Hp → Prop} {σ : St} {H : Hp} (n : Nat) (Pv : Nat → St → Hp → Prop) (h0 : Pv 0 σ H) (hgo : ∀ i σ H, i < n → Pv i σ H → J.go i H) (hst : ∀ σ H, Pv n σ H → J.stop n H ∧ QE H)
    (hs : ∀ i σ H, i < n → Pv i σ H → ∀ x H', J.yld i H x H' → g x σ H' fun σ2 H2 => tf σ2 H2 fun b H3 => if b = true then te σ2 H3 fun v H4 => ∃ xs, H4 D = some (.lst xs) ∧ xs.length < sizeLine ∧ Pv (i + 1) σ2 (upd H4 D (.lst (xs ++ [v]))) else Pv (i + 1) σ2 H3) :
    ∃ W : Nat → Nat → St → Hp → Prop, (∃ m, W 0 m σ H) ∧ CompW J g tf te D QE W := by
  refine ⟨fun i m σ H => m = n - i ∧ i ≤ n ∧ Pv i σ H, ⟨n, by simp, Nat.zero_le _, h0⟩, ?_⟩
  rintro i m σ H ⟨rfl, hi, p⟩
  by_cases hlt : i < n
  · exact .inr ⟨hgo i σ H hlt p, Pv (i + 1), fun σ' H' p' => ⟨n - (i + 1), by omega, rfl, hlt, p'⟩, hs i σ H hlt p⟩
  · have e : i = n := by omega
    subst e
    exact .inl (hst σ H p)
def Its (z : Str) : It := ⟨fun i _ => i < z.cps.size, fun i H x H' => H' = H ∧ ∃ c, z.cps[i]? = some c ∧ x = .str ⟨#[c]⟩, fun i _ => i = z.cps.size⟩
theorem go_str {M : Model} {A : Around} {E : Value → Shared → Prop} {s : Shared} {tg : Expr} {it : Addr} {x : Str} {t : Tok} {Q : Unit → Shared → Prop} (hQ : Q () s) : wpAny M A (letOwnedTupleGo tg (.ref it) (.str x t)) Q E s := by
  unfold letOwnedTupleGo
  cases tg <;> exact wpAny_pure hQ
theorem turn_str {P : Program} {w : World} {K : PySem.W.Frag} {tg : Expr} (it : Addr) (z : Str) (t : Tok) (ty : String) (hty : ty = "str_ascii_iterator" ∨ ty = "str_iterator") :
    Turn P w K tg (Its z) [it] it (fun i h => h.IsStrIter it ty z t i) where
  mem := by simp
  obj := fun i h st b hb => by
    have e : b = it := by simpa using hb
    subst e
    obtain ⟨o, e, c, d⟩ := st
    exact ⟨o, e, fun v z => by rw [d] at z; cases z⟩
  keep := fun i h h' st k => let ⟨o, ho, r⟩ := st; ⟨o, k it (by simp) o ho, r⟩
  item := by
    intro X hP hw hK hc i pins s σ H E I hf st hg
    subst hP hw hK
    obtain ⟨f0, f1, f2, f3, f4, f5⟩ := hf it (by simp)
    have W : Walks X.prog X.w X.A it [it] [it] z.cps.size (SignAt z) (fun i h => h.IsStrIter it ty z t i) := by
      rcases hty with rfl | rfl
      · exact Walks.strAscii (I.ok.hd hc) it z t
      · exact Walks.strWide (I.ok.hd hc) it z t
    refine W.item i s _ _ hg st fun v h' tk hv st' kk => ?_
    obtain ⟨c, u, hx, rfl⟩ := hv
    have I1 : Inv X pins σ H { s with heap := h', toks := tk } := I.turned (fun b o hb e => kk b o (by simpa using hb) e) f0 f1 f3 f4 f5
    exact ⟨_, rfl, go_str ⟨.str ⟨#[c]⟩, H, I1, ⟨u, rfl⟩, ⟨rfl, c, hx, rfl⟩, st', fun b hb => (hf b hb).1⟩⟩
  done := by
    intro X hP hw hK hc i pins s σ H E I hf st hg
    subst hP hw hK
    obtain ⟨f0, f1, f2, f3, f4, f5⟩ := hf it (by simp)
    have W : Walks X.prog X.w X.A it [it] [it] z.cps.size (SignAt z) (fun i h => h.IsStrIter it ty z t i) := by
      rcases hty with rfl | rfl
      · exact Walks.strAscii (I.ok.hd hc) it z t
      · exact Walks.strWide (I.ok.hd hc) it z t
    have e : i = z.cps.size := hg
    subst e
    exact W.done s _ _ st fun h' tk kk => ⟨rfl, I.turned (fun b o hb e => kk b o (by simpa using hb) e) f0 f1 f3 f4 f5⟩
  self := fun _ _ _ _ _ st h => by
    rcases hty with rfl | rfl
    · exact wpAny_pyIter_striter_ascii st h
    · exact wpAny_pyIter_striter_wide st h
section
variable {X : Cx} {tg : Expr}
def iStr (tl : TE) : TI := fun σ H R => tl σ H fun x H1 => ∃ z, x = .str z ∧ R (Its z) H1
theorem pi_str {l : Expr} {tl : TE} (hl : PE X l tl) : PI X tg l (iStr tl) := by
  intro pins s σ H R I h
  refine thn (hl pins s σ H _ I h) fun v s1 ⟨x, H1, I1, r1, q1⟩ => ?_
  obtain ⟨z, e, q⟩ := q1
  subst e
  obtain ⟨t, rfl⟩ := r1
  have fin : ∀ ty, (ty = "str_ascii_iterator" ∨ ty = "str_iterator") → PIE X pins σ tg R (.ref s1.heap.objs.size) { s1 with heap := s1.heap.push { cls := .type ty, data := .fields #[.str z t, .int 0 0] } } := fun ty hty => by
    refine ⟨s1.heap.objs.size, [s1.heap.objs.size], _, _, H1, rfl, I1.kept (t' := s1.toks) fun b o e => Heap.get?_push_of_some _ e, turn_str _ z t ty hty, ⟨_, Heap.get?_push_size _ rfl, rfl, rfl⟩, fun b hb => ?_, q⟩
    have e : b = s1.heap.objs.size := by simpa using hb
    subst e
    exact I1.fpOk (Nat.le_refl _) (I1.hok.fresh (Nat.le_refl _))
  cases ha : z.cps.all (· < 128)
  · exact wpAny_pyIter_wide ha (fin _ (.inr rfl))
  · exact wpAny_pyIter_ascii ha (fin _ (.inl rfl))
end
def cutS (z : Str) (lo hi : Option Int) : Str := ⟨((z.cps.toList.drop (HT.sIx z.length 0 lo)).take (HT.sIx z.length z.length hi - HT.sIx z.length 0 lo)).toArray⟩
theorem strSlice_pick (lo hi : Option Int) (n : Nat) : Builtin.Str.strSliceIndices lo hi 1 n = (List.range (HT.sIx n n hi - HT.sIx n 0 lo)).map (HT.sIx n 0 lo + ·) := by
  have h : Builtin.Str.strSliceIndices lo hi 1 n = sliceRange ((HT.sIx n 0 lo : Nat) : Int) ((HT.sIx n n hi : Nat) : Int) 1 := by
    unfold Builtin.Str.strSliceIndices
    simp only [show (1 : Int) > 0 by decide, if_true]
    congr 1
    · cases lo with
      | none => rfl
      | some i =>
        rw [← HT.clip_eq i n 0]
        show max 0 (min (if i < 0 then i + (n : Int) else i) (n : Int)) = _
        split <;> omega
    · cases hi with
      | none => rfl
      | some i =>
        rw [← HT.clip_eq i n n]
        show max 0 (min (if i < 0 then i + (n : Int) else i) (n : Int)) = _
        split <;> omega
  rw [h]
  unfold sliceRange
  simp only [show (1 : Int) > 0 by decide, if_true]
  have e2 : (if ((HT.sIx n 0 lo : Nat) : Int) < ((HT.sIx n n hi : Nat) : Int) then (((HT.sIx n n hi : Nat) : Int) - ((HT.sIx n 0 lo : Nat) : Int) + 1 - 1) / 1 else 0).toNat = HT.sIx n n hi - HT.sIx n 0 lo := by
    split
    · rw [Int.ediv_one]; omega
    · omega
  rw [e2]
  apply List.map_congr_left
  intro k _
  omega
theorem pick_signs (xs : Array Nat) (i k : Nat) : (((List.range k).map (i + ·)).filterMap (xs[·]?)) = (xs.toList.drop i).take k := by
  induction k with
  | zero => simp
  | succ k ih =>
    rw [List.range_succ, List.map_append, List.filterMap_append, ih, List.take_succ]
    congr 1
    simp only [List.map_cons, List.map_nil, List.getElem?_drop, Array.getElem?_toList]
    cases h : xs[i + k]? <;> simp [h]
theorem cutS_length (z : Str) (lo hi : Option Int) : (cutS z lo hi).length ≤ z.length := by
  show ((z.cps.toList.drop _).take _).toArray.size ≤ z.length
  rw [List.size_toArray, List.length_take, List.length_drop]
  have : z.cps.toList.length = z.length := by simp [Str.length]
  omega
section
variable {X : Cx}
def rSlS : V → Option Int → Option Int → Hp → VK → Prop := fun x lo hi H Q => ∃ z, x = .str z ∧ z.length ≤ sizeLine ∧ Q (.str (cutS z lo hi)) H
theorem sl_str : SlR X rSlS := by
  intro pins s σ H x v vl vu lo hi sl Q I rx hs pl pu h
  obtain ⟨z, rfl, hzl, q⟩ := h
  obtain ⟨t, rfl⟩ := rx
  refine ⟨"str", _, F.slot_str_getitem.lookup, typeIs_str s z t, ?_⟩
  obtain ⟨l, rfl, el⟩ : ∃ l : Option (Int × Tok), vl = partValue l ∧ l.map (·.1) = lo := by
    cases pl with
    | none => exact ⟨none, rfl, rfl⟩
    | int i t => exact ⟨some (i, t), rfl, rfl⟩
  obtain ⟨u, rfl, eu⟩ : ∃ u : Option (Int × Tok), vu = partValue u ∧ u.map (·.1) = hi := by
    cases pu with
    | none => exact ⟨none, rfl, rfl⟩
    | int i t => exact ⟨some (i, t), rfl, rfl⟩
  refine wpAny_getItem_str_slice (l := l) (u := u) (st := none) hs rfl ?_
  have ep : slicePicked z l u none = (List.range (HT.sIx z.length z.length hi - HT.sIx z.length 0 lo)).map (HT.sIx z.length 0 lo + ·) := by
    unfold slicePicked
    rw [el, eu]
    exact strSlice_pick lo hi z.length
  have ec : (slicePicked z l u none).filterMap (z.cps[·]?) = (z.cps.toList.drop (HT.sIx z.length 0 lo)).take (HT.sIx z.length z.length hi - HT.sIx z.length 0 lo) := by
    rw [ep, pick_signs]
  unfold sliceMade
  split
  · rename_i hw
    have hlen : (slicePicked z l u none).length = z.length := by simpa using hw
    have e : cutS z lo hi = z := by
      have hl : z.cps.toList.length = z.length := by simp [Str.length]
      rw [ep, List.length_map, List.length_range] at hlen
      have h1 := HT.sIx_le z.length z.length (Nat.le_refl _) hi
      have a0 : HT.sIx z.length 0 lo = 0 ∨ z.length = 0 := by omega
      unfold cutS
      rcases a0 with a0 | a0
      · rw [hlen, a0, List.drop_zero, List.take_of_length_le (by omega)]
      · have z0 : z.cps.toList = [] := List.eq_nil_of_length_eq_zero (by omega)
        rw [z0, List.drop_nil, List.take_nil]
        cases z with
        | mk cps =>
          congr 1
          exact (Array.toList_inj.mp z0).symm
    rw [e] at q
    exact ⟨.str z, H, I, ⟨t, rfl⟩, q⟩
  · have e : (⟨((slicePicked z l u none).filterMap (z.cps[·]?)).toArray⟩ : Str) = cutS z lo hi := by
      unfold cutS
      rw [ec]
    rw [e]
    exact ⟨Nat.le_trans (cutS_length z lo hi) hzl, .str (cutS z lo hi), H, I.tok _, ⟨_, rfl⟩, q⟩
end
end L2
namespace L2
open PySem PySem.Spec PyProof.Rows
theorem all_range (bs : List Bool) : (List.range bs.length).all (fun i => (bs[i]?).getD true) = bs.all id := by
  rw [Bool.eq_iff_iff, List.all_eq_true, List.all_eq_true]
  constructor
  · intro h b hb
    obtain ⟨i, hi, e⟩ := List.mem_iff_getElem.mp hb
    have := h i (List.mem_range.mpr hi)
    rw [List.getElem?_eq_getElem hi, e] at this
    exact this
  · intro h i hi
    have hi' := List.mem_range.mp hi
    rw [List.getElem?_eq_getElem hi']
    exact h _ (List.getElem_mem hi')
theorem vals_bl {bs : List Bool} {us : List Value} (r : Vals (bs.map V.bl) us) {i : Nat} {v : Value} (h : us[i]? = some v) : ∃ b, bs[i]? = some b ∧ v = .bool b := by
  have hl := r.length
  obtain ⟨hi, _⟩ := List.getElem?_eq_some_iff.mp h
  rw [← hl, List.length_map] at hi
  have e : (bs.map V.bl)[i]? = some (V.bl bs[i]) := by rw [List.getElem?_map, List.getElem?_eq_getElem hi]; rfl
  obtain ⟨u, hu, ru⟩ := r.get e
  rw [h] at hu
  cases hu
  exact ⟨bs[i], List.getElem?_eq_getElem hi, ru⟩
section
variable {X : Cx}
theorem call_allL (hc : X.calm = true) (K : PySem.W.Frag) (hK : X.K = K := by rfl) : CallR X (.builtin "all") (fun xs H Q => ∃ (p : Addr) (bs : List Bool), xs = [.ref p] ∧ SqL K H p (bs.map V.bl) ∧ Q (.bl (bs.all id)) H) := by
  subst hK
  intro pins s σ H xs us Q I r h
  obtain ⟨p, bs, rfl, hp, q⟩ := h
  obtain ⟨u, rfl, ru⟩ := vals1 r
  cases ru
  obtain ⟨its, rv, pl, hz⟩ := I.list hp
  have hl : its.toArray.size = bs.length := by
    have := rv.length
    rw [List.length_map] at this
    rw [List.size_toArray]
    exact this.symm
  have hh : X.A.in1.handled = none := I.ok.hd hc
  have hne : p ≠ s.heap.objs.size := fun e => by
    obtain ⟨o, n, e1, _⟩ := pl
    exact absurd (Heap.lt_size e1) (by rw [e]; exact Nat.lt_irrefl _)
  refine call_all_walk (wpAny_pyIter_list pl.isList ?_)
  refine ⟨s.heap.objs.size, _, _, _, _, _, fun i => (bs[i]?).getD true, rfl, Walks.list hh _ p hne its.toArray, ⟨⟨_, Heap.get?_push_size _ rfl, rfl, rfl⟩, pl.isList.at fun o e => Heap.get?_push_of_some _ e⟩, ?_, fun h' tk kk => ?_⟩
  · intro i v s' Q' E' hv hq
    have hv' : its[i]? = some v := by simpa using hv
    obtain ⟨b, e, rfl⟩ := vals_bl rv hv'
    have hq' : Q' ((bs[i]?).getD true) s' := hq
    rw [e] at hq'
    exact wpAny_truthy_bool hq'
  · rw [hl, all_range]
    exact ⟨.bl _, H, I.kept fun b o e => kk b o (by simp; exact Nat.ne_of_lt (Heap.lt_size e)) (Heap.get?_push_of_some _ e), rfl, q⟩
def tyTs : List String := ["NoneType", "bool", "int", "str", "list", "tuple", "dict"]
def tyNs : List String := ["bool", "int", "str", "list", "tuple", "dict"]
def tyIs (T n : String) : Bool := T == n || (T == "bool" && n == "int")
theorem kit_tab : ∀ T ∈ tyTs, ∀ n ∈ tyNs, PySem.W.kitMeta n = true ∧ (PySem.fastBuiltinMro T).map (·.contains (Value.type n)) = some (tyIs T n) := by decide +kernel
theorem kit_one {K : PySem.W.Frag} {T n : String} (hT : T ∈ tyTs) (hn : n ∈ tyNs) : PySem.W.kitOne K (.type T) (.type n) = some (tyIs T n) := by
  obtain ⟨h1, h2⟩ := kit_tab T hT n hn
  unfold PySem.W.kitOne
  split
  · rename_i e
    have e' := eq_of_beq e
    injection e' with e''
    subst e''
    simp [tyIs]
  · unfold PySem.W.kitCls
    show (if PySem.W.kitMeta n = true then PySem.W.subIn K (.type T) (.type n) else none) = _
    rw [if_pos h1]
    exact h2
theorem pe_gI {x : Str} {i : Int} {pos : Pos} (hg : Gl X x) (hm : ∃ t, X.mg x = some (.int i t)) (hd : (x == ("__debug__" : Str)) = false := by decide) : PE X (.Name x pos) (tC (.int i)) := by
  obtain ⟨t, e⟩ := hm
  exact pe_glob hg e ⟨t, rfl⟩ hd
theorem pe_gS {x z : Str} {pos : Pos} (hg : Gl X x) (hm : ∃ t, X.mg x = some (.str z t)) (hd : (x == ("__debug__" : Str)) = false := by decide) : PE X (.Name x pos) (tC (.str z)) := by
  obtain ⟨t, e⟩ := hm
  exact pe_glob hg e ⟨t, rfl⟩ hd
theorem pe_ty {x : Str} {n : String} {pos : Pos} (hg : Gl X x) (hm : X.mg x = none) (hv : bootBuiltins x = some (.type n)) (hn : x ≠ "__name__" := by decide) (hd : (x == ("__debug__" : Str)) = false := by decide) : PE X (.Name x pos) (tC (.ty n)) :=
  pe_bltn hg hm hv rfl hn hd
end
structure Top (K : PySem.W.Frag) (mg : Str → Option Value) (x : Str) (st : Stmt) (ps : List Str) : Prop where
  ex : ∃ f fd, Fun K x x st f fd ∧ mg x = some (.ref f) ∧ ∀ us : List Value, us.length = ps.length → bindArgs fd ⟨us, []⟩ = pure (ps.zip us)
theorem top_mk {K : PySem.W.Frag} {h : Heap} {mg : Str → Option Value} {x : Str} {st : Stmt} {ps : List Str} {f : Addr} {oc : Value} {od an : Option Addr} {osl : Array (Option Value)} {kV doc pm cdv ct : Value} (X : K.In h) (G : h.Ns mainGlobals mg)
    (b : ∀ (kV doc pm : Value) (an : Option Addr) (cdv ct : Value) (us : List Value), us.length = ps.length → bindArgs (PySem.W.fnOf x x (defArgs st) (defBody st) (defScope st) .none kV doc pm an cdv ct) ⟨us, []⟩ = pure (ps.zip us))
    (a : PySem.W.nsIn K mainGlobals x = some (some (.ref f)))
    (l : K.lookup f = some ⟨oc, od, .func (PySem.W.fnOf x x (defArgs st) (defBody st) (defScope st) .none kV doc pm an cdv ct), osl⟩) (c : PySem.W.codeIn K cdv x = true) (k : PySem.W.keepIn K (.ref f) = true) : Top K mg x st ps := by
  have F := fun_mk (st := st) l c k
  exact ⟨f, _, F, PySem.W.mg_of X G a, b kV doc pm an cdv ct⟩
structure Def (P : Program) (w : World) (K : PySem.W.Frag) (mg : Str → Option Value) (base : Heap) (k : Nat) (x : Str) (ps : List Str) (sp : Sp) : Prop where
  ex : ∃ f fd, FnOk P w K mg base CX0 k f fd ps sp ∧ mg x = some (.ref f) ∧ PySem.W.keepIn K (.ref f) = true ∧ Binds K fd ps []
theorem Top.ok {P : Program} {w : World} {K : PySem.W.Frag} {mg : Str → Option Value} {base : Heap} {x : Str} {st : Stmt} {N ps : List Str} {k : Nat} {sp : Sp} (T : Top K mg x st ps) (S : FnScope N ps (defScope st)) (len : ∀ vs H Q E, sp vs H Q E → vs.length = ps.length)
    (hbody : ∀ (f : Addr) (cdv : Value) (A : Around) (outer : List Env) (s : Shared) (H : Hp) (vs : List V) (Q : VK) (E : XK), Room k (A.deeper (envOfC x (defScope st) s.heap.objs.size f cdv)) → sp vs H Q E →
      ∃ t, PSs (cxOf CX0 P w K mg base N x (defScope st) f cdv A outer s H E).nox (defBody st) t ∧ t { nx := fun _ H' => Q .non H', rt := Q } (start N vs) H) : Def P w K mg base (k + 1) x ps sp := by
  obtain ⟨f, fd, F, hm, hb⟩ := T.ex
  exact ⟨f, fd, F.ok S len (hbody f), hm, F.kp, Binds.all hb⟩
theorem Top.fin {l : PySem.W.OpenLaw} {w : World} {K : PySem.W.Frag} {mg : Str → Option Value} {fa : Addr} {x : Str} {st : Stmt} {N : List Str} {k : Nat} {sp : Sp} (T : Top K mg "law" st [x]) (hfa : mg "law" = some (.ref fa)) (S : FnScope N [x] (defScope st))
    (len : ∀ vs H Q E, sp vs H Q E → vs.length = [x].length)
    (hbody : ∀ (base : Heap) (f : Addr) (cdv : Value) (A : Around) (outer : List Env) (s : Shared) (H : Hp) (vs : List V) (Q : VK) (E : XK), Room k (A.deeper (envOfC "law" (defScope st) s.heap.objs.size f cdv)) → sp vs H Q E →
      ∃ t, PSs (cxOf CX0 l.prog w K mg base N "law" (defScope st) f cdv A outer s H E).nox (defBody st) t ∧ t { nx := fun _ H' => Q .non H', rt := Q } (start N vs) H) :
    ∃ fd : FuncData, (∀ (s : Shared) (v : Value), BindsTo s fd ⟨[v], []⟩ [(x, v)]) ∧ ∀ base : Heap, K.In base → base.Ns mainGlobals mg → FnOk l.prog w K mg base CX0 (k + 1) fa fd [x] sp := by
  obtain ⟨f, fd, F, hm, hb⟩ := T.ex
  have e := hfa.symm.trans hm
  injection e with e
  injection e with e
  subst e
  exact ⟨fd, fun s v => .of_eq (hb [v] rfl), fun base _ _ => F.ok S len (hbody base fa)⟩
theorem Def.mono {P : Program} {w : World} {K : PySem.W.Frag} {mg : Str → Option Value} {base : Heap} {x : Str} {ps : List Str} {j k : Nat} {sp : Sp} (D : Def P w K mg base j x ps sp) (h : j ≤ k) : Def P w K mg base k x ps sp := by
  obtain ⟨f, fd, F, r⟩ := D.ex
  exact ⟨f, fd, F.mono h, r⟩
section
variable {X : Cx} {k k' : Nat} {x : Str} {ps : List Str} {sp : Sp} {p pos : Pos} {e : Expr} {es : List Expr} {t : TA}
theorem pe_def (D : Def X.prog X.w X.K X.mg X.base k x ps sp) (hr : Room k' X.A) (hg : Gl X x) (ha : PA X (e :: es) t) (hkk : k ≤ k' := by decide)
    (hdb : (x == ("__debug__" : Str)) = false := by decide) (he : starEach (e :: es) X.env = (false, eval e X.env) :: starEach es X.env := by rfl) (hpl : (backTo pos (starEach es X.env)).any (·.1) = false := by rfl) :
    PE X (.Call (.Name x p) (e :: es) [] pos) (tCall sp [] E0 t) := by
  obtain ⟨f, fd, F, hm, hk, hb⟩ := D.ex
  exact pe_call F (hr.mono hkk) hg hm hk hb .nil pass0 ha hdb he hpl
end
end L2
namespace L2
open PySem PySem.Spec PyProof.Rows
section
variable {X : Cx} {tg : Expr}
theorem call_lenK (K : PySem.W.Frag) (hK : X.K = K := by rfl) : CallR X (.builtin "len") (fun xs H Q => ∃ x n, xs = [x] ∧ LenV K x H n ∧ Q (.int n) H) := by subst hK; exact call_len
theorem ix_listK (K : PySem.W.Frag) (hK : X.K = K := by rfl) : IxR X (rIxL K) := by subst hK; exact ix_list
theorem ix_tupK (K : PySem.W.Frag) (hK : X.K = K := by rfl) : IxR X (rIxT K) := by subst hK; exact ix_tup
theorem sl_tupK (K : PySem.W.Frag) (hK : X.K = K := by rfl) : SlR X (rSlT K) := by subst hK; exact sl_tup
theorem pi_listK (K : PySem.W.Frag) {l : Expr} {tl : TE} (hl : PE X l tl) (hK : X.K = K := by rfl) : PI X tg l (iList K tl) := by subst hK; exact pi_list hl
theorem pi_tupK (K : PySem.W.Frag) {l : Expr} {tl : TE} (hl : PE X l tl) (hK : X.K = K := by rfl) : PI X tg l (iTup K tl) := by subst hK; exact pi_tup hl
theorem op_catTK (K : PySem.W.Frag) (hK : X.K = K := by rfl) : OpR X (binaryOp .Add) (rCatT K) := by subst hK; exact op_catT
theorem call_listK (K : PySem.W.Frag) (hK : X.K = K := by rfl) : CallR X (.type "list") (fun xs H Q => ∃ p ys, xs = [.ref p] ∧ (SqL K H p ys ∨ SqT K H p ys) ∧ ∀ l, H l = none → Q (.ref l) (upd H l (.lst ys))) := by subst hK; exact call_list_of
end
theorem atI_in {α : Type} {xs : List α} {i : Int} (h0 : 0 ≤ i) (h1 : i < xs.length) : ∃ v, atI xs i = some v ∧ v ∈ xs := by
  have hlt : i.toNat < xs.length := by omega
  refine ⟨xs[i.toNat], ?_, List.getElem_mem hlt⟩
  unfold atI ixN
  rw [if_pos h0, if_pos h1]
  show xs[i.toNat]? = _
  exact List.getElem?_eq_getElem hlt
theorem atI_lt {α : Type} {xs : List α} {i : Int} (h0 : 0 ≤ i) (h1 : i < xs.length) : atI xs i = xs[i.toNat]? := by
  unfold atI ixN
  rw [if_pos h0, if_pos h1]
  rfl
theorem same_upd {H : Hp} {a : Addr} {o : HO} (h : H a = none) : Same H (upd H a o) := fun b u e => by
  rw [upd_ne (ne_of_none e h)]
  exact e
theorem Same.set {H H' : Hp} {a : Addr} {o : HO} (h : Same H H') (n : H a = none) : Same H (upd H' a o) := fun b u e => by
  rw [upd_ne (ne_of_none e n)]
  exact h b u e
theorem Same.seqT {K : PySem.W.Frag} {H H' : Hp} {a : Addr} {xs : List V} (e : Same H H') (h : SqT K H a xs) : SqT K H' a xs := by
  rcases h with (h | ⟨o, h⟩) | h
  · exact .inl (.inl (e _ _ h))
  · exact .inl (.inr ⟨o, e _ _ h⟩)
  · exact .inr h
theorem TyOf.same {K : PySem.W.Frag} {H H' : Hp} {x : V} {t : Value} (s : Same H H') (h : TyOf K H x t) : TyOf K H' x t := by
  cases h with
  | non => exact .non
  | bl b => exact .bl b
  | int i => exact .int i
  | str x => exact .str x
  | flt x => exact .flt x
  | lst e => exact .lst (s _ _ e)
  | frz e => exact .frz (s _ _ e)
  | tup e => exact .tup (s _ _ e)
  | dK e => exact .dK (s _ _ e)
  | dT e => exact .dT (s _ _ e)
  | ins e cl ha hn ht hm => exact .ins (s _ _ e) cl ha hn ht hm
def notStar : Expr → Bool
  | .Starred _ _ => false
  | _ => true
theorem starEach_cons {e : Expr} {es : List Expr} {env : Env} (h : notStar e = true) : starEach (e :: es) env = (false, eval e env) :: starEach es env := by
  cases e <;> first
    | rfl
    | cases h
theorem pa_con {X : Cx} {e : Expr} {es : List Expr} {te : TE} {t : TA} (ha : PE X e te) (hr : PA X es t) (hs : notStar e = true := by rfl) : PA X (e :: es) (tCons te t) := pa_cons ha hr (starEach_cons hs)
theorem bt_len : bootBuiltins "len" = some (.builtin "len") := by decide +kernel
theorem bt_isinstance : bootBuiltins "isinstance" = some (.builtin "isinstance") := by decide +kernel
theorem bt_all : bootBuiltins "all" = some (.builtin "all") := by decide +kernel
theorem bt_str : bootBuiltins "str" = some (.type "str") := by decide +kernel
theorem bt_int : bootBuiltins "int" = some (.type "int") := by decide +kernel
theorem bt_bool : bootBuiltins "bool" = some (.type "bool") := by decide +kernel
theorem bt_list : bootBuiltins "list" = some (.type "list") := by decide +kernel
theorem bt_tuple : bootBuiltins "tuple" = some (.type "tuple") := by decide +kernel
theorem getD_lt {α : Type} {l : List α} {i : Nat} {d : α} (h : i < l.length) : l.getD i d = l[i] := by
  rw [List.getD_eq_getElem?_getD, List.getElem?_eq_getElem h]
  rfl
theorem getD_ge {α : Type} {l : List α} {i : Nat} {d : α} (h : l.length ≤ i) : l.getD i d = d := by
  rw [List.getD_eq_getElem?_getD, List.getElem?_eq_none_iff.mpr h]
  rfl
theorem pa_1 {X : Cx} {e0 : Expr} {t0 : TE} (h0 : PE X e0 t0) (hs0 : notStar e0 = true := by rfl) : PA X [e0] (tCons t0 tNil) := (pa_con h0 pa_nil hs0)
theorem pa_2 {X : Cx} {e0 e1 : Expr} {t0 t1 : TE} (h0 : PE X e0 t0) (h1 : PE X e1 t1) (hs0 : notStar e0 = true := by rfl) (hs1 : notStar e1 = true := by rfl) : PA X [e0, e1] (tCons t0 (tCons t1 tNil)) := (pa_con h0 (pa_con h1 pa_nil hs1) hs0)
theorem pa_3 {X : Cx} {e0 e1 e2 : Expr} {t0 t1 t2 : TE} (h0 : PE X e0 t0) (h1 : PE X e1 t1) (h2 : PE X e2 t2) (hs0 : notStar e0 = true := by rfl) (hs1 : notStar e1 = true := by rfl) (hs2 : notStar e2 = true := by rfl) : PA X [e0, e1, e2] (tCons t0 (tCons t1 (tCons t2 tNil))) := (pa_con h0 (pa_con h1 (pa_con h2 pa_nil hs2) hs1) hs0)
theorem pa_4 {X : Cx} {e0 e1 e2 e3 : Expr} {t0 t1 t2 t3 : TE} (h0 : PE X e0 t0) (h1 : PE X e1 t1) (h2 : PE X e2 t2) (h3 : PE X e3 t3) (hs0 : notStar e0 = true := by rfl) (hs1 : notStar e1 = true := by rfl) (hs2 : notStar e2 = true := by rfl) (hs3 : notStar e3 = true := by rfl) : PA X [e0, e1, e2, e3] (tCons t0 (tCons t1 (tCons t2 (tCons t3 tNil)))) := (pa_con h0 (pa_con h1 (pa_con h2 (pa_con h3 pa_nil hs3) hs2) hs1) hs0)
theorem pa_5 {X : Cx} {e0 e1 e2 e3 e4 : Expr} {t0 t1 t2 t3 t4 : TE} (h0 : PE X e0 t0) (h1 : PE X e1 t1) (h2 : PE X e2 t2) (h3 : PE X e3 t3) (h4 : PE X e4 t4) (hs0 : notStar e0 = true := by rfl) (hs1 : notStar e1 = true := by rfl) (hs2 : notStar e2 = true := by rfl) (hs3 : notStar e3 = true := by rfl) (hs4 : notStar e4 = true := by rfl) : PA X [e0, e1, e2, e3, e4] (tCons t0 (tCons t1 (tCons t2 (tCons t3 (tCons t4 tNil))))) := (pa_con h0 (pa_con h1 (pa_con h2 (pa_con h3 (pa_con h4 pa_nil hs4) hs3) hs2) hs1) hs0)
theorem pa_7 {X : Cx} {e0 e1 e2 e3 e4 e5 e6 : Expr} {t0 t1 t2 t3 t4 t5 t6 : TE} (h0 : PE X e0 t0) (h1 : PE X e1 t1) (h2 : PE X e2 t2) (h3 : PE X e3 t3) (h4 : PE X e4 t4) (h5 : PE X e5 t5) (h6 : PE X e6 t6) (hs0 : notStar e0 = true := by rfl) (hs1 : notStar e1 = true := by rfl) (hs2 : notStar e2 = true := by rfl) (hs3 : notStar e3 = true := by rfl) (hs4 : notStar e4 = true := by rfl) (hs5 : notStar e5 = true := by rfl) (hs6 : notStar e6 = true := by rfl) : PA X [e0, e1, e2, e3, e4, e5, e6] (tCons t0 (tCons t1 (tCons t2 (tCons t3 (tCons t4 (tCons t5 (tCons t6 tNil))))))) := (pa_con h0 (pa_con h1 (pa_con h2 (pa_con h3 (pa_con h4 (pa_con h5 (pa_con h6 pa_nil hs6) hs5) hs4) hs3) hs2) hs1) hs0)
theorem pa_8 {X : Cx} {e0 e1 e2 e3 e4 e5 e6 e7 : Expr} {t0 t1 t2 t3 t4 t5 t6 t7 : TE} (h0 : PE X e0 t0) (h1 : PE X e1 t1) (h2 : PE X e2 t2) (h3 : PE X e3 t3) (h4 : PE X e4 t4) (h5 : PE X e5 t5) (h6 : PE X e6 t6) (h7 : PE X e7 t7) (hs0 : notStar e0 = true := by rfl) (hs1 : notStar e1 = true := by rfl) (hs2 : notStar e2 = true := by rfl) (hs3 : notStar e3 = true := by rfl) (hs4 : notStar e4 = true := by rfl) (hs5 : notStar e5 = true := by rfl) (hs6 : notStar e6 = true := by rfl) (hs7 : notStar e7 = true := by rfl) : PA X [e0, e1, e2, e3, e4, e5, e6, e7] (tCons t0 (tCons t1 (tCons t2 (tCons t3 (tCons t4 (tCons t5 (tCons t6 (tCons t7 tNil)))))))) := (pa_con h0 (pa_con h1 (pa_con h2 (pa_con h3 (pa_con h4 (pa_con h5 (pa_con h6 (pa_con h7 pa_nil hs7) hs6) hs5) hs4) hs3) hs2) hs1) hs0)
theorem pss_2 {X : Cx} {s0 s1 : Stmt} {t0 t1 : TS} (h0 : PS X s0 t0) (h1 : PS X s1 t1) : PSs X [s0, s1] (tSeq t0 t1) := (pss_cons h0 (pss_one h1))
theorem pss_3 {X : Cx} {s0 s1 s2 : Stmt} {t0 t1 t2 : TS} (h0 : PS X s0 t0) (h1 : PS X s1 t1) (h2 : PS X s2 t2) : PSs X [s0, s1, s2] (tSeq t0 (tSeq t1 t2)) := (pss_cons h0 (pss_cons h1 (pss_one h2)))
theorem pss_4 {X : Cx} {s0 s1 s2 s3 : Stmt} {t0 t1 t2 t3 : TS} (h0 : PS X s0 t0) (h1 : PS X s1 t1) (h2 : PS X s2 t2) (h3 : PS X s3 t3) : PSs X [s0, s1, s2, s3] (tSeq t0 (tSeq t1 (tSeq t2 t3))) := (pss_cons h0 (pss_cons h1 (pss_cons h2 (pss_one h3))))
theorem pss_5 {X : Cx} {s0 s1 s2 s3 s4 : Stmt} {t0 t1 t2 t3 t4 : TS} (h0 : PS X s0 t0) (h1 : PS X s1 t1) (h2 : PS X s2 t2) (h3 : PS X s3 t3) (h4 : PS X s4 t4) : PSs X [s0, s1, s2, s3, s4] (tSeq t0 (tSeq t1 (tSeq t2 (tSeq t3 t4)))) := (pss_cons h0 (pss_cons h1 (pss_cons h2 (pss_cons h3 (pss_one h4)))))
theorem pss_6 {X : Cx} {s0 s1 s2 s3 s4 s5 : Stmt} {t0 t1 t2 t3 t4 t5 : TS} (h0 : PS X s0 t0) (h1 : PS X s1 t1) (h2 : PS X s2 t2) (h3 : PS X s3 t3) (h4 : PS X s4 t4) (h5 : PS X s5 t5) : PSs X [s0, s1, s2, s3, s4, s5] (tSeq t0 (tSeq t1 (tSeq t2 (tSeq t3 (tSeq t4 t5))))) := (pss_cons h0 (pss_cons h1 (pss_cons h2 (pss_cons h3 (pss_cons h4 (pss_one h5))))))
theorem pss_7 {X : Cx} {s0 s1 s2 s3 s4 s5 s6 : Stmt} {t0 t1 t2 t3 t4 t5 t6 : TS} (h0 : PS X s0 t0) (h1 : PS X s1 t1) (h2 : PS X s2 t2) (h3 : PS X s3 t3) (h4 : PS X s4 t4) (h5 : PS X s5 t5) (h6 : PS X s6 t6) : PSs X [s0, s1, s2, s3, s4, s5, s6] (tSeq t0 (tSeq t1 (tSeq t2 (tSeq t3 (tSeq t4 (tSeq t5 t6)))))) := (pss_cons h0 (pss_cons h1 (pss_cons h2 (pss_cons h3 (pss_cons h4 (pss_cons h5 (pss_one h6)))))))
theorem psr_1 {X : Cx} {s0 : Stmt} {ss : List Stmt} {t0 u : TS} (h0 : PS X s0 t0) (hu : PSs X ss u) : PSs X (s0 :: ss) (tSeq t0 u) := (pss_cons h0 hu)
theorem psr_2 {X : Cx} {s0 s1 : Stmt} {ss : List Stmt} {t0 t1 u : TS} (h0 : PS X s0 t0) (h1 : PS X s1 t1) (hu : PSs X ss u) : PSs X (s0 :: s1 :: ss) (tSeq t0 (tSeq t1 u)) := (pss_cons h0 (pss_cons h1 hu))
theorem psr_3 {X : Cx} {s0 s1 s2 : Stmt} {ss : List Stmt} {t0 t1 t2 u : TS} (h0 : PS X s0 t0) (h1 : PS X s1 t1) (h2 : PS X s2 t2) (hu : PSs X ss u) : PSs X (s0 :: s1 :: s2 :: ss) (tSeq t0 (tSeq t1 (tSeq t2 u))) := (pss_cons h0 (pss_cons h1 (pss_cons h2 hu)))
theorem psr_7 {X : Cx} {s0 s1 s2 s3 s4 s5 s6 : Stmt} {ss : List Stmt} {t0 t1 t2 t3 t4 t5 t6 u : TS} (h0 : PS X s0 t0) (h1 : PS X s1 t1) (h2 : PS X s2 t2) (h3 : PS X s3 t3) (h4 : PS X s4 t4) (h5 : PS X s5 t5) (h6 : PS X s6 t6) (hu : PSs X ss u) : PSs X (s0 :: s1 :: s2 :: s3 :: s4 :: s5 :: s6 :: ss) (tSeq t0 (tSeq t1 (tSeq t2 (tSeq t3 (tSeq t4 (tSeq t5 (tSeq t6 u))))))) := (pss_cons h0 (pss_cons h1 (pss_cons h2 (pss_cons h3 (pss_cons h4 (pss_cons h5 (pss_cons h6 hu)))))))
theorem join_at {X : Cx} {body : List Stmt} {D : Ends} {σ : St} {H : Hp} (n : Nat) (C : St → Hp → Prop) (rest : ∃ u, PSs X (body.drop n) u ∧ ∀ σ H, C σ H → u D σ H)
    (first : ∀ u, PSs X (body.drop n) u → (∀ σ H, C σ H → u D σ H) → ∃ t, PSs X body t ∧ t D σ H) : ∃ t, PSs X body t ∧ t D σ H :=
  let ⟨u, h1, h2⟩ := rest
  first u h1 h2
theorem join_more {X : Cx} {body : List Stmt} {D : Ends} {C0 : St → Hp → Prop} (n : Nat) (C : St → Hp → Prop) (rest : ∃ u, PSs X (body.drop n) u ∧ ∀ σ H, C σ H → u D σ H)
    (first : ∀ u, PSs X (body.drop n) u → (∀ σ H, C σ H → u D σ H) → ∃ t, PSs X body t ∧ ∀ σ H, C0 σ H → t D σ H) : ∃ t, PSs X body t ∧ ∀ σ H, C0 σ H → t D σ H :=
  let ⟨u, h1, h2⟩ := rest
  first u h1 h2
end L2
namespace L2
open PySem PySem.Spec PyProof.Rows
mutual
inductive Dat (K : PySem.W.Frag) (H : Hp) : PyData → V → Prop
  | non : Dat K H .none .non
  | bl (b : Bool) : Dat K H (.bool b) (.bl b)
  | int (i : Int) : Dat K H (.int i) (.int i)
  | str (x : Str) (h : PyData.strOk x = true) : Dat K H (.str x) (.str x)
  | lst {a : Addr} {xs : List V} {ds : List PyData} : SqL K H a xs → Dats K H ds xs → Dat K H (.list ds) (.ref a)
  | tup {a : Addr} {xs : List V} {ds : List PyData} : SqT K H a xs → Dats K H ds xs → Dat K H (.tuple ds) (.ref a)
inductive Dats (K : PySem.W.Frag) (H : Hp) : List PyData → List V → Prop
  | nil : Dats K H [] []
  | cons {d : PyData} {x : V} {ds : List PyData} {xs : List V} : Dat K H d x → Dats K H ds xs → Dats K H (d :: ds) (x :: xs)
end
section
variable {K : PySem.W.Frag} {H H' : Hp}
mutual
theorem Dat.same (s : Same H H') : ∀ (d : PyData) (x : V), Dat K H d x → Dat K H' d x
  | _, _, .non => .non
  | _, _, .bl b => .bl b
  | _, _, .int i => .int i
  | _, _, .str x h => .str x h
  | _, _, .lst h r => .lst (s.seq h) (Dats.same s _ _ r)
  | _, _, .tup h r => .tup (s.seqT h) (Dats.same s _ _ r)
theorem Dats.same (s : Same H H') : ∀ (ds : List PyData) (xs : List V), Dats K H ds xs → Dats K H' ds xs
  | _, _, .nil => .nil
  | _, _, .cons a b => .cons (Dat.same s _ _ a) (Dats.same s _ _ b)
end
mutual
theorem Dat.lay : ∀ (d : PyData) (x : V), Dat K H d x → d.canLay0 = true
  | _, _, .non => rfl
  | _, _, .bl _ => rfl
  | _, _, .int _ => rfl
  | _, _, .str _ h => h
  | _, _, .lst _ r => Dats.lay _ _ r
  | _, _, .tup _ r => Dats.lay _ _ r
theorem Dats.lay : ∀ (ds : List PyData) (xs : List V), Dats K H ds xs → PyData.canLayAll0 ds = true
  | _, _, .nil => rfl
  | _, _, .cons a b => by rw [PyData.canLayAll0, Dat.lay _ _ a, Dats.lay _ _ b]; rfl
end
end
section
variable {X : Cx} {pins : List (Addr × Obj)} {σ : St} {H : Hp} {s : Shared}
mutual
theorem Dat.reads (I : Inv X pins σ H s) : ∀ (d : PyData) (x : V) (u : Value), Dat X.K H d x → RelV x u → ∃ as, Reads s.heap u d as
  | _, _, _, .non, r => by cases r; exact ⟨_, .none⟩
  | _, _, _, .bl b, r => by cases r; exact ⟨_, .bool b⟩
  | _, _, _, .int i, r => by obtain ⟨t, rfl⟩ := r; exact ⟨_, .int i t⟩
  | _, _, _, .str x _, r => by obtain ⟨t, rfl⟩ := r; exact ⟨_, .str x t⟩
  | _, _, _, .lst h q, r => by
    cases r
    obtain ⟨its, rv, ⟨o, n, e, c, _, d⟩, _⟩ := I.list h
    obtain ⟨as, ra⟩ := Dats.reads I _ _ _ q rv
    exact ⟨_, .list e c d (by simpa using ra)⟩
  | _, _, _, .tup h q, r => by
    cases r
    obtain ⟨its, rv, ⟨o, e, c, n, d⟩, _⟩ := I.tuple h
    obtain ⟨as, ra⟩ := Dats.reads I _ _ _ q rv
    exact ⟨_, .tuple e c d (by simpa using ra)⟩
theorem Dats.reads (I : Inv X pins σ H s) : ∀ (ds : List PyData) (xs : List V) (us : List Value), Dats X.K H ds xs → Vals xs us → ∃ as, ReadsAll s.heap us ds as
  | _, _, _, .nil, r => by cases r; exact ⟨_, .nil⟩
  | _, _, _, .cons a b, r => by
    cases r with
    | cons r1 r2 =>
      obtain ⟨as, h1⟩ := Dat.reads I _ _ _ a r1
      obtain ⟨bs, h2⟩ := Dats.reads I _ _ _ b r2
      exact ⟨_, .cons h1 h2⟩
end
end
section
variable {X : Cx}
theorem units_of {u d e : Nat} (hu : u + 64 < cLine) (hd : d ≤ 60) : u + min d e < cLine := by
  have : min d e ≤ d := Nat.min_le_left _ _
  omega
end
def LtAt (A : Around) (s : Shared) (u v : Value) (r : Bool) : Prop :=
  ∀ (prog : Program) (w : World) (E : Value → Shared → Prop) (Q : Value → Shared → Prop), Q (.bool r) s → wpAny (model prog w) A (richCompare .Lt u v) Q E s
inductive LexAt (A : Around) (s : Shared) : List Value → List Value → Bool → Prop
  | nn : LexAt A s [] [] false
  | nc {v : Value} {vs : List Value} : LexAt A s [] (v :: vs) true
  | cn {u : Value} {us : List Value} : LexAt A s (u :: us) [] false
  | eq {u v : Value} {us vs : List Value} {r : Bool} : SeqAt.EqAt A s u v true → LexAt A s us vs r → LexAt A s (u :: us) (v :: vs) r
  | lt {u v : Value} {us vs : List Value} {r : Bool} : SeqAt.EqAt A s u v false → LtAt A s u v r → LexAt A s (u :: us) (v :: vs) r
section
open PySem.SeqAt
open PySem.AutoSeq1 (wpAny_loadPart')
open PySem.MeetsSeq PySem.MeetsSeq2 PySem.MeetsSeq3
theorem tuple_lt_any (l b : Addr) (items items2 : Array Value) (n n2 : Nat) (dd dd2 : Option Addr) (sl sl2 : Array (Option Value)) (r : Bool) :
    Meets (Builtin.«tuple.__lt__» ⟨[.ref l, .ref b], []⟩)
      (fun A R s => s.heap.get? l = some { cls := .type "tuple", dict := dd, data := .seq items n, slots := sl } ∧ s.heap.get? b = some { cls := .type "tuple", dict := dd2, data := .seq items2 n2, slots := sl2 } ∧
        LexAt A.in1 s items.toList items2.toList r ∧ R (.ok (.ret (.bool r))) s) :=
  .of_wp fun prog w A R s h => by
    obtain ⟨hp, g, d, tk, os⟩ := s; obtain ⟨hl, hb, hx, h⟩ := h
    have f2 := AutoSeq1.sub_tuple_tuple
    wp_walk using wpAny_loadPart' hl, wpAny_loadPart' hb, wpAny_forIn_list _ (fun rest b s' => b.1 = none ∧ s' = ⟨hp, g, d, tk, os⟩ ∧ ∃ (vs ws : List Value), rest = vs.zip ws ∧
      LexAt A.in1 ⟨hp, g, d, tk, os⟩ vs ws r ∧ vs.length + items2.size = ws.length + items.size) _
    case turn =>
      rintro ⟨y, x⟩ rest b s' ⟨hb', rfl, vs, ws, hz, hvi, hlen⟩
      cases hvi with
      | nn => rw [List.zip_nil_left] at hz; cases hz
      | nc => rw [List.zip_nil_left] at hz; cases hz
      | cn => rw [List.zip_nil_right] at hz; cases hz
      | eq he hr =>
        rw [List.zip_cons_cons] at hz
        injection hz with hyx hrest
        injection hyx with hy hx
        subst hy hx
        simp only [List.length_cons] at hlen
        refine wpAny_bind (he prog w _ _ ?_)
        wp_walk
        exact ⟨rfl, rfl, _, _, hrest, hr, by omega⟩
      | lt he hr =>
        rw [List.zip_cons_cons] at hz
        injection hz with hyx hrest
        injection hyx with hy hx
        subst hy hx
        refine wpAny_bind (he prog w _ _ ?_)
        have hri := hr prog w
        wp_walk using hri
        exact ⟨_, rfl, by simpa using h⟩
    case fin =>
      rintro ⟨b1, b2⟩ s' ⟨hb', rfl, vs, ws, hz, hvi, hlen⟩
      simp only at hb'
      subst hb'
      have hv : r = decide (items.size < items2.size) := by
        cases hvi with
        | nn =>
          simp only [List.length_nil] at hlen
          exact (decide_eq_false (by omega)).symm
        | nc =>
          simp only [List.length_nil, List.length_cons] at hlen
          exact (decide_eq_true (by omega)).symm
        | cn =>
          simp only [List.length_nil, List.length_cons] at hlen
          exact (decide_eq_false (by omega)).symm
        | eq _ _ => rw [List.zip_cons_cons] at hz; cases hz
        | lt _ _ => rw [List.zip_cons_cons] at hz; cases hz
      rw [hv] at h
      wp_walk
      exact ⟨_, rfl, by simpa [Builtin.Tuple.tupleCompareSizes] using h⟩
    case h =>
      exact ⟨rfl, rfl, items.toList, items2.toList, rfl, hx, by simp; omega⟩
end
theorem ltAt_tup {A : Around} {s : Shared} {l b : Addr} {items items2 : Array Value} {r : Bool} (hl : IsTup s.heap l items) (hb : IsTup s.heap b items2) (hx : LexAt A.in1 s items.toList items2.toList r) (hu : A.units < cLine) : LtAt A s (.ref l) (.ref b) r := by
  intro prog w E Q h
  obtain ⟨⟨cls, dd, data, sl⟩, ho, hc, n, hd⟩ := id hl
  obtain ⟨⟨cls2, dd2, data2, sl2⟩, ho2, hc2, n2, hd2⟩ := id hb
  simp only at hc hd hc2 hd2
  subst hc hd hc2 hd2
  exact richCompare_meets_room (op := .Lt) ⟨_, ho, rfl⟩ ⟨_, ho2, rfl⟩ PySem.F.slot_tuple_lt PySem.F.entry_tuple_lt (PySem.F.args_tuple_lt_2 _ _) (tuple_lt_any l b items items2 n n2 dd dd2 sl sl2 r)
    ⟨ho, ho2, hx, show Value.bool r ≠ Value.notImplemented ∧ Q (.bool r) s from ⟨(fun x => nomatch x), h⟩⟩ hu
mutual
def ltD? : PyData → PyData → Option Bool
  | .int a, .int b => some (decide (a < b))
  | .str a, .str b => some (decide (a.cps.toList < b.cps.toList))
  | .tuple as, .tuple bs => lexD? as bs
  | _, _ => none
def lexD? : List PyData → List PyData → Option Bool
  | [], [] => some false
  | [], _ :: _ => some true
  | _ :: _, [] => some false
  | a :: as, b :: bs => if PyData.eqv a b = true then lexD? as bs else ltD? a b
end
mutual
theorem ltAt_reads : ∀ (da db : PyData) (A : Around) (s : Shared) (a b : Value) (as bs : List Addr) (r : Bool), Reads s.heap a da as → Reads s.heap b db bs → da.canLay0 = true → db.canLay0 = true →
    A.units + min da.depth db.depth < cLine → ltD? da db = some r → LtAt A s a b r
  | .int x, db, A, s, _, _, _, _, r, ra, rb, ha, hb, hu, e => by
    cases ra
    cases rb <;> first
      | (cases e; intro prog w E Q h; exact (lt_int h : wpAny (model prog w) A (compareOp .Lt _ _) Q E s))
      | (exact nomatch e)
  | .str x, db, A, s, _, _, _, _, r, ra, rb, ha, hb, hu, e => by
    cases ra
    cases rb <;> first
      | (cases e; intro prog w E Q h; exact (lt_str h : wpAny (model prog w) A (compareOp .Lt _ _) Q E s))
      | (exact nomatch e)
  | .tuple xs, db, A, s, _, _, _, _, r, ra, rb, ha, hb, hu, e => by
    cases ra with
    | tuple h1 h2 h3 h4 =>
      cases rb with
      | tuple k1 k2 k3 k4 =>
        exact ltAt_tup ⟨_, h1, h2, _, h3⟩ ⟨_, k1, k2, _, k3⟩ (lexAt_reads xs _ A.in1 s _ _ _ _ r h4 k4 ha hb (SeqAt.room_in hu) e) (SeqAt.room_here hu)
      | none => exact nomatch e
      | bool => exact nomatch e
      | int => exact nomatch e
      | str => exact nomatch e
      | list => exact nomatch e
      | dict => exact nomatch hb
  | .none, _, _, _, _, _, _, _, _, _, _, _, _, _, e => by simp [ltD?] at e
  | .bool _, _, _, _, _, _, _, _, _, _, _, _, _, _, e => by simp [ltD?] at e
  | .list _, _, _, _, _, _, _, _, _, _, _, _, _, _, e => by simp [ltD?] at e
  | .dict _, _, _, _, _, _, _, _, _, _, _, ha, _, _, _ => nomatch ha
theorem lexAt_reads : ∀ (xs ys : List PyData) (A : Around) (s : Shared) (vs ws : List Value) (as bs : List Addr) (r : Bool), ReadsAll s.heap vs xs as → ReadsAll s.heap ws ys bs → PyData.canLayAll0 xs = true → PyData.canLayAll0 ys = true →
    A.units + min (PyData.depthAll xs) (PyData.depthAll ys) < cLine → lexD? xs ys = some r → LexAt A s vs ws r
  | [], [], _, _, _, _, _, _, r, ra, rb, _, _, _, e => by cases ra; cases rb; cases e; exact .nn
  | [], _ :: _, _, _, _, _, _, _, r, ra, rb, _, _, _, e => by cases ra; cases rb; cases e; exact .nc
  | _ :: _, [], _, _, _, _, _, _, r, ra, rb, _, _, _, e => by cases ra; cases rb; cases e; exact .cn
  | x :: xs, y :: ys, A, s, _, _, _, _, r, ra, rb, ha, hb, hu, e => by
    have ha' : x.canLay0 = true ∧ PyData.canLayAll0 xs = true := by simpa [PyData.canLayAll0] using ha
    have hb' : y.canLay0 = true ∧ PyData.canLayAll0 ys = true := by simpa [PyData.canLayAll0] using hb
    cases ra with
    | cons r1 rs =>
      cases rb with
      | cons r1' rs' =>
        have eq := SeqAt.eqAt_reads x y A s _ _ _ _ r1 r1' ha'.1 hb'.1 (SeqAt.room_head hu)
        rw [lexD?] at e
        cases q : PyData.eqv x y with
        | true =>
          rw [q] at eq
          rw [if_pos q] at e
          exact .eq eq (lexAt_reads xs ys A s _ _ _ _ r rs rs' ha'.2 hb'.2 (SeqAt.room_tail hu) e)
        | false =>
          rw [q] at eq
          rw [if_neg (by rw [q]; exact Bool.false_ne_true)] at e
          exact .lt eq (ltAt_reads x y A s _ _ _ _ r r1 r1' ha'.1 hb'.1 (SeqAt.room_head hu) e)
end
section
variable {X : Cx}
end
end L2
namespace L2
open PySem PySem.Spec PyProof.Rows
def tyD : PyData → String
  | .none => "NoneType"
  | .bool _ => "bool"
  | .int _ => "int"
  | .str _ => "str"
  | .list _ => "list"
  | .tuple _ => "tuple"
  | .dict _ => "dict"
theorem tyD_in (d : PyData) : tyD d ∈ tyTs := by
  cases d <;> simp [tyD, tyTs]
section
variable {X : Cx}
theorem call_isiD (K : PySem.W.Frag) (hK : X.K = K := by rfl) : CallR X (.builtin "isinstance") (fun xs H Q => ∃ x n d, xs = [x, .ty n] ∧ Dat K H d x ∧ n ∈ tyNs ∧ Q (.bl (tyIs (tyD d) n)) H) := by
  subst hK
  intro pins s σ H xs us Q I r h
  obtain ⟨x, n, d, rfl, hd, hn, q⟩ := h
  obtain ⟨u, c, rfl, ru, rc⟩ := vals2 r
  cases rc
  have e := kit_one (K := X.K) (tyD_in d) hn
  have fin : ∀ tk, EP X pins σ Q (.bool (tyIs (tyD d) n)) { s with toks := tk } := fun tk => ⟨.bl _, H, I.tok tk, rfl, q⟩
  cases hd with
  | non => cases ru; exact PySem.W.kia_one PySem.W.kitx_none I.kIn True.intro e (fun z => nomatch z) fin
  | bl b => cases ru; exact PySem.W.kia_one PySem.W.kitx_bool I.kIn True.intro e (fun z => nomatch z) fin
  | int i => obtain ⟨t, rfl⟩ := ru; exact PySem.W.kia_one PySem.W.kitx_int I.kIn True.intro e (fun z => nomatch z) fin
  | str z h => obtain ⟨t, rfl⟩ := ru; exact PySem.W.kia_one PySem.W.kitx_str I.kIn True.intro e (fun z => nomatch z) fin
  | lst hq _ =>
    cases ru
    obtain ⟨its, _, ⟨o, m, e1, c, _, _⟩, _⟩ := I.list hq
    exact PySem.W.kia_one PySem.W.kitx_list I.kIn ⟨o, e1, c⟩ e (fun z => nomatch z) fin
  | tup hq _ =>
    cases ru
    obtain ⟨its, _, ⟨o, e1, c, _⟩, _⟩ := I.tuple hq
    exact PySem.W.kia_one PySem.W.kitx_tuple I.kIn ⟨o, e1, c⟩ e (fun z => nomatch z) fin
def rNeD (K : PySem.W.Frag) : R2 := fun x y H Q => ∃ d e, Dat K H d x ∧ Dat K H e y ∧ d.depth ≤ 60 ∧ Q (.bl (!PyData.eqv d e)) H
theorem op_neD (hu : X.A.units + 64 < cLine) (K : PySem.W.Frag) (hK : X.K = K := by rfl) : OpR X (compareOp .NotEq) (rNeD K) := by
  subst hK
  intro pins s σ H x y v u Q I rx ry h
  obtain ⟨d, e, hd, he, hz, q⟩ := h
  obtain ⟨as, ra⟩ := Dat.reads I _ _ _ hd rx
  obtain ⟨bs, rb⟩ := Dat.reads I _ _ _ he ry
  exact SeqAt.compareNe_reads ra rb (Dat.lay _ _ hd) (Dat.lay _ _ he) (units_of hu hz) (fin_bl I q rfl)
end
end L2
namespace L2
open PySem PySem.Spec PyProof.Rows PySem.W
def RawD (h : Heap) (d : Addr) (es : Array DictEntry) (ep : Nat) : Prop := ∃ o, h.get? d = some o ∧ o.ExactDict ∧ o.data = .dict es ep
theorem RawD.lt {h : Heap} {d : Addr} {es : Array DictEntry} {ep : Nat} (x : RawD h d es ep) : d < h.objs.size := let ⟨_, e, _⟩ := x; Heap.lt_size e
theorem RawD.ty {s : Shared} {d : Addr} {es : Array DictEntry} {ep : Nat} (x : RawD s.heap d es ep) : s.TypeIs (.ref d) "dict" := let ⟨o, e, c, _⟩ := x; ⟨o, e, c.1⟩
theorem RawD.at {h h' : Heap} {d : Addr} {es : Array DictEntry} {ep : Nat} (x : RawD h d es ep) (k : ∀ o, h.get? d = some o → h'.get? d = some o) : RawD h' d es ep := let ⟨o, e, r⟩ := x; ⟨o, k o e, r⟩
section
variable {prog : Program} {w : World} {A : Around} {E : Value → Shared → Prop} {s : Shared} {d it : Addr} {es : Array DictEntry} {ep i : Nat}
end
end L2
namespace Tim
section
variable {α : Type}
end
section
open PySem
end
end Tim
namespace L2
open PySem PySem.Spec PyProof.Rows PySem.W
def sOf : Value → Str
  | .str x _ => x
  | _ => ""
theorem vals_str {ws : List Str} : ∀ {us : List Value}, Vals (ws.map V.str) us → us.map sOf = ws ∧ (∀ u ∈ us, ∃ x t, u = .str x t) ∧ StrsAre us ws := by
  induction ws with
  | nil =>
    intro us r
    cases r
    exact ⟨rfl, (fun _ z => nomatch z), .nil⟩
  | cons x ws ih =>
    intro us r
    cases r with
    | cons r1 rr =>
      obtain ⟨t, rfl⟩ := r1
      obtain ⟨a, b, c⟩ := ih rr
      refine ⟨by rw [List.map_cons, a]; rfl, fun u hu => ?_, .cons x t c⟩
      rcases List.mem_cons.mp hu with rfl | hu
      · exact ⟨x, t, rfl⟩
      · exact b u hu
section
variable {prog : Program} {w : World} {A : Around} {s : Shared} {a : Addr}
end
section
variable {X : Cx}
end
def TupAt (h : Heap) (v : Value) (p : List Str) : Prop := ∃ (b : Addr) (o : Obj) (its : Array Value) (n : Nat), v = .ref b ∧ h.get? b = some o ∧ o.cls = .type "tuple" ∧ o.data = .seq its n ∧ Vals (p.map V.str) its.toList
section
variable {prog : Program} {w : World} {A : Around} {E : Value → Shared → Prop} {s : Shared} {a : Addr}
theorem TupAt.keep {h h' : Heap} {v : Value} {p : List Str} (x : TupAt h v p) (k : ∀ b o, v = .ref b → h.get? b = some o → h'.get? b = some o) : TupAt h' v p :=
  let ⟨b, o, its, n, e, g, r⟩ := x
  ⟨b, o, its, n, e, k b o e g, r⟩
end
section
variable {X : Cx}
end
end L2
namespace L2
open PySem PySem.Spec PyProof.Rows
section
variable {X : Cx}
end
end L2
namespace L2
open PySem PySem.Spec PyProof.Rows
section
variable {X : Cx} {e : Expr} {lo hi : Option Expr} {se : Expr} {te : TE} {tl th ts : TO} {p2 pos : Pos}
end
end L2
namespace L2
open PySem PySem.Spec PyProof.Rows
section
variable {X : Cx}
def rCatA (K : PySem.W.Frag) : R2 := fun x y H Q => ∃ a b xs ys, x = .ref a ∧ y = .ref b ∧ SqT K H a xs ∧ SqT K H b ys ∧ xs.length + ys.length ≤ sizeLine ∧ ∀ p H', Same H H' → SqT K H' p (xs ++ ys) → Q (.ref p) H'
theorem op_catA (K : PySem.W.Frag) (hK : X.K = K := by rfl) : OpR X (binaryOp .Add) (rCatA K) := by
  subst hK
  intro pins s σ H x y v u Q I rx ry h
  obtain ⟨a, b, xs, ys, rfl, rfl, ha, hb, hz, q⟩ := h
  by_cases hx : xs = []
  · subst hx
    cases rx
    cases ry
    obtain ⟨its, r1, p1, _⟩ := I.tuple ha
    obtain ⟨its2, r2, p2, _⟩ := I.tuple hb
    have e0 : its = [] := r1.nil_iff.mpr rfl
    subst e0
    obtain ⟨⟨cls, dd, data, sl⟩, ho, hc, n, hd⟩ := id p1
    obtain ⟨⟨cls2, dd2, data2, sl2⟩, ho2, hc2, n2, hd2⟩ := id p2
    simp only at hc hd hc2 hd2
    subst hc hd hc2 hd2
    exact concat_meets ⟨_, ho, rfl⟩ ⟨_, ho2, rfl⟩ noFill_tuple_add seq_tuple_add PySem.F.slot_tuple_add PySem.F.entry_tuple_add (PySem.F.args_tuple_add_2 _ _)
      (tuple_addW0 a b #[] its2.toArray n n2 dd dd2 sl sl2 rfl) ⟨ho, ho2, ⟨.ref b, H, I, rfl, q b H (Same.refl _) hb⟩⟩
  · refine op_catT pins s σ H _ _ v u Q I rx ry ⟨a, b, xs, ys, rfl, rfl, ha, hb, hx, hz, fun e => ?_, fun _ p hp => q p _ (same_upd hp) (SqT.of upd_same)⟩
    subst e
    exact q a H (Same.refl _) (by rw [List.append_nil]; exact ha)
end
end L2
namespace L2
open PySem PySem.Spec PyProof.Rows
section
variable {X : Cx}
end
section
variable {prog : Program} {w : World} {A : Around} {R : Result → Shared → Prop} {I : Addr} {fp wr : List Addr} {n : Nat} {P : Nat → Value → Prop} {St : Nat → Heap → Prop}
end
section
variable {X : Cx} {e d : Expr} {t tk : TA} {p pos kpos : Pos}
end
end L2
namespace L2
open PySem PySem.Spec PyProof.Rows
section
variable {prog : Program} {w : World} {A : Around} {E : Value → Shared → Prop} {s : Shared}
end
section
variable {prog : Program} {w : World} {A : Around} {R : Result → Shared → Prop} {I : Addr} {fp wr : List Addr} {n : Nat} {P : Nat → Value → Prop} {St : Nat → Heap → Prop}
end
section
variable {X : Cx}
end
end L2
namespace L2
open PySem PySem.Spec PyProof.Rows
section
variable {X : Cx} {tg : Expr}
end
section
variable {X : Cx} {e : Expr} {lo hi : Option Expr} {se : Expr} {te : TE} {tl th ts : TO} {p2 pos : Pos}
end
end L2
namespace L2
open PySem PySem.Spec PyProof.Rows
section
variable {prog : Program} {w : World} {A : Around} {E : Value → Shared → Prop} {s : Shared}
end
section
variable {X : Cx}
end
end L2
namespace L2
open PySem PySem.Spec PyProof.Rows
def cA (mg : Str → Option Value) (x : Str) : Addr := match mg x with
  | some (.ref a) => a
  | _ => 0
theorem cA_of {mg : Str → Option Value} {x : Str} {C : Addr} (h : mg x = some (.ref C)) : cA mg x = C := by
  unfold cA
  rw [h]
structure MTop (K : PySem.W.Frag) (C : Addr) (m qual : Str) (st : Stmt) (ps : List Str) : Prop where
  ex : ∃ f fd, Fun K m qual st f fd ∧ Meth K C m f ∧ ∀ us : List Value, us.length = ps.length → bindArgs fd ⟨us, []⟩ = pure (ps.zip us)
theorem mtop_mk {K : PySem.W.Frag} {C : Addr} {m qual : Str} {st : Stmt} {ps : List Str} {f : Addr} {oc : Value} {od an : Option Addr} {osl : Array (Option Value)} {kV doc pm cdv ct : Value}
    (b : ∀ (kV doc pm : Value) (an : Option Addr) (cdv ct : Value) (us : List Value), us.length = ps.length → bindArgs (PySem.W.fnOf m qual (defArgs st) (defBody st) (defScope st) .none kV doc pm an cdv ct) ⟨us, []⟩ = pure (ps.zip us))
    (a : PySem.W.findIn K (.ref C) m = some (some (.ref f))) (i : PySem.W.isFn K (.ref f) = true)
    (l : K.lookup f = some ⟨oc, od, .func (PySem.W.fnOf m qual (defArgs st) (defBody st) (defScope st) .none kV doc pm an cdv ct), osl⟩) (c : PySem.W.codeIn K cdv qual = true) (k : PySem.W.keepIn K (.ref f) = true) : MTop K C m qual st ps :=
  ⟨f, _, fun_mk (st := st) l c k, ⟨a, i, k⟩, b kV doc pm an cdv ct⟩
structure MDef (P : Program) (w : World) (K : PySem.W.Frag) (mg : Str → Option Value) (base : Heap) (k : Nat) (C : Addr) (m : Str) (ps : List Str) (sp : Sp) : Prop where
  ex : ∃ f fd, FnOk P w K mg base CX0 k f fd ps sp ∧ Meth K C m f ∧ Binds K fd ps []
theorem MTop.ok {P : Program} {w : World} {K : PySem.W.Frag} {mg : Str → Option Value} {base : Heap} {C : Addr} {m qual : Str} {st : Stmt} {N ps : List Str} {k : Nat} {sp : Sp} (T : MTop K C m qual st ps) (S : FnScope N ps (defScope st)) (len : ∀ vs H Q E, sp vs H Q E → vs.length = ps.length)
    (hbody : ∀ (f : Addr) (cdv : Value) (A : Around) (outer : List Env) (s : Shared) (H : Hp) (vs : List V) (Q : VK) (E : XK), Room k (A.deeper (envOfC qual (defScope st) s.heap.objs.size f cdv)) → sp vs H Q E →
      ∃ t, PSs (cxOf CX0 P w K mg base N qual (defScope st) f cdv A outer s H E).nox (defBody st) t ∧ t { nx := fun _ H' => Q .non H', rt := Q } (start N vs) H) : MDef P w K mg base (k + 1) C m ps sp := by
  obtain ⟨f, fd, F, hm, hb⟩ := T.ex
  exact ⟨f, fd, F.ok S len (hbody f), hm, Binds.all hb⟩
section
variable {X : Cx} {k k' : Nat} {C : Addr} {ps ks : List Str} {sp : Sp} {x m : Str} {p pos apos : Pos} {e o : Expr} {es : List Expr} {ta : TE} {t tk : TA} {kws : List Keyword}
structure FunD (K : PySem.W.Frag) (x qual : Str) (st : Stmt) (f : Addr) (fd : FuncData) : Prop where
  ex : ∃ (oc : Value) (od : Option Addr) (dV kV doc pm : Value) (an : Option Addr) (cdv ct : Value) (osl : Array (Option Value)),
    fd = PySem.W.fnOf x qual (defArgs st) (defBody st) (defScope st) dV kV doc pm an cdv ct ∧ K.lookup f = some ⟨oc, od, .func fd, osl⟩ ∧ PySem.W.codeIn K cdv qual = true
theorem FunD.ok {P : Program} {w : World} {K : PySem.W.Frag} {mg : Str → Option Value} {base : Heap} {x qual : Str} {st : Stmt} {f : Addr} {fd : FuncData} {N ps : List Str} {k : Nat} {sp : Sp} (F : FunD K x qual st f fd) (S : FnScope N ps (defScope st)) (len : ∀ vs H Q E, sp vs H Q E → vs.length = ps.length)
    (hbody : ∀ (cdv : Value) (A : Around) (outer : List Env) (s : Shared) (H : Hp) (vs : List V) (Q : VK) (E : XK), Room k (A.deeper (envOfC qual (defScope st) s.heap.objs.size f cdv)) → sp vs H Q E →
      ∃ t, PSs (cxOf CX0 P w K mg base N qual (defScope st) f cdv A outer s H E).nox (defBody st) t ∧ t { nx := fun _ H' => Q .non H', rt := Q } (start N vs) H) : FnOk P w K mg base CX0 (k + 1) f fd ps sp := by
  obtain ⟨oc, od, dV, kV, doc, pm, an, cdv, ct, osl, rfl, lk, hcd⟩ := F.ex
  refine fn_of lk hcd S len fun A outer s H vs Q E hr hsp => ?_
  obtain ⟨t, h, q⟩ := hbody cdv A outer s H vs Q E hr hsp
  exact ⟨t, h.nox, q⟩
structure InitB (K : PySem.W.Frag) (fd : FuncData) (y : Str) (dv : V) : Prop where
  b0 : ∃ u, RelV dv u ∧ Binds K fd ["self", y] [u]
  b1 : Binds K fd ["self", y] []
  bk : ∀ (s : Shared) (v z : Value), K.In s.heap → BindsTo s fd ⟨[v], [(y, z)]⟩ [("self", v), (y, z)]
structure ITop (K : PySem.W.Frag) (C : Addr) (qual y : Str) (st : Stmt) (dv : V) : Prop where
  ex : ∃ f fd, FunD K "__init__" qual st f fd ∧ PySem.W.findIn K (.ref C) "__init__" = some (some (.ref f)) ∧ PySem.W.isFn K (.ref f) = true ∧ InitB K fd y dv
structure IDef (P : Program) (w : World) (K : PySem.W.Frag) (mg : Str → Option Value) (base : Heap) (k : Nat) (C : Addr) (y : Str) (dv : V) (sp : Sp) : Prop where
  ex : ∃ f fd, FnOk P w K mg base CX0 k f fd ["self", y] sp ∧ PySem.W.findIn K (.ref C) "__init__" = some (some (.ref f)) ∧ PySem.W.isFn K (.ref f) = true ∧ InitB K fd y dv
theorem ITop.ok {P : Program} {w : World} {K : PySem.W.Frag} {mg : Str → Option Value} {base : Heap} {C : Addr} {qual y : Str} {st : Stmt} {dv : V} {N : List Str} {k : Nat} {sp : Sp} (T : ITop K C qual y st dv) (S : FnScope N ["self", y] (defScope st)) (len : ∀ vs H Q E, sp vs H Q E → vs.length = (["self", y] : List Str).length)
    (hbody : ∀ (f : Addr) (cdv : Value) (A : Around) (outer : List Env) (s : Shared) (H : Hp) (vs : List V) (Q : VK) (E : XK), Room k (A.deeper (envOfC qual (defScope st) s.heap.objs.size f cdv)) → sp vs H Q E →
      ∃ t, PSs (cxOf CX0 P w K mg base N qual (defScope st) f cdv A outer s H E).nox (defBody st) t ∧ t { nx := fun _ H' => Q .non H', rt := Q } (start N vs) H) : IDef P w K mg base (k + 1) C y dv sp := by
  obtain ⟨f, fd, F, h1, h2, h3⟩ := T.ex
  exact ⟨f, fd, F.ok S len (hbody f), h1, h2, h3⟩
variable {y : Str} {dv : V}
end
end L2
namespace L2
open PySem PySem.Spec PyProof.Rows PySem.W
section
variable {prog : Program} {w : World} {A : Around} {s : Shared} {a : Addr}
end
section
variable {X : Cx}
end
end L2
namespace L2
open PySem PySem.Spec PyProof.Rows
section
variable {X : Cx} {pins : List (Addr × Obj)} {σ : St} {H : Hp} {s : Shared} {a : Addr} {kvs : List (Key × V)} {k : Key} {z : V} {u r : Value} {A : Around} {E : Value → Shared → Prop}
end
section
variable {X : Cx} {o e f : Expr} {apos cpos : Pos} {td ty tx : TE}
end
end L2
namespace L2
open PySem PySem.Spec PyProof.Rows PySem.W
def byTxt (w : World) : Bool := w.params.followText "set-order"
def TxS (P : Program) (w : World) (h : Heap) (a : Addr) (xs : List Str) : Prop :=
  ∃ o es ep t, h.get? a = some o ∧ o.ExactSet ∧ o.data = .set es ep t ∧ ElemsOf (strKind P w) es.toList ∧ es.toList.map (fun e => sOf e.2) = xs ∧ xs.Nodup ∧ es.size < scanBound ∧ t.fits es.size = true ∧ t.led = !byTxt w ∧ (0 < es.size → t.plain = false)
section
variable {P : Program} {w : World} {A : Around} {E : Value → Shared → Prop} {s : Shared} {a : Addr} {xs : List Str}
end
theorem TxS.keep {P : Program} {w : World} {h h' : Heap} {a : Addr} {xs : List Str} (x : TxS P w h a xs) (k : ∀ o, h.get? a = some o → h'.get? a = some o) : TxS P w h' a xs := by
  obtain ⟨o, es, ep, t, ho, r⟩ := x
  exact ⟨o, es, ep, t, k o ho, r⟩
section
variable {prog : Program} {w : World} {A : Around} {R : Result → Shared → Prop} {I : Addr} {fp wr : List Addr} {G : Array GenState → Array GenState → Prop} {n : Nat} {P : Nat → Value → Prop} {St : Nat → Shared → Prop}
def InS (val : Nat → Str) (i : Nat) (ys : List Str) : Prop := (∀ x, x ∈ ys ↔ ∃ j, j < i ∧ val j = x) ∧ ys.length ≤ i
theorem InS.next {val : Nat → Str} {i : Nat} {ys zs : List Str} (h : InS val i ys) (e : if val i ∈ ys then zs = ys else zs.Perm (ys ++ [val i])) : InS val (i + 1) zs := by
  have step : ∀ x, (∃ j, j < i + 1 ∧ val j = x) ↔ (∃ j, j < i ∧ val j = x) ∨ x = val i := fun x => by
    constructor
    · rintro ⟨j, hj, rfl⟩
      rcases Nat.lt_or_ge j i with h1 | h1
      · exact .inl ⟨j, h1, rfl⟩
      · exact .inr (by rw [show j = i by omega])
    · rintro (⟨j, hj, rfl⟩ | rfl)
      · exact ⟨j, by omega, rfl⟩
      · exact ⟨i, Nat.lt_succ_self _, rfl⟩
  by_cases c : val i ∈ ys
  · rw [if_pos c] at e
    subst e
    refine ⟨fun x => ?_, Nat.le_succ_of_le h.2⟩
    rw [step, ← h.1 x]
    exact ⟨.inl, fun z => z.elim id fun q => q ▸ c⟩
  · rw [if_neg c] at e
    refine ⟨fun x => ?_, ?_⟩
    · rw [step, e.mem_iff, List.mem_append, List.mem_singleton, h.1 x]
    · rw [e.length_eq, List.length_append]
      exact Nat.succ_le_succ h.2
end
section
variable {prog : Program} {w : World} {A : Around} {E : Value → Shared → Prop} {s : Shared}
end
section
variable {prog : Program} {w : World} {A : Around} {E : Value → Shared → Prop} {s : Shared}
end
end L2
namespace L2
open PySem PySem.Spec PyProof.Rows PySem.W
section
variable {M : Model} {A : Around} {E : Value → Shared → Prop}
end
section
variable {prog : Program} {w : World} {A : Around} {E : Value → Shared → Prop} {s : Shared} {a : Addr}
end
end L2
namespace L2
open PySem PySem.Spec PyProof.Rows PySem.W
section
variable {prog : Program} {w : World} {A : Around} {E : Value → Shared → Prop} {s : Shared} {a I : Addr} {es : Array (Int × Value)} {ep : Nat} {t : SetTable}
end
end L2
namespace L2
open PySem PySem.Spec PyProof.Rows PySem.W
section
variable {prog : Program} {w : World} {A : Around} {E : Value → Shared → Prop} {s : Shared} {a I T : Addr} {es : Array (Int × Value)} {ep i : Nat} {t : SetTable} {o : Obj}
end
end L2
namespace L2
open PySem PySem.Spec PyProof.Rows PySem.W
section
variable {prog : Program} {w : World} {A : Around} {E : Value → Shared → Prop} {s : Shared} {a I T : Addr} {es : Array (Int × Value)} {ep : Nat} {t : SetTable} {o : Obj}
end
end L2
namespace L2
open PySem PySem.Spec PyProof.Rows PySem.W
section
variable {prog : Program} {w : World} {A : Around} {E : Value → Shared → Prop} {s : Shared} {a : Addr} {xs : List Str}
end
end L2
namespace L2
open PySem PySem.Spec PyProof.Rows PySem.W
section
variable {prog : Program} {w : World} {A : Around} {E : Value → Shared → Prop} {s : Shared} {a : Addr} {xs : List Str}
end
end L2
namespace L2
open PySem PySem.Spec PyProof.Rows PySem.W
section
variable {X : Cx} {pins : List (Addr × Obj)} {σ : St} {H : Hp} {s : Shared}
end
end L2
namespace L2
open PySem PySem.Spec PyProof.Rows PySem.W
section
variable {X : Cx}
end
end L2
namespace L2
open PySem PySem.Spec PyProof.Rows PySem.W
section
variable {X : Cx}
end
end L2
namespace L2
open PySem PySem.Spec PyProof.Rows PySem.W
section
variable {X : Cx}
end
end L2
namespace L2
open PySem PySem.Spec PyProof.Rows PySem.W
section
variable {X : Cx} {tg : Expr}
end
end L2
namespace L2
open PySem PySem.Spec PyProof.Rows
section
variable {X : Cx}
def catS (ws : List Str) : Str := ⟨(ws.flatMap (·.cps.toList)).toArray⟩
theorem app_cps (a b : Str) : (a ++ b).cps = a.cps ++ b.cps := rfl
theorem join_cat : ∀ ws : List Str, Str.join "" ws = catS ws
  | [] => rfl
  | [x] => by
    show x = ⟨_⟩
    cases x
    simp [catS]
  | x :: y :: r => by
    show x ++ "" ++ Str.join "" (y :: r) = _
    rw [join_cat (y :: r)]
    have h : ∀ a b : Str, a.cps.toList = b.cps.toList → a = b := fun a b h => by
      cases a
      cases b
      congr
      exact Array.toList_inj.mp h
    apply h
    rw [app_cps, app_cps, Array.toList_append, Array.toList_append]
    show x.cps.toList ++ ([] : List Nat) ++ _ = _
    simp [catS]
def rJoin (K : PySem.W.Frag) : V → List V → Hp → VK → Prop := fun x xs H Q => ∃ a ws, x = .str "" ∧ xs = [.ref a] ∧ SqL K H a (ws.map V.str) ∧ (ws.map (·.length)).sum ≤ 16777216 ∧ Q (.str (catS ws)) H
theorem mt_joinK (K : PySem.W.Frag) (hK : X.K = K := by rfl) : MtR X "str.join" (rJoin K) := by
  subst hK
  intro pins s σ H x xs v us Q I rx rv h
  obtain ⟨a, ws, rfl, rfl, hs, hl, q⟩ := h
  obtain ⟨t, rfl⟩ := rx
  obtain ⟨u, rfl, ru⟩ := rv.one
  cases ru
  obtain ⟨its, r, pl, _⟩ := I.list hs
  obtain ⟨_, _, e3⟩ := vals_str r
  have e : Txt.join "" ws = catS ws := by
    show Builtin.Str.glued "" ws = _
    rw [StrLaws.glued_eq_join, join_cat]
  have l0 : (Str.ofString "").length = 0 := by decide
  refine join_list (ys := ws) pl.isList (by rw [List.toList_toArray]; exact e3) (by rw [l0, Nat.mul_zero]; exact hl) fun t' k => ?_
  exact ⟨.str (catS ws), H, I.tok _, ⟨t', by rw [← e]⟩, q⟩
end
end L2
namespace L2
open PySem PySem.Spec PyProof.Rows
section
variable {prog : Program} {w : World} {A : Around} {E : Value → Shared → Prop} {s : Shared}
theorem getItem_tuple_whole {t sl : Addr} {items : Array Value} {vl vu : Value} {lo hi : Option Int} {Q : Value → Shared → Prop} (ht : IsTup s.heap t items) (hs : s.heap.IsSliceOf sl vl vu .none) (pl : IsPart vl lo) (pu : IsPart vu hi)
    (hw : HT.sIx items.size 0 lo = 0 ∧ HT.sIx items.size items.size hi = items.size) (h : Q (.ref t) s) : wpAny (model prog w) A (getItem (.ref t) (.ref sl)) Q E s := by
  obtain ⟨os, hos, hcs, hds⟩ := id hs
  have hTs : s.TypeIs (.ref sl) "slice" := ⟨os, hos, hcs⟩
  unfold getItem
  try with_reducible refine wpAny_holding ?_
  first | refine wpAny_bind (wpAny_pure ?_) | skip
  refine wpAny_bind (wpAny_sequenceKey ht.typeIs (by decide) ?_)
  refine wpAny_bind (wpAny_callSpecial?_slot (name := Str.ofString "__getitem__") ht.typeIs PyProof.Rows.slot_tuple_getitem
    (wpAny_call_entry PyProof.Rows.slot_tuple_getitem ht.typeIs entry_tuple_getitem ?_ (args_tuple_getitem _ _)))
  show wpAny _ _ (Builtin.Tuple.tupleItemsOf (.ref t) >>= _) _ _ s
  refine wpAny_bind (tupleItemsOf_ ht ?_)
  refine wpAny_bind (wpAny_typeOf hTs ?_)
  rw [if_pos (by decide)]
  refine wpAny_bind (HT.sliceApplied_gen hs pl pu ?_)
  have hyes : (((HT.sIx items.size 0 lo : Nat) : Int) == 0 && (1 : Int) == 1 && (HT.sIx items.size items.size hi - HT.sIx items.size 0 lo) == items.size) = true := by
    rw [hw.1, hw.2]
    simp
  show wpAny _ _ (if (((HT.sIx items.size 0 lo : Nat) : Int) == 0 && (1 : Int) == 1 && (HT.sIx items.size items.size hi - HT.sIx items.size 0 lo) == items.size) = true then _ else _) _ _ s
  rw [if_pos hyes]
  refine wpAny_bind (m := Builtin.Tuple.tupleIsExact (.ref t)) (wpAny_bind (m := typeOf (.ref t)) (wpAny_typeOf ht.typeIs (wpAny_pure ?_)))
  rw [if_pos (by decide)]
  first
    | exact wpAny_bind (wpAny_rule (wpAny_pure ⟨_, rfl, wpAny_pure h⟩))
    | exact wpAny_rule (wpAny_pure ⟨_, rfl, wpAny_pure h⟩)
    | exact wpAny_rule (wpAny_bind (wpAny_pure (wpAny_pure ⟨_, rfl, wpAny_pure h⟩)))
    | exact wpAny_bind (wpAny_rule (wpAny_bind (wpAny_pure (wpAny_pure ⟨_, rfl, wpAny_pure h⟩))))
    | skip
end
section
variable {X : Cx}
def rSlA (K : PySem.W.Frag) : V → Option Int → Option Int → Hp → VK → Prop := fun x lo hi H Q => ∃ a xs, x = .ref a ∧ SqT K H a xs ∧ ∀ p H', Same H H' → SqT K H' p (cutV xs lo hi) → Q (.ref p) H'
theorem sl_tupA (K : PySem.W.Frag) (hK : X.K = K := by rfl) : SlR X (rSlA K) := by
  subst hK
  intro pins s σ H x v vl vu lo hi sl Q I rx hs pl pu h
  obtain ⟨a, xs, rfl, hx, q⟩ := h
  by_cases hw : HT.sIx xs.length 0 lo = 0 ∧ HT.sIx xs.length xs.length hi = xs.length
  · cases rx
    obtain ⟨its, r, ht, hz⟩ := I.tuple hx
    have hlen : its.toArray.size = xs.length := by rw [List.size_toArray]; exact r.length.symm
    refine ⟨"tuple", _, PyProof.Rows.slot_tuple_getitem.lookup, ht.typeIs, ?_⟩
    refine getItem_tuple_whole ht hs pl pu (by rw [hlen]; exact hw) ⟨.ref a, H, I, rfl, q a H (Same.refl H) ?_⟩
    have : cutV xs lo hi = xs := by
      unfold cutV
      rw [hw.1, hw.2, List.drop_zero, Nat.sub_zero, List.take_length]
    rw [this]
    exact hx
  · exact sl_tup pins s σ H _ v vl vu lo hi sl Q I rx hs pl pu ⟨a, xs, rfl, hx, hw, fun p hp => q p _ (same_upd hp) (SqT.of upd_same)⟩
end
end L2
namespace L2
open PySem PySem.Spec PyProof.Rows
section
variable {X : Cx}
end
end L2
namespace L2
open PySem PySem.Spec PyProof.Rows
section
variable {prog : Program} {w : World} {A : Around} {E : Value → Shared → Prop} {s : Shared}
structure ZAp (z TI TO i1 i2 : Addr) (f1 f2 : List Addr) : Prop where
  TIz : TI ≠ z
  TOz : TO ≠ z
  i1z : i1 ≠ z
  i2z : i2 ≠ z
  TITO : TI ≠ TO
  TIi1 : TI ≠ i1
  TIi2 : TI ≠ i2
  TOi1 : TO ≠ i1
  TOi2 : TO ≠ i2
  i12 : i1 ≠ i2
  z1 : z ∉ f1
  TO1 : TO ∉ f1
  i21 : i2 ∉ f1
  z2 : z ∉ f2
  TO2 : TO ∉ f2
  i1f : i1 ∉ f2
end
end L2
namespace L2
open PySem PySem.Spec PyProof.Rows
section
variable {X : Cx} {pins : List (Addr × Obj)} {σ : St} {H : Hp} {s : Shared} {h' : Heap}
theorem FpOk.ch {fp : List Addr} (hf : ∀ b ∈ fp, FpOk X pins H b) : ∀ b ∈ fp, (b ∈ X.ex ∨ X.s₀.heap.objs.size ≤ b) ∧ b ≠ X.env.locals ∧ (∀ x c, X.env.cells.lookup x = some c → c ≠ b) ∧ ∀ p ∈ X.pn ++ pins, p.1 ≠ b := fun b hb =>
  let ⟨_, f1, _, f3, f4, f5⟩ := hf b hb; ⟨f3, f1, f4, f5⟩
end
theorem ZAp.ne {z TI TO i1 i2 a b : Addr} (D : ZAp z TI TO i1 i2 [i1, a] [i2, b]) : a ≠ z ∧ a ≠ TO ∧ a ≠ i2 ∧ b ≠ z ∧ b ≠ TO ∧ b ≠ i1 :=
  ⟨fun e => D.z1 (by simp [e]), fun e => D.TO1 (by simp [e]), fun e => D.i21 (by simp [e]), fun e => D.z2 (by simp [e]), fun e => D.TO2 (by simp [e]), fun e => D.i1f (by simp [e])⟩
section
variable {prog : Program} {w : World} {A : Around} {E : Value → Shared → Prop} {s : Shared}
end
section
variable {X : Cx} {elts : List Expr} {pt : Pos}
end
end L2
namespace L2
open PySem PySem.Spec PyProof.Rows
section
variable {X : Cx}
end
end L2
namespace L2
open PySem PySem.Spec PyProof.Rows
theorem MDef.mono {P : Program} {w : World} {K : PySem.W.Frag} {mg : Str → Option Value} {base : Heap} {j k : Nat} {C : Addr} {m : Str} {ps : List Str} {sp : Sp} (D : MDef P w K mg base j C m ps sp) (h : j ≤ k) : MDef P w K mg base k C m ps sp := by
  obtain ⟨f, fd, F, hm, hb⟩ := D.ex
  exact ⟨f, fd, F.mono h, hm, hb⟩
section
variable {X : Cx} {k k' : Nat} {ι : Type} {cls : ι → Addr} {ps : List Str} {sp : ι → Sp} {x m : Str} {p pos apos : Pos} {e o : Expr} {es : List Expr} {ta : TE} {t : TA}
theorem pe_globR {C : Addr} (hg : Gl X x) (hm : X.mg x = some (.ref C)) (hd : (x == ("__debug__" : Str)) = false := by decide) : PE X (.Name x pos) (tC (.ref C)) := pe_glob hg hm rfl hd
structure IsiC (K : PySem.W.Frag) (C R : Addr) : Prop where
  ha : PySem.W.findIn K (.ref C) "__class__" = some (some (.builtin "object.__class__"))
  hn : PySem.W.specialIn K (.builtin "object.__class__") "__get__" = some (some (.builtin "getset_descriptor.__get__"))
  htk : PySem.W.takesIn K (.builtin "object.__class__") = some true
  hm : PySem.W.mroIn K C (.type "object") = some true
  e : PySem.W.kitOne K (.ref C) (.ref R) = some true
end
end L2
namespace L2
open PySem PySem.Spec PyProof.Rows
section
open PySem.AutoSeq1
end
section
variable {X : Cx}
end
end L2
namespace L2
open PySem PySem.Spec PyProof.Rows
def Asc (z : Str) : Prop := ∀ c ∈ z.cps.toList, c < 128
section
variable {prog : Program} {w : World} {A : Around} {E : Value → Shared → Prop} {s : Shared}
end
theorem Asc.all {z : Str} (h : Asc z) : (z.cps.all fun x => decide (x < 128)) = true := by
  rw [← Array.all_toList, List.all_eq_true]
  exact fun c hc => decide_eq_true (h c hc)
section
variable {X : Cx} {elts : List Expr} {pt : Pos}
end
end L2
namespace L2
open PySem PySem.Spec PyProof.Rows
theorem Vals.split {xs : List V} {us : List Value} (h : Vals xs us) : ∀ k, Vals (xs.take k) (us.take k) ∧ Vals (xs.drop k) (us.drop k) := by
  induction h with
  | nil => intro k; rw [List.take_nil, List.drop_nil, List.take_nil, List.drop_nil]; exact ⟨.nil, .nil⟩
  | cons a b ih =>
    intro k
    cases k with
    | zero => exact ⟨.nil, .cons a b⟩
    | succ k => exact ⟨.cons a (ih k).1, (ih k).2⟩
section
variable {X : Cx}
end
end L2
namespace L2
open PySem PySem.Spec PyProof.Rows PySem.W
section
variable {prog : Program} {w : World} {A : Around} {E : Value → Shared → Prop} {s : Shared}
def TTAt (h : Heap) (v : Value) : Prop := ∃ ds as, Reads h v (.tuple ds) as ∧ ∀ e ∈ ds, ∃ es, e = PyData.tuple es
theorem TTAt.ty {v : Value} (x : TTAt s.heap v) (M : Model) : Looks M s.heap (typeOf v) (.type "tuple") := by
  obtain ⟨ds, as, hr, _⟩ := x
  cases hr with
  | tuple h1 h2 h3 h4 =>
    rw [← h2]
    exact (Looks.ld h1).andThen .now
end
section
variable {X : Cx}
section
variable {pins : List (Addr × Obj)} {σ : St} {H : Hp} {s : Shared} {a kS : Addr} {vs ks : List Value} {rk : Value → Int} {e e1 : Nat} {P : PySem.Fin → Shared → Prop} {E : Value → Shared → Prop} {A : Around}
end
end
theorem paired_at {α β : Type} {F : α → β → Prop} : ∀ {l : List α} {k : List β} {i : Nat} {x : α}, Paired F l k → l[i]? = some x → ∃ y, k[i]? = some y ∧ F x y
  | _, _, 0, x, .cons a b, h => by
    cases h
    exact ⟨_, rfl, a⟩
  | _, _, i + 1, x, .cons a b, h => by
    obtain ⟨d, e, r⟩ := paired_at (i := i) (x := x) b (by simpa using h)
    exact ⟨d, by simpa using e, r⟩
section
variable {X : Cx} {k k' : Nat} {x p1 : Str} {sp : Sp} {e : Expr} {t : TA} {p pos kpos xp : Pos}
end
end L2
namespace L2
open PySem PySem.Spec PyProof.Rows
section
variable {X : Cx}
def rInTD (K : PySem.W.Frag) : R2 := fun x y H Q => ∃ d ds, Dat K H d x ∧ Dat K H (.tuple ds) y ∧ PyData.depthAll ds ≤ 60 ∧ Q (.bl (ds.any fun y => PyData.eqv y d)) H
theorem op_inTD (hu : X.A.units + 64 < cLine) (K : PySem.W.Frag) (hK : X.K = K := by rfl) : OpR X (compareOp .In) (rInTD K) := by
  subst hK
  intro pins s σ H x y v u Q I rx ry h
  obtain ⟨d, ds, hd, he, hz, q⟩ := h
  obtain ⟨as, ra⟩ := Dat.reads I _ _ _ hd rx
  obtain ⟨bs, rb⟩ := Dat.reads I _ _ _ he ry
  exact SeqAt.in_tuple_reads rb ra (Dat.lay _ _ he) (Dat.lay _ _ hd) (by have : min (PyData.depthAll ds) d.depth ≤ PyData.depthAll ds := Nat.min_le_left _ _; omega) (fin_bl I q rfl)
def rInLD (K : PySem.W.Frag) : R2 := fun x y H Q => ∃ d ds, Dat K H d x ∧ Dat K H (.list ds) y ∧ PyData.depthAll ds ≤ 60 ∧ Q (.bl (ds.any fun y => PyData.eqv y d)) H
theorem op_inLD (hu : X.A.units + 64 < cLine) (K : PySem.W.Frag) (hK : X.K = K := by rfl) : OpR X (compareOp .In) (rInLD K) := by
  subst hK
  intro pins s σ H x y v u Q I rx ry h
  obtain ⟨d, ds, hd, he, hz, q⟩ := h
  obtain ⟨as, ra⟩ := Dat.reads I _ _ _ hd rx
  obtain ⟨bs, rb⟩ := Dat.reads I _ _ _ he ry
  exact SeqAt.in_list_reads rb ra (Dat.lay _ _ he) (Dat.lay _ _ hd) (by have : min (PyData.depthAll ds) d.depth ≤ PyData.depthAll ds := Nat.min_le_left _ _; omega) (fin_bl I q rfl)
end
def TupC (K : PySem.W.Frag) (a : Addr) (xs : List V) : Prop := ∃ (o : Obj) (its : Array Value) (n : Nat), K.lookup a = some o ∧ o.cls = .type "tuple" ∧ o.data = .seq its n ∧ its.size ≤ sizeLine ∧ Vals xs its.toList
theorem TupC.sq {K : PySem.W.Frag} {a : Addr} {xs : List V} (h : TupC K a xs) (H : Hp) : SqT K H a xs := .inr h
theorem tupC_mk {K : PySem.W.Frag} {a : Addr} {xs : List V} {od : Option Addr} {its : Array Value} {n : Nat} {sl : Array (Option Value)} (l : K.lookup a = some ⟨.type "tuple", od, .seq its n, sl⟩) (z : its.size ≤ sizeLine) (v : Vals xs its.toList) : TupC K a xs := ⟨_, its, n, l, rfl, rfl, z, v⟩
end L2
namespace L2
open PySem PySem.Spec PyProof.Rows
section
variable {prog : Program} {w : World} {A : Around} {E : Value → Shared → Prop} {s : Shared}
end
section
variable {X : Cx} {elts : List Expr} {pt : Pos}
end
section
variable {prog : Program} {w : World} {A : Around} {E : Value → Shared → Prop} {s : Shared}
end
section
variable {X : Cx} {elts : List Expr} {pt : Pos}
end
section
variable {X : Cx} {k k' : Nat} {C : Addr} {ps : List Str} {sp : Sp} {x : Str} {p pos : Pos} {e : Expr} {es : List Expr} {t : TA}
end
end L2
namespace PySem
section
variable {prog : Program} {w : World} {K : Type} [DecidableEq K] {knd : HeapKind prog w K} {A : Around} {E : Value → Shared → Prop} {s : Shared} {d a : Addr} {k : K} {xs : List (K × Addr × Value)}
end
end PySem
namespace L2
open PySem PySem.Spec PyProof.Rows
section
variable {X : Cx} {pins : List (Addr × Obj)} {σ : St} {H : Hp} {s : Shared} {a b : Addr} {kvs : List (List Key × V)} {k : List Key} {z : V} {r : Value} {A : Around} {E : Value → Shared → Prop}
end
section
variable {X : Cx} {o e f : Expr} {apos cpos : Pos} {td ty tx : TE}
end
end L2
namespace L2
open PySem PySem.Spec PyProof.Rows PySem.W
section
variable {X : Cx} {tg : Expr}
end
end L2
open PySem PySem.W PyProof.Rows
namespace L2
theorem us0 {p : List Value → Prop} (h : p []) : ∀ us : List Value, us.length = 0 → p us := fun _ e => (List.length_eq_zero_iff.mp e).symm ▸ h
theorem us1 {p : List Value → Prop} (h : ∀ a : Value, p [a]) : ∀ us : List Value, us.length = 1 → p us
  | [], e => absurd e (by decide)
  | a :: t, e => us0 (p := fun us => p (a :: us)) (h a) t (Nat.succ.inj e)
theorem us2 {p : List Value → Prop} (h : ∀ a b : Value, p [a, b]) : ∀ us : List Value, us.length = 2 → p us
  | [], e => absurd e (by decide)
  | a :: t, e => us1 (p := fun us => p (a :: us)) (h a) t (Nat.succ.inj e)
theorem us3 {p : List Value → Prop} (h : ∀ a b c : Value, p [a, b, c]) : ∀ us : List Value, us.length = 3 → p us
  | [], e => absurd e (by decide)
  | a :: t, e => us2 (p := fun us => p (a :: us)) (h a) t (Nat.succ.inj e)
structure FiK (K : PySem.W.Frag) (x : Str) (st : Stmt) : Prop where
  ex : ∃ (f : Addr) (oc : Value) (od an : Option Addr) (osl : Array (Option Value)) (kV doc pm cdv ct : Value), PySem.W.nsIn K mainGlobals x = some (some (.ref f)) ∧
    K.lookup f = some ⟨oc, od, .func (PySem.W.fnOf x x (defArgs st) (defBody st) (defScope st) .none kV doc pm an cdv ct), osl⟩ ∧ PySem.W.codeIn K cdv x = true ∧ PySem.W.keepIn K (.ref f) = true
theorem fiK {K : PySem.W.Frag} {x : Str} {st : Stmt} {f : Addr} {oc : Value} {od an : Option Addr} {osl : Array (Option Value)} {kV doc pm cdv ct : Value} (a : PySem.W.nsIn K mainGlobals x = some (some (.ref f)))
    (l : K.lookup f = some ⟨oc, od, .func (PySem.W.fnOf x x (defArgs st) (defBody st) (defScope st) .none kV doc pm an cdv ct), osl⟩) (c : PySem.W.codeIn K cdv x = true) (k : PySem.W.keepIn K (.ref f) = true) : FiK K x st :=
  ⟨f, oc, od, an, osl, kV, doc, pm, cdv, ct, a, l, c, k⟩
theorem FiK.top {K : PySem.W.Frag} {h : Heap} {mg : Str → Option Value} {x : Str} {st : Stmt} {ps : List Str} (F : FiK K x st) (X : K.In h) (G : h.Ns mainGlobals mg)
    (b : ∀ (kV doc pm : Value) (an : Option Addr) (cdv ct : Value) (us : List Value), us.length = ps.length → bindArgs (PySem.W.fnOf x x (defArgs st) (defBody st) (defScope st) .none kV doc pm an cdv ct) ⟨us, []⟩ = pure (ps.zip us)) : Top K mg x st ps := by
  obtain ⟨f, oc, od, an, osl, kV, doc, pm, cdv, ct, a, l, c, k⟩ := F.ex
  exact top_mk X G b a l c k
structure MiK (K : PySem.W.Frag) (x m qual : Str) (st : Stmt) : Prop where
  ex : ∃ (C f : Addr) (oc : Value) (od an : Option Addr) (osl : Array (Option Value)) (kV doc pm cdv ct : Value), PySem.W.nsIn K mainGlobals x = some (some (.ref C)) ∧ PySem.W.findIn K (.ref C) m = some (some (.ref f)) ∧ PySem.W.isFn K (.ref f) = true ∧
    K.lookup f = some ⟨oc, od, .func (PySem.W.fnOf m qual (defArgs st) (defBody st) (defScope st) .none kV doc pm an cdv ct), osl⟩ ∧ PySem.W.codeIn K cdv qual = true ∧ PySem.W.keepIn K (.ref f) = true
theorem miK {K : PySem.W.Frag} {x m qual : Str} {st : Stmt} {C f : Addr} {oc : Value} {od an : Option Addr} {osl : Array (Option Value)} {kV doc pm cdv ct : Value} (n : PySem.W.nsIn K mainGlobals x = some (some (.ref C)))
    (a : PySem.W.findIn K (.ref C) m = some (some (.ref f))) (i : PySem.W.isFn K (.ref f) = true)
    (l : K.lookup f = some ⟨oc, od, .func (PySem.W.fnOf m qual (defArgs st) (defBody st) (defScope st) .none kV doc pm an cdv ct), osl⟩) (c : PySem.W.codeIn K cdv qual = true) (k : PySem.W.keepIn K (.ref f) = true) : MiK K x m qual st :=
  ⟨C, f, oc, od, an, osl, kV, doc, pm, cdv, ct, n, a, i, l, c, k⟩
theorem MiK.top {K : PySem.W.Frag} {h : Heap} {mg : Str → Option Value} {x m qual : Str} {st : Stmt} {ps : List Str} (F : MiK K x m qual st) (X : K.In h) (G : h.Ns mainGlobals mg)
    (b : ∀ (kV doc pm : Value) (an : Option Addr) (cdv ct : Value) (us : List Value), us.length = ps.length → bindArgs (PySem.W.fnOf m qual (defArgs st) (defBody st) (defScope st) .none kV doc pm an cdv ct) ⟨us, []⟩ = pure (ps.zip us)) : MTop K (cA mg x) m qual st ps := by
  obtain ⟨C, f, oc, od, an, osl, kV, doc, pm, cdv, ct, n, a, i, l, c, k⟩ := F.ex
  rw [cA_of (PySem.W.mg_of X G n)]
  exact mtop_mk b a i l c k
structure CiK (K : PySem.W.Frag) (x : Str) : Prop where
  ex : ∃ C : Addr, PySem.W.nsIn K mainGlobals x = some (some (.ref C)) ∧ PySem.W.plainGet K C Str.empty = true ∧ PySem.W.hasDictIn K C = true ∧ PySem.W.plainOver K C = true ∧
    PySem.W.findIn K (.ref C) "__setattr__" = some (some (.builtin "object.__setattr__")) ∧ PySem.W.makesIn K C = true ∧ PySem.W.keepIn K (.ref C) = true
theorem ciK {K : PySem.W.Frag} {x : Str} {C : Addr} (n : PySem.W.nsIn K mainGlobals x = some (some (.ref C))) (pg : PySem.W.plainGet K C Str.empty = true) (hd : PySem.W.hasDictIn K C = true) (po : PySem.W.plainOver K C = true)
    (sa : PySem.W.findIn K (.ref C) "__setattr__" = some (some (.builtin "object.__setattr__"))) (mk : PySem.W.makesIn K C = true) (kc : PySem.W.keepIn K (.ref C) = true) : CiK K x := ⟨C, n, pg, hd, po, sa, mk, kc⟩
section
variable {K : PySem.W.Frag} {h : Heap} {mg : Str → Option Value} {x a : Str} {v : Option (Option Value)}
theorem CiK.g (F : CiK K x) (X : K.In h) (G : h.Ns mainGlobals mg) : mg x = some (.ref (cA mg x)) := by
  obtain ⟨C, n, _⟩ := F.ex
  rw [cA_of (PySem.W.mg_of X G n)]
  exact PySem.W.mg_of X G n
theorem CiK.cl (F : CiK K x) (X : K.In h) (G : h.Ns mainGlobals mg) : Cls K (cA mg x) := by
  obtain ⟨C, n, pg, hd, po, sa, _⟩ := F.ex
  rw [cA_of (PySem.W.mg_of X G n)]
  exact ⟨pg, hd, po, sa⟩
theorem CiK.mk' (F : CiK K x) (X : K.In h) (G : h.Ns mainGlobals mg) : PySem.W.makesIn K (cA mg x) = true := by
  obtain ⟨C, n, _, _, _, _, mk, _⟩ := F.ex
  rw [cA_of (PySem.W.mg_of X G n)]
  exact mk
theorem CiK.kp (F : CiK K x) (X : K.In h) (G : h.Ns mainGlobals mg) : PySem.W.keepIn K (.ref (cA mg x)) = true := by
  obtain ⟨C, n, _, _, _, _, _, kc⟩ := F.ex
  rw [cA_of (PySem.W.mg_of X G n)]
  exact kc
structure AiK (K : PySem.W.Frag) (x a : Str) (v : Option (Option Value)) : Prop where
  ex : ∃ C : Addr, PySem.W.nsIn K mainGlobals x = some (some (.ref C)) ∧ PySem.W.findIn K (.ref C) a = v
theorem aiK {C : Addr} (n : PySem.W.nsIn K mainGlobals x = some (some (.ref C))) (f : PySem.W.findIn K (.ref C) a = v) : AiK K x a v := ⟨C, n, f⟩
theorem AiK.at' (F : AiK K x a v) (X : K.In h) (G : h.Ns mainGlobals mg) : PySem.W.findIn K (.ref (cA mg x)) a = v := by
  obtain ⟨C, n, f⟩ := F.ex
  rw [cA_of (PySem.W.mg_of X G n)]
  exact f
end
end L2
namespace L2
open PySem PySem.Spec PyProof.Rows PySem.Builtin.Str
section
variable {X : Cx}
variable {v1 v2 v3 e : Expr} {t1 t2 t3 te : TE} {pos : Pos}
theorem pe_fv (he : PE X e te) : PE X (.FormattedValue e (-1) none pos) (fun σ H Q => te σ H fun x H1 => ∃ z, x = .str z ∧ z.length ≤ sizeLine ∧ Q (.str z) H1) := by
  intro pins s σ H Q I h
  refine FormattedValue_plain (thn (he pins s σ H _ I h) fun v s1 ⟨x, H1, I1, r1, z, ez, hz, q⟩ => ?_)
  subst ez
  obtain ⟨t, rfl⟩ := r1
  exact formatField_str (fun t' tk => ⟨.str z, H1, I1.tok _, ⟨_, rfl⟩, q⟩) hz
end
end L2
namespace L2
open PySem PySem.Spec PyProof.Rows PySem.Builtin.Str PySem.StrLaws PySem.NumText
end L2
namespace L2
open PySem PySem.Spec PyProof.Rows
def CXE (P : Program) (w : World) : CXT := fun outer H s E e s' =>
  ∃ (ea : Addr) (cls : Value) (t : Addr) (H' : Hp) (B : Heap), e = .ref ea ∧ s'.os = s.os ∧ AllBare s'.gens ∧ Un (frs outer) [] H H' s.heap s'.heap ∧ HOk P w H' s'.heap ∧
    Heap.FlyingW B outer ea cls (.ref t) s'.heap ∧ (∀ b u, H' b = some u → ∃ o, B.get? b = some o) ∧ (∀ b o, s.heap.get? b = some o → b ∉ frs outer → ∃ o', B.get? b = some o') ∧ E cls none H'
theorem ObjOk.there {P : Program} {w : World} {H : Hp} {h : Heap} {a : Addr} {o : HO} (x : ObjOk P w H h a o) : ∃ u, h.get? a = some u := by
  cases o with
  | lst xs => obtain ⟨_, _, _, _, e⟩ := x; exact ⟨_, e⟩
  | tup xs => obtain ⟨_, _, _, u, e, _⟩ := x; exact ⟨u, e⟩
  | dK kvs => obtain ⟨_, _, _, _, o, _, _, e, _⟩ := x; exact ⟨o, e⟩
  | dT kvs => obtain ⟨_, _, _, _, o, _, _, e, _⟩ := x; exact ⟨o, e⟩
  | set S n => obtain ⟨o, _, _, _, e, _⟩ := x; exact ⟨o, e⟩
  | ins C dx fs => obtain ⟨_, _, _, e, _⟩ := x; exact ⟨_, e⟩
  | own y => obtain ⟨o, e⟩ := x; exact ⟨o, e⟩
  | xd fs => obtain ⟨_, ⟨o, _, _, e, _⟩, _⟩ := x; exact ⟨o, e⟩
  | rng lo hi => obtain ⟨_, _, _, e⟩ := x; exact ⟨_, e⟩
  | frz ob u => obtain ⟨e, _⟩ := x; exact ⟨_, e⟩
  | tbl ps => exact ⟨_, (show h.get? a = some _ from x)⟩
  | met f y => exact ⟨_, (show h.get? a = some _ from x)⟩
  | ext φ => obtain ⟨_, ⟨o, e⟩, _⟩ := x; exact ⟨o, e⟩
section
variable {X : Cx} {pins : List (Addr × Obj)} {σ : St} {H : Hp} {s : Shared} {E : XK} {B h' : Heap} {ea t : Addr} {cls : Value}
theorem fly_hok {P : Program} {w : World} {h : Heap} (ok : HOk P w H h) (st : B.StaysIn h) (b1 : ∀ b u, H b = some u → ∃ o, B.get? b = some o) (k : B.StaysIn h') : HOk P w H h' := fun a u e =>
  (ok a u e).stay (fun b v hb q => by
    have hb' : ∃ u', H b = some u' := by
      rcases hb with rfl | hb
      · exact ⟨_, e⟩
      · exact ⟨_, hb⟩
    obtain ⟨u', eu⟩ := hb'
    obtain ⟨o, eo⟩ := b1 b u' eu
    have z := st b o eo
    rw [q] at z
    cases z
    exact k b _ eo) (fun _ q => q) fun _ _ q => q
theorem fly_un {l : List Env} {H H' : Hp} {h h1 h2 : Heap} (un : Un (frs l) [] H H' h h1) (st : B.StaysIn h1) (ff : h1.FunFrames B l) (b2 : ∀ b o, h.get? b = some o → b ∉ frs l → ∃ o', B.get? b = some o') (k : B.StaysIn h2) (ff2 : h2.FunFrames B l) (up : h1.UpToSlots h2) :
    Un (frs l) [] H H' h h2 := by
  refine ⟨fun b o q n hb hx => ?_, fun b o q n hb hx => ?_, un.free, fun b o q _ => ?_, un.tups, un.frzs, un.tbls⟩
  · have e1 := un.keep b o q n hb hx
    obtain ⟨o', e2⟩ := b2 b o q hb
    have e3 := st b o' e2
    rw [e1] at e3
    cases e3
    exact k b _ e2
  · obtain ⟨sl, e1⟩ := un.slot b o q n hb hx
    obtain ⟨_, o1, e3, nf⟩ := ff.mem hb
    rw [e1] at e3
    cases e3
    obtain ⟨sl', e4⟩ := up b _ e1 nf
    exact ⟨sl', e4⟩
  · by_cases hb : b ∈ frs l
    · obtain ⟨_, o1, e3, _⟩ := ff2.mem hb
      exact ⟨o1, e3⟩
    · obtain ⟨o', e2⟩ := b2 b o q hb
      exact ⟨o', k b _ e2⟩
theorem ff_of {base h : Heap} {l : List Env} (f : h.FunFrames base l) (st : B.StaysIn h) {h2 : Heap} (f2 : h2.FunFrames B l) : h.FunFrames B l := by
  induction l with
  | nil => trivial
  | cons env r ih =>
    obtain ⟨a1, ⟨L, o, a2, a3, a4⟩, a5⟩ := f
    obtain ⟨c1, ⟨L', o', c2, c3, c4⟩, c5⟩ := f2
    rw [a2] at c2
    cases c2
    exact ⟨a1, ⟨L, o, a2, c3, a4⟩, ih a5 c5⟩
theorem fly_close (I : Inv X pins σ H s) (hex : X.ex = []) (st : B.StaysIn s.heap) (b1 : ∀ b u, H b = some u → ∃ o, B.get? b = some o) (b2 : ∀ b o, X.s₀.heap.get? b = some o → b ∉ frs X.outer → ∃ o', B.get? b = some o')
    (fl : Heap.FlyingW B X.outer ea cls (.ref t) h') (up : s.heap.UpToSlots h') (he : E cls none H) : CXE X.prog X.w X.outer X.H₀ X.s₀ E (.ref ea) { s with heap := h' } := by
  have u0 := I.base
  rw [hex] at u0
  exact ⟨ea, cls, t, H, B, rfl, I.os, I.bare, fly_un u0 st (ff_of I.funs st fl.2.2.1) b2 fl.1 fl.2.2.1 up, fly_hok I.hok st b1 fl.1, fl, b1, b2, he⟩
structure Leav (X : Cx) (E : XK) : Prop where
  ex : X.ex = []
  st : X.stack = X.env :: X.outer
  fr : X.env.frame = some X.env.locals
  xe : X.xe = fun e s' => wpAny (model X.prog X.w) X.A (leaving X.env e) (fun _ s'' => CXE X.prog X.w X.outer X.H₀ X.s₀ E e s'') (fun e' s'' => CXE X.prog X.w X.outer X.H₀ X.s₀ E e' s'') s'
theorem leav_cx {P : Program} {w : World} {K : PySem.W.Frag} {mg : Str → Option Value} {base : Heap} {N : List Str} {qual : Str} {scope : Scope} {f : Addr} {cd : Value} {A : Around} {outer : List Env} {s : Shared} {H : Hp} :
    Leav (cxOf (CXE P w) P w K mg base N qual scope f cd A outer s H E) E := ⟨rfl, rfl, rfl, rfl⟩
theorem Inv.old (I : Inv X pins σ H s) (st : X.stack = X.env :: X.outer) (fr : X.env.frame = some X.env.locals) {b : Addr} {o : Obj} (q : X.s₀.heap.get? b = some o) (hb : b ∉ frs X.outer) : b ∉ frs X.stack := fun z => by
  rcases List.mem_cons.mp (I.stkSub b z) with e | e
  · exact absurd (Nat.lt_of_lt_of_le (Heap.lt_size q) I.ok.above) (by rw [e]; exact Nat.lt_irrefl _)
  · exact hb e
theorem leav_pass (L : Leav X E) : Passes (CXE X.prog X.w) X E := by
  intro pins σ H s e s' I h
  obtain ⟨ea, cls, t, H', B, rfl, os, bare, un, hok, fl, b1, b2, he⟩ := h
  have I' : Inv X pins σ H' s' := I.call' (ch := []) os un hok bare (fun b z => nomatch z)
  rw [L.xe]
  have fl2 := fl
  rw [L.st] at fl2
  refine wpAny_leaves_onW (by rw [← L.st]; exact I.ok.frames) L.fr fl2 fun h' x1 x2 => ?_
  refine fly_close I' L.ex fl.1 b1 (fun b o q hb => ?_) x1 x2 he
  obtain ⟨o', q'⟩ := I.base.there b o q (by rw [L.ex]; simp)
  exact b2 b o' q' (I.old L.st L.fr q hb)
theorem leav_raise (L : Leav X E) (I : Inv X pins σ H s) {h1 : Heap} {args : List Value} (hx : Heap.MadeExcOf s.heap h1 ea cls args) (he : E cls none H) : X.xe (.ref ea) { s with heap := h1 } := by
  rw [L.xe]
  have hin : ∀ env ∈ X.env :: X.outer, ∀ b, env.frame = some b → b ∈ frs X.stack := fun env he b hb => by rw [L.st]; exact List.mem_filterMap.mpr ⟨env, he, hb⟩
  have fs := I.stack
  rw [L.st] at fs
  refine wpAny_leaves_madeW (base := PySem.W.hideAll s.heap (frs X.stack)) (h := s.heap) (by rw [← L.st]; exact I.ok.frames) L.fr (fun b o q => PySem.W.of_hideAll _ q) (PySem.W.funFrames_hide fs hin) hx fun h' t x1 _ _ x4 => ?_
  have up : s.heap.UpToSlots h' := (Heap.UpToSlots.of_keeps hx.keeps).trans x4
  show CXE X.prog X.w X.outer X.H₀ X.s₀ E (.ref ea) { s with heap := h' }
  refine fly_close (s := s) I L.ex (fun b o q => PySem.W.of_hideAll _ q) (fun b u q => ?_) (fun b o q hb => ?_) x1 up he
  · obtain ⟨o, e⟩ : ∃ o, s.heap.get? b = some o := (I.hok b u q).there
    exact ⟨o, PySem.W.hideAll_get _ e fun z => by rw [I.stkFree b z] at q; cases q⟩
  · obtain ⟨o', q'⟩ := I.base.there b o q (by rw [L.ex]; simp)
    exact ⟨o', PySem.W.hideAll_get _ q' (I.old L.st L.fr q hb)⟩
end
abbrev mroVE : List Value := [.type "ValueError", .type "Exception", .type "BaseException", .type "object"]
theorem exc_obj {K : PySem.W.Frag} {h : Heap} {C : Addr} {bmB : List Value} {newId : String} (X : K.In h) (q : PySem.W.excIn K C bmB newId = true) :
    ∃ bm N nm qn bs hd sn sub ab col dd k0 k1 k2 k3 k5 mN, h.get? C = some (excClassObj nm qn C N bs bm hd sn sub ab col dd k0 k1 k2 k3 k5 newId) ∧ h.Ns N mN ∧ mN "__init__" = none ∧ OwnTail h bmB bm := by
  unfold PySem.W.excIn at q
  split at q
  · rename_i dd cd sl ho
    split at q
    · rename_i C' bm k0 k1 k2 k3 n k5 hm hs
      simp only [Bool.and_eq_true, beq_iff_eq, Bool.not_eq_true'] at q
      obtain ⟨⟨⟨⟨⟨rfl, rfl⟩, hdel⟩, ht⟩, hok⟩, hni⟩ := q
      obtain ⟨nm, bs, mro, ns, qn, hd, sn, sub, ab, col, del⟩ := cd
      dsimp only at hm hdel hok hni
      subst hm hdel
      have hsl : sl = #[k0, k1, k2, k3, some (.builtin n), k5] := by
        obtain ⟨l⟩ := sl
        simp only at hs
        rw [hs]
      subst hsl
      exact ⟨bm, ns, nm, qn, bs, hd, sn, sub, ab, col, dd, k0, k1, k2, k3, k5, _, X _ _ ho, .of_isNs (PySem.W.isNs_of_in X hok), PySem.W.nsMap_none_of_in X hok hni, PySem.W.tail_of_in X ht⟩
    · cases q
  · cases q
def tRaise (C : Addr) (E : XK) (t : TA) : TS := fun _ σ H => t σ H fun vs H1 => vs.length ≤ sizeLine ∧ E (.ref C) none H1
section
variable {X : Cx} {E : XK} {C : Addr} {x : Str} {np cpos pos : Pos} {e : Expr} {es : List Expr} {t : TA}
theorem ps_raise (L : Leav X E) (hq : PySem.W.excIn X.K C mroVE "ValueError.__new__" = true) (hm : X.mg x = some (.ref C)) (ha : PA X (e :: es) t) (hg : Gl X x := by rfl) (hc : X.calm = true := by rfl)
    (he : starEach (e :: es) X.env = (false, eval e X.env) :: starEach es X.env := by rfl) (hpl : (backTo cpos (starEach es X.env)).any (·.1) = false := by rfl) (hd : (x == ("__debug__" : Str)) = false := by decide) :
    PS X (.Raise (some (.Call (.Name x np) (e :: es) [] cpos)) none pos) (tRaise C E t) := by
  intro pins s σ H D I h
  obtain ⟨bm, N, nm, q, bs, hdct, sn, sub, ab, col, dd, k0, k1, k2, k3, k5, mN, hC, hN, hni, T⟩ := exc_obj I.mod.kin hq
  refine wpAny_Raise_call_subT (C := C) (nm := nm) (q := q) (N := N) (bs := bs) (bm := bm) (hdct := hdct) (sn := sn) (sub := sub) (ab := ab) (col := col) (dd := dd) (k0 := k0) (k1 := k1) (k2 := k2) (k3 := k3) (k5 := k5)
    F.excBase_ValueError (mN := mN) (T.hasType F.excBase_ValueError.hasBase) (I.ok.hd hc) (by rw [he]; show (false || (backTo cpos (starEach es X.env)).any (·.1)) = false; rw [hpl]; rfl) hni (ld_glob I hg hm ⟨rfl, ?_⟩ hd)
  have a := ha cpos pins s σ H _ I h
  rw [he] at a ⊢
  refine Calls.evalArgs_plain (thn a fun us s2 ⟨vs, H2, I2, r, z, q⟩ => ⟨rfl, by rw [← r.length]; exact z, I2.bk _ _ hC, hN.keeps I2.bk, T.keeps I2.bk, fun h' ea hx => ?_⟩)
  exact leav_raise L I2 hx q
end
end L2
namespace L2
open PySem PySem.Spec PyProof.Rows
abbrev Cx.tried (X : Cx) (pins : List (Addr × Obj)) (xe : Value → Shared → Prop) : Cx := { X with pn := X.pn ++ pins, xe := xe }
abbrev Cx.hand (X : Cx) (ea : Addr) (oe : Obj) : Cx := { X with A := X.A.mark (some (.ref ea)), calm := false, pn := (ea, oe) :: X.pn, xe := fun _ _ => False }
section
variable {X : Cx} {pins pins' : List (Addr × Obj)} {σ : St} {H : Hp} {s : Shared} {xe : Value → Shared → Prop} {ea : Addr} {oe : Obj}
theorem Inv.tried (I : Inv X pins σ H s) : Inv (X.tried pins xe) [] σ H s :=
  ⟨⟨I.ok.mod, I.ok.kind, I.ok.glob, I.ok.blt, I.ok.above, I.ok.inj, I.ok.has, I.ok.cab, I.ok.hd, I.ok.frames, I.ok.stk, I.ok.exf, I.ok.bs, I.ok.bsz, I.ok.noex, I.ok.exfs, I.ok.funs, I.ok.frf⟩, I.os, I.bare, I.base, I.loc, I.cell, I.free, I.freeC,
    fun p hp => I.pin p (by rw [List.append_nil] at hp; exact hp), I.hok, I.len⟩
theorem Inv.untried (I : Inv (X.tried pins xe) pins' σ H s) (ok : X.Ok) : Inv X pins σ H s :=
  ⟨ok, I.os, I.bare, I.base, I.loc, I.cell, I.free, I.freeC, fun p hp => I.pin p (List.mem_append_left _ hp), I.hok, I.len⟩
theorem Inv.hand (I : Inv X pins σ H s) (h : s.heap.get? ea = some oe ∧ H ea = none ∧ ea ≠ X.env.locals ∧ ea ∉ X.fs ∧ ∀ v, oe.data ≠ .cell v) : Inv (X.hand ea oe) pins σ H s :=
  ⟨⟨I.ok.mod, I.ok.kind, I.ok.glob, I.ok.blt, I.ok.above, I.ok.inj, I.ok.has, I.ok.cab, (fun z => by cases z), I.ok.frames, I.ok.stk, I.ok.exf, I.ok.bs, I.ok.bsz, I.ok.noex, I.ok.exfs, I.ok.funs, I.ok.frf⟩, I.os, I.bare, I.base, I.loc, I.cell, I.free, I.freeC,
    fun p hp => by
      rcases List.mem_cons.mp hp with rfl | z
      · exact h
      · exact I.pin p z, I.hok, I.len⟩
theorem Inv.unhand (I : Inv (X.hand ea oe) pins σ H s) (ok : X.Ok) : Inv X pins σ H s :=
  ⟨ok, I.os, I.bare, I.base, I.loc, I.cell, I.free, I.freeC, fun p hp => I.pin p (List.mem_cons_of_mem _ hp), I.hok, I.len⟩
theorem SP.unhand {D : Ends} {f : Flow} (ok : X.Ok) (h : SP (X.hand ea oe) pins D f s) : SP X pins D f s := by
  cases f with
  | next => obtain ⟨σ', H', I, q⟩ := h; exact ⟨σ', H', I.unhand ok, q⟩
  | brk => obtain ⟨σ', H', I, q⟩ := h; exact ⟨σ', H', I.unhand ok, q⟩
  | cont => obtain ⟨σ', H', I, q⟩ := h; exact ⟨σ', H', I.unhand ok, q⟩
  | ret u => obtain ⟨v, σ', H', I, r, q⟩ := h; exact ⟨v, σ', H', I.unhand ok, r, q⟩
theorem SP.untried {D : Ends} {f : Flow} (ok : X.Ok) (h : SP (X.tried pins xe) pins' D f s) : SP X pins D f s := by
  cases f with
  | next => obtain ⟨σ', H', I, q⟩ := h; exact ⟨σ', H', I.untried ok, q⟩
  | brk => obtain ⟨σ', H', I, q⟩ := h; exact ⟨σ', H', I.untried ok, q⟩
  | cont => obtain ⟨σ', H', I, q⟩ := h; exact ⟨σ', H', I.untried ok, q⟩
  | ret u => obtain ⟨v, σ', H', I, r, q⟩ := h; exact ⟨v, σ', H', I.untried ok, r, q⟩
theorem name_goes {M : Model} {A : Around} {E : Value → Shared → Prop} {i : Nat} {n : Str} {pos : Pos} {Q : Unit → Shared → Prop} (I : Inv X pins σ H s) (hN : X.N.Nodup) (hi : X.N[i]? = some n) (hl : X.env.kindOf n = some .local)
    (h : ∀ s', Inv X pins (σ.set i none) H s' → Q () s') : wpAny M A (do bindName X.env n .none; unbindBehindTheSuite X.env n pos) Q E s := by
  obtain ⟨m, hn, hl'⟩ := id I.loc
  have hcls : (X.env.scope.kind == .class || (X.env.scope.kind == .module && X.env.locals != X.env.globals)) = false := by rw [I.ok.kind]; rfl
  have hiσ : i < σ.length := by rw [I.len]; exact (List.getElem?_eq_some_iff.mp hi).1
  have cne := I.cne
  obtain ⟨oL, _, _, hoL, _⟩ := id hn
  refine wpAny_nameGoes_keeps hl hn hcls fun h' v hn' hs => ?_
  have neL : ∀ b o, X.s₀.heap.get? b = some o → b ≠ X.env.locals := fun b o e => Nat.ne_of_lt (Nat.lt_of_lt_of_le (Heap.lt_size e) I.ok.above)
  refine h _ ⟨I.ok, I.os, I.bare, ⟨fun b o e n hb hx => (hs.2 b (neL b o e)).trans (I.base.keep b o e n hb hx), fun b o e n hb hx => ?_, I.base.free, fun b o e hx => ?_, I.base.tups, I.base.frzs, I.base.tbls⟩, ⟨_, hn', fun j y v' e1 e2 e3 => ?_⟩, fun y c e => ?_, I.free, I.freeC, fun p hp => ?_, fun b ob e => ?_, by simpa using I.len⟩
  · obtain ⟨sl, e1⟩ := I.base.slot b o e n hb hx
    exact ⟨sl, (hs.2 b (neL b o e)).trans e1⟩
  · obtain ⟨o', e1⟩ := I.base.there b o e hx
    exact ⟨o', (hs.2 b (neL b o e)).trans e1⟩
  · by_cases hj : j = i
    · subst hj
      rw [List.getElem?_set_self hiσ] at e2
      cases e2
    · rw [List.getElem?_set_ne (Ne.symm hj)] at e2
      obtain ⟨u', r', q⟩ := hl' j y v' e1 e2 e3
      refine ⟨u', r', ?_⟩
      rcases q with ⟨k, e⟩ | ⟨k, c, e, z⟩
      · refine .inl ⟨k, ?_⟩
        have : y ≠ n := fun e => hj (nodup_ix hN e1 (e ▸ hi))
        simp [this, e]
      · exact .inr ⟨k, c, e, z.sameBut hs (cne y c e)⟩
  · obtain ⟨w', z⟩ := I.cell y c e
    exact ⟨w', z.sameBut hs (cne y c e)⟩
  · obtain ⟨e, n, ne, nf, d⟩ := I.pin p hp
    exact ⟨(hs.2 p.1 ne).trans e, n, ne, nf, d⟩
  · refine (I.hok b ob e).stay (fun c w' hc q => (hs.2 c ?_).trans q) (fun _ q => q) fun _ _ q => q
    rintro rfl
    rcases hc with z | hc
    · rw [← z, I.free] at e; cases e
    · rw [I.free] at hc; cases hc
end
def wTry (K : PySem.W.Frag) (W : Addr) (n : Nat) (th : Addr → Obj → St → Hp → Prop) : XK := fun cls _ H' => PySem.W.exmOne K cls (.ref W) = some true ∧ ∀ ea oe σ', oe.cls = cls → H' ea = none → σ'.length = n → th ea oe σ' H'
def Ends.less (D : Ends) (i : Nat) : Ends := { nx := fun σ H => D.nx (σ.set i none) H, rt := D.rt, bk := fun σ H => D.bk (σ.set i none) H, ct := fun σ H => D.ct (σ.set i none) H }
def tTryAs (K : PySem.W.Frag) (W : Addr) (n i : Nat) (tb : XK → TS) (th : Addr → Obj → TS) : TS := fun D σ H => tb (wTry K W n fun ea oe σ' => th ea oe (D.less i) (σ'.set i (some (.ref ea)))) D σ H
section
variable {X : Cx} {W : Addr} {x n : Str} {np hpos pos : Pos} {b₀ : Stmt} {body suite : List Stmt} {tb : XK → TS} {th : Addr → Obj → TS} {i : Nat}
theorem try_pass {pins : List (Addr × Obj)} {Q : Flow → Shared → Prop} {th : Addr → Obj → St → Hp → Prop} {hd : ExceptHandler} (ok : X.Ok) (hst : X.stack = X.env :: X.outer) (hfr : X.env.frame = some X.env.locals)
    (go : ∀ (ea : Addr) (cls : Value) (t : Addr) (B : Heap) (σ : St) (H : Hp) (s : Shared), PySem.W.exmOne X.K cls (.ref W) = some true → (∃ oe, oe.cls = cls ∧ s.heap.get? ea = some oe ∧ Inv (X.hand ea oe) pins σ H s) → (∀ oe, oe.cls = cls → th ea oe σ H) → Heap.FlyingW B (X.env :: X.outer) ea cls (.ref t) s.heap →
      (∀ h2, Heap.FlyingW B (X.env :: X.outer) ea cls (.ref t) h2 → s.heap.UpToSlots h2 → ∃ oe, oe.cls = cls ∧ Inv (X.hand ea oe) pins σ H { s with heap := h2 }) →
      wpAny (model X.prog X.w) X.A (handleBy (.ref ea) X.env [hd]) Q X.xe s) :
    Passes (CXE X.prog X.w) (X.tried pins fun e s' => wpAny (model X.prog X.w) X.A (noteFrame e X.env) (fun _ s₂ => wpAny (model X.prog X.w) X.A (setFlight e none) (fun _ s₃ => wpAny (model X.prog X.w) X.A (handleBy e X.env [hd]) Q X.xe s₃) X.xe s₂) X.xe s') (wTry X.K W X.N.length th) := by
  intro pins' σ' H1 s1 e s' I1 hx
  obtain ⟨ea, cls, t, H', B, rfl, os, bare, un, hok, fl, b1, b2, hE, hw⟩ := hx
  have fl' : Heap.FlyingW B (X.env :: X.outer) ea cls (.ref t) s'.heap := by rw [← hst]; exact fl
  have hn : H' ea = none := by
    cases q : H' ea with
    | none => rfl
    | some u =>
      obtain ⟨o, e⟩ := b1 ea u q
      rw [fl.2.1] at e
      cases e
  have back : ∀ h2, Heap.FlyingW B (X.env :: X.outer) ea cls (.ref t) h2 → s'.heap.UpToSlots h2 → ∃ oe, oe.cls = cls ∧ h2.get? ea = some oe ∧ Inv (X.hand ea oe) pins σ' H' { s' with heap := h2 } := fun h2 f2 up => by
    have f3 : Heap.FlyingW B X.stack ea cls (.ref t) h2 := by rw [hst]; exact f2
    have J : Inv X pins σ' H' { s' with heap := h2 } := (I1.call' (s' := { s' with heap := h2 }) (ch := []) os (fly_un un fl.1 fl.2.2.1 b2 f3.1 f3.2.2.1 up) (fly_hok hok fl.1 b1 f3.1) bare (fun b z => nomatch z)).untried ok
    obtain ⟨oe, ws, hoe, hoec, hoed, _⟩ := f2.first
    refine ⟨oe, hoec, hoe, J.hand ⟨hoe, hn, fun z => ?_, fun z => ?_, fun v z => by rw [hoed] at z; cases z⟩⟩
    · obtain ⟨m, ⟨o, es, ep, ho, hd, _⟩, _⟩ := J.loc
      rw [← z] at ho
      have ho' : h2.get? ea = some o := ho
      rw [hoe] at ho'
      cases ho'
      rw [hoed] at hd
      cases hd
    · obtain ⟨_, o, ho, nf⟩ := J.funs.mem z
      have ho' : h2.get? ea = some o := ho
      rw [hoe] at ho'
      cases ho'
      exact nf ws hoed
  show wpAny (model X.prog X.w) X.A (noteFrame (.ref ea) X.env) _ _ _
  refine wpAny_looks_onW (by rw [← hst]; exact ok.frames) hfr fl' fun h4 held4 up4 => ?_
  refine wpAny_landsW held4 fun h5 fl5 up5 => ?_
  have J := back h5 fl5 (up4.trans up5)
  refine go ea cls t B σ' H' { s' with heap := h5 } hE J (fun oe hc => hw ea oe σ' hc hn ?_) fl5 fun h2 f2 up => ?_
  · obtain ⟨oe, _, _, J⟩ := J
    exact J.len
  · obtain ⟨oe, h1, _, J⟩ := back h2 f2 ((up4.trans up5).trans up)
    exact ⟨oe, h1, J⟩
theorem ty_exc {M : Model} {h : Heap} {oe : Obj} {ea : Addr} (e : h.get? ea = some oe) : PySem.W.Looks M h (typeOf (.ref ea)) oe.cls := (PySem.W.Looks.ld e).andThen .now
theorem ps_tryAs (hm : X.mg x = some (.ref W)) (hb : ∀ pins xe E, Passes (CXE X.prog X.w) (X.tried pins xe) E → PSs (X.tried pins xe) body (tb E)) (hs : ∀ ea oe, PSs (X.hand ea oe) (b₀ :: suite) (th ea oe))
    (hi : X.N[i]? = some n) (hl : X.env.kindOf n = some .local) (hN : X.N.Nodup)
    (hg : Gl X x := by rfl) (hst : X.stack = X.env :: X.outer := by rfl) (hfr : X.env.frame = some X.env.locals := by rfl) (hd : (x == ("__debug__" : Str)) = false := by decide) :
    PS X (.Try body [.ExceptHandler (some (.Name x np)) (some n) (b₀ :: suite) hpos] [] [] pos) (tTryAs X.K W X.N.length i tb th) := by
  intro pins s σ H D I h
  refine wpAny_Try_except ?_
  refine wpAny_mono (hb pins _ _ (try_pass (X := X) (W := W) (Q := SP X pins D) (th := fun ea oe σ' => th ea oe (D.less i) (σ'.set i (some (.ref ea)))) (hd := .ExceptHandler (some (.Name x np)) (some n) (b₀ :: suite) hpos) I.ok hst hfr ?_) [] s σ H D I.tried h) (fun f s1 hf => ?_) (fun e s1 z => z)
  · intro ea cls t B σ' H' s' hE J hw fl back
    obtain ⟨oe, hc, ho, J⟩ := J
    refine wpAny_handleBy_cons (codeAny_handlers_test ?_) (by intro q; cases q)
    refine ld_glob (X := X.hand ea oe) J hg hm ?_ hd
    refine (PySem.W.exm_one (M := model X.prog X.w) J.kIn (hc ▸ ty_exc ho) hE).here ?_
    show codeAny _ _ _ _ _
    refine codeAny_handlers_suite_as ?_
    refine lands_againW fl fun h6 fl6 up6 => ?_
    obtain ⟨oe6, hc6, J6⟩ := back h6 fl6 up6
    refine store_ok (X := X.hand ea oe6) J6 hN hi (.inl hl) (show RelV (.ref ea) (.ref ea) from rfl) (fun s7 J7 => ?_) (.inr hl)
    refine wpAny_mono (hs ea oe6 pins _ _ H' (D.less i) J7 (hw oe6 hc6)) (fun f s2 hf => ?_) (fun _ _ z => z.elim)
    have hf' := hf.unhand I.ok
    cases f with
    | next => obtain ⟨σ2, H2, K2, q⟩ := hf'; exact name_goes K2 hN hi hl fun s3 K3 => ⟨_, H2, K3, q⟩
    | brk => obtain ⟨σ2, H2, K2, q⟩ := hf'; exact name_goes K2 hN hi hl fun s3 K3 => ⟨_, H2, K3, q⟩
    | cont => obtain ⟨σ2, H2, K2, q⟩ := hf'; exact name_goes K2 hN hi hl fun s3 K3 => ⟨_, H2, K3, q⟩
    | ret u => obtain ⟨v, σ2, H2, K2, r, q⟩ := hf'; exact name_goes K2 hN hi hl fun s3 K3 => ⟨v, _, H2, K3, r, q⟩
  · have hf' := hf.untried I.ok
    cases f with
    | next => exact wpAny_execs_nil hf'
    | brk => exact hf'
    | cont => exact hf'
    | ret u => exact hf'
end
end L2
namespace L2
open PySem PySem.Spec PyProof.Rows PySem.W Builtin Builtin.ObjectAttr Builtin.Getset_descriptor
structure ExcI (K : PySem.W.Frag) (C : Addr) : Prop where
  hga : findIn K (.ref C) "__getattribute__" = some (some (.builtin "BaseException.__getattribute__"))
  hgx : findIn K (.ref C) "__getattr__" = some none
  ha : findIn K (.ref C) "__class__" = some (some (.builtin "object.__class__"))
  hm : mroIn K C (.type "object") = some true
  hb : subIn K (.ref C) (.type "BaseException") = some true
section
variable {prog : Program} {w : World} {A : Around} {E : Value → Shared → Prop} {K : PySem.W.Frag} {h : Heap} {g : Array GenState} {d : Drawn} {t : Nat} {os : OsState} {a C : Addr} {o : Obj}
theorem exc_clsIn (F : ExcI K C) : (clsIn K C).isSome = true := by
  have hm := F.hm
  unfold mroIn at hm
  cases e : clsIn K C with
  | none => rw [e] at hm; cases hm
  | some _ => rfl
theorem exc_get {R : Result → Shared → Prop} {tp : Value} (X : K.In h) (hx : h.get? a = some o) (hc : o.cls = .ref C) (hm : mroIn K C (.type "object") = some true) (hq : R (.ok (.ret (.ref C))) ⟨h, g, d, t, os⟩) :
    codeAny (model prog w) A (.call (.builtin "getset_descriptor.__get__") ⟨[.builtin "object.__class__", .ref a, tp], []⟩) R ⟨h, g, d, t, os⟩ := by
  have L0 : Looks (model prog w) h (typeOf (.ref a)) (.ref C) := hc ▸ ty_exc hx
  have L1 := looks_mroIn (M := model prog w) X hm
  refine codeAny_call_builtin KF.slot_gs.plain KF.entry_gs (KF.slot_gs.check _ _ _ _ _ _ _ _ KF.type_class (KF.args_gs _ _ _) ?_)
  unfold Builtin.«getset_descriptor.__get__» descrGet
  rw [dga_obj]
  refine wpAny_bind (wpAny_pure ?_)
  unfold descrGetter descrCheckInstance descrNameAndClass isInstance
  simp only [KF.owner_class]
  repeat lk
  refine ⟨Code.quiet_builtin _ (by decide +kernel), codeAny_builtin KF.entry_class ?_⟩
  unfold Builtin.«object.__class__» shownTypeOf
  repeat lk
  exact hq
theorem exc_entry {tk : Tok} {Q : Fin → Shared → Prop} (X : K.In h) (F : ExcI K C) (hx : h.get? a = some o) (hc : o.cls = .ref C) (hq : Q (.done (.ret (.ref C))) ⟨h, g, d, t, os⟩) :
    wpAny (model prog w) A (Builtin.«object.__getattribute__» ⟨[.ref a, .str "__class__" tk], []⟩) Q E ⟨h, g, d, t, os⟩ := by
  have hT5 : (⟨h, g, d, t, os⟩ : Shared).TypeIs (.builtin "object.__class__") "getset_descriptor" := PySem.F.typeOf_object_class
  have f5 := PySem.F.typeOf_object_class
  have f6 := PySem.F.slot_gs_get.lookup
  have f7 := PySem.F.slot_gs_set.lookup
  have L1 := looks_findIn (M := model prog w) X F.ha
  repeat (any_goals (first | assumption | (with_reducible refine wpAny_loadPart_at hx ?_; rw [hc]) | with_reducible refine L1.at ?_ | wp_step))
  refine exc_get X hx hc F.hm ?_
  repeat (any_goals (first | assumption | wp_step))
theorem exc_check {M : Model} {nameV : Value} {Q : Unit → Shared → Prop} (X : K.In h) (F : ExcI K C) (hx : h.get? a = some o) (hc : o.cls = .ref C) (hq : Q () ⟨h, g, d, t, os⟩) :
    wpAny M A (checkBuiltinCall "BaseException.__getattribute__" ⟨[.ref a, nameV], []⟩) Q E ⟨h, g, d, t, os⟩ := by
  have hk : builtinKind "BaseException.__getattribute__" = some .slot := by decide +kernel
  have hsplit : splitId "BaseException.__getattribute__" = some ("BaseException", "__getattribute__") := by decide +kernel
  have ha := PySem.F.args_bexc_ga (.ref a) nameV
  have L1 : Looks M h (isSubtype (.ref C) (.type "BaseException")) true := looks_subIn X F.hb
  simp only [checkBuiltinCall, hk, hsplit]
  refine wpAny_bind ?_
  · unfold isInstance
    repeat (first | (with_reducible refine wpAny_loadPart_at hx ?_; rw [hc]) | with_reducible refine L1.at ?_ | wp_step)
    exact hq
theorem exc_call {tk : Tok} {R : Result → Shared → Prop} (X : K.In h) (F : ExcI K C) (hx : h.get? a = some o) (hc : o.cls = .ref C) (hq : R (.ok (.ret (.ref C))) ⟨h, g, d, t, os⟩) :
    codeAny (model prog w) A (.call (.builtin "BaseException.__getattribute__") ⟨[.ref a, .str "__class__" tk], []⟩) R ⟨h, g, d, t, os⟩ :=
  codeAny_call_builtin (PySem.F.excAttr_ValueError).ga.plain PySem.F.entry_bexc_ga (exc_check X F hx hc (exc_entry X F hx hc hq))
theorem exc_by {tk : Tok} {fill expr : Bool} {Q : Value → Shared → Prop} (X : K.In h) (F : ExcI K C) (hx : h.get? a = some o) (hc : o.cls = .ref C) (hq : Q (.ref C) ⟨h, g, d, t, os⟩) :
    wpAny (model prog w) A (getAttrBy (.ref a) (.str "__class__" tk) fill expr) Q E ⟨h, g, d, t, os⟩ := by
  have f3 := (PySem.F.excAttr_ValueError).ga.bind (.ref a)
  have hx0 : (expr && onTheHeap (Value.builtin "BaseException.__getattribute__")) = false := by cases expr <;> rfl
  have hx2 : (Value.builtin "BaseException.__getattribute__" == Value.builtin "object.__getattribute__") = false := by decide +kernel
  have hx1 : (onTheHeap (Value.ref C) && Value.builtin "BaseException.__getattribute__" == Value.builtin "object.__getattribute__") = false := by rw [hx2]; rfl
  have L1 := looks_findIn (M := model prog w) X F.hga
  have L2 := looks_findIn (M := model prog w) X F.hgx
  repeat (any_goals (first | assumption | (with_reducible refine wpAny_loadPart_at hx ?_; rw [hc]) | with_reducible refine L1.at ?_ | with_reducible refine L2.at ?_ | wp_step))
  refine exc_call X F hx hc ?_
  repeat (any_goals (first | assumption | wp_step))
theorem exc_attr {Q : Option Value → Shared → Prop} (X : K.In h) (F : ExcI K C) (hx : h.get? a = some o) (hc : o.cls = .ref C) (hq : Q (some (.ref C)) ⟨h, g, d, t + 1, os⟩) :
    wpAny (model prog w) A (getAttr? (.ref a) "__class__") Q E ⟨h, g, d, t, os⟩ := by
  unfold getAttr? getAttrBy?
  repeat (any_goals (first | assumption | with_reducible apply exc_by X F hx hc | wp_step))
def ExcAt (a C : Addr) (h : Heap) : Prop := ∃ o, h.get? a = some o ∧ o.cls = .ref C
theorem kitx_exc (F : ExcI K C) : KitX K (.ref a) (.ref C) (ExcAt a C) where
  ty := fun M h _ p => by
    obtain ⟨o, h1, h2⟩ := p
    exact h2 ▸ ty_exc h1
  it := fun _ _ X _ => by
    obtain ⟨cd, hc⟩ := Option.isSome_iff_exists.mp (exc_clsIn F)
    unfold clsIn at hc
    split at hc
    · rename_i c' d' cd' sl' ho
      intro A' Q' E' s' k q
      unfold isType loadHead
      exact wpAny_bind (wpAny_loadPart (k _ _ (X _ _ ho)) (wpAny_pure q))
    · cases hc
  ne := fun h tp dd its n sl X htp => by
    obtain ⟨cd, hc⟩ := Option.isSome_iff_exists.mp (exc_clsIn F)
    refine Bool.eq_false_iff.mpr fun q => ?_
    have e : C = tp := Value.ref.inj (beq_iff_eq.mp q)
    subst e
    unfold clsIn at hc
    split at hc
    · rename_i c' d' cd' sl' ho
      have z := (X _ _ ho).symm.trans htp
      cases z
    · cases hc
  ca := fun {_ _ _ _ _ s} X p k => by
    obtain ⟨h, g, d, t, os⟩ := s
    obtain ⟨o, h1, h2⟩ := p
    exact exc_attr X F h1 h2 k
end
theorem bt_ValueError : bootBuiltins "ValueError" = some (.type "ValueError") := by decide +kernel
section
variable {X : Cx} {ea C R : Addr} {oe : Obj}
theorem Inv.excAt {pins : List (Addr × Obj)} {σ : St} {H : Hp} {s : Shared} (I : Inv (X.hand ea oe) pins σ H s) (hc : oe.cls = .ref C) : ExcAt ea C s.heap := ⟨oe, (I.pin (ea, oe) List.mem_cons_self).1, hc⟩
theorem call_isiE (K : PySem.W.Frag) (hK : X.K = K := by rfl) : CallR (X.hand ea oe) (.builtin "isinstance") (fun xs H Q => ∃ C c v b, xs = [.ref ea, v] ∧ oe.cls = .ref C ∧ ExcI K C ∧ (v = .ref c ∧ kitOne K (.ref C) (.ref c) = some b ∨ ∃ n, v = .ty n ∧ kitOne K (.ref C) (.type n) = some b) ∧ Q (.bl b) H) := by
  subst hK
  intro pins s σ H xs us Q I r h
  obtain ⟨C, c, v, b, rfl, hc, F, hv, q⟩ := h
  obtain ⟨u, u2, rfl, ru, rc⟩ := vals2 r
  cases ru
  have fin : ∀ tk, EP (X.hand ea oe) pins σ Q (.bool b) { s with toks := tk } := fun tk => ⟨.bl _, H, I.tok tk, rfl, q⟩
  rcases hv with ⟨rfl, e⟩ | ⟨n, rfl, e⟩
  · cases rc
    exact kia_one (kitx_exc F) I.kIn (I.excAt hc) e (fun z => nomatch z) fin
  · cases rc
    exact kia_one (kitx_exc F) I.kIn (I.excAt hc) e (fun z => nomatch z) fin
end
structure DefE (P : Program) (w : World) (K : PySem.W.Frag) (mg : Str → Option Value) (base : Heap) (k : Nat) (x : Str) (ps : List Str) (sp : Sp) : Prop where
  ex : ∃ f fd, FnOk P w K mg base (CXE P w) k f fd ps sp ∧ mg x = some (.ref f) ∧ PySem.W.keepIn K (.ref f) = true ∧ Binds K fd ps []
section
variable {P : Program} {w : World} {K : PySem.W.Frag} {mg : Str → Option Value} {base : Heap}
theorem Top.okE {x : Str} {st : Stmt} {N ps : List Str} {k : Nat} {sp : Sp} (T : Top K mg x st ps) (S : FnScope N ps (defScope st)) (len : ∀ vs H Q E, sp vs H Q E → vs.length = ps.length)
    (hbody : ∀ (f : Addr) (cdv : Value) (A : Around) (outer : List Env) (s : Shared) (H : Hp) (vs : List V) (Q : VK) (E : XK), Room k (A.deeper (envOfC x (defScope st) s.heap.objs.size f cdv)) → sp vs H Q E →
      ∃ t, PSs (cxOf (CXE P w) P w K mg base N x (defScope st) f cdv A outer s H E) (defBody st) t ∧ t { nx := fun _ H' => Q .non H', rt := Q } (start N vs) H) : DefE P w K mg base (k + 1) x ps sp := by
  obtain ⟨f, fd, F, hm, hb⟩ := T.ex
  refine ⟨f, fd, ?_, hm, F.kp, Binds.all hb⟩
  obtain ⟨oc, od, kV, doc, pm, an, cdv, ct, osl, rfl, lk, hcd⟩ := F.ex
  exact fn_of lk hcd S len (hbody f cdv)
end
section
variable {X : Cx} {k k' : Nat} {ps : List Str} {sp : Sp} {E : XK} {x : Str} {p pos : Pos} {e : Expr} {es : List Expr} {t : TA}
theorem pe_defE (D : DefE X.prog X.w X.K X.mg X.base k x ps sp) (hx : Passes (CXE X.prog X.w) X E) (hr : Room k' X.A) (hg : Gl X x) (ha : PA X (e :: es) t) (hkk : k ≤ k' := by decide)
    (hdb : (x == ("__debug__" : Str)) = false := by decide) (he : starEach (e :: es) X.env = (false, eval e X.env) :: starEach es X.env := by rfl) (hpl : (backTo pos (starEach es X.env)).any (·.1) = false := by rfl) :
    PE X (.Call (.Name x p) (e :: es) [] pos) (tCall sp [] E t) := by
  obtain ⟨f, fd, F, hm, hk, hb⟩ := D.ex
  exact pe_call F (hr.mono hkk) hg hm hk hb .nil hx ha hdb he hpl
end
structure XCls (K : PySem.W.Frag) (C : Addr) : Prop where
  new : excIn K C mroVE "ValueError.__new__" = true
  isi : ExcI K C
  ve : mroIn K C (.type "ValueError") = some true
  self : mroIn K C (.ref C) = some true
  ty : typeIn K (.ref C) = some (.type "type")
structure XiK (K : PySem.W.Frag) (x : Str) : Prop where
  ex : ∃ C : Addr, nsIn K mainGlobals x = some (some (.ref C)) ∧ XCls K C
theorem xiK {K : PySem.W.Frag} {x : Str} {C : Addr} (n : nsIn K mainGlobals x = some (some (.ref C))) (a : excIn K C [.type "ValueError", .type "Exception", .type "BaseException", .type "object"] "ValueError.__new__" = true) (b : findIn K (.ref C) "__getattribute__" = some (some (.builtin "BaseException.__getattribute__")))
    (c : findIn K (.ref C) "__getattr__" = some none) (d : findIn K (.ref C) "__class__" = some (some (.builtin "object.__class__"))) (e : mroIn K C (.type "object") = some true) (f : mroIn K C (.type "BaseException") = some true)
    (g : mroIn K C (.type "ValueError") = some true) (h : mroIn K C (.ref C) = some true) (i : typeIn K (.ref C) = some (.type "type")) : XiK K x := ⟨C, n, a, ⟨b, c, d, e, f⟩, g, h, i⟩
structure PiK (K : PySem.W.Frag) (x y : Str) (b : Bool) : Prop where
  ex : ∃ C D : Addr, nsIn K mainGlobals x = some (some (.ref C)) ∧ nsIn K mainGlobals y = some (some (.ref D)) ∧ mroIn K C (.ref D) = some b
theorem piK {K : PySem.W.Frag} {x y : Str} {b : Bool} {C D : Addr} (n : nsIn K mainGlobals x = some (some (.ref C))) (m : nsIn K mainGlobals y = some (some (.ref D))) (e : mroIn K C (.ref D) = some b) : PiK K x y b := ⟨C, D, n, m, e⟩
section
variable {K : PySem.W.Frag} {h : Heap} {mg : Str → Option Value} {x y : Str} {b : Bool} {C D : Addr}
theorem XiK.g (F : XiK K x) (X : K.In h) (G : h.Ns mainGlobals mg) : mg x = some (.ref (cA mg x)) := by
  obtain ⟨C, n, _⟩ := F.ex
  rw [cA_of (mg_of X G n)]
  exact mg_of X G n
theorem XiK.at' (F : XiK K x) (X : K.In h) (G : h.Ns mainGlobals mg) : XCls K (cA mg x) := by
  obtain ⟨C, n, q⟩ := F.ex
  rw [cA_of (mg_of X G n)]
  exact q
theorem PiK.at' (F : PiK K x y b) (X : K.In h) (G : h.Ns mainGlobals mg) : mroIn K (cA mg x) (.ref (cA mg y)) = some b := by
  obtain ⟨C, D, n, m, q⟩ := F.ex
  rw [cA_of (mg_of X G n), cA_of (mg_of X G m)]
  exact q
theorem XCls.cls (F : XCls K C) : (clsIn K C).isSome = true := exc_clsIn F.isi
theorem XCls.kit (F : XCls K C) (G : XCls K D) (e : mroIn K C (.ref D) = some b) : kitCls K (.ref C) (.ref D) = some b := by
  show (if ((clsIn K D).isSome && typeIn K (.ref D) == some (.type "type")) = true then subIn K (.ref C) (.ref D) else none) = some b
  rw [if_pos (by rw [G.cls, G.ty]; simp)]
  exact e
theorem XCls.one (F : XCls K C) (G : XCls K D) (e : mroIn K C (.ref D) = some b) : kitOne K (.ref C) (.ref D) = some b := by
  unfold kitOne
  split
  · rename_i z
    have z' : C = D := Value.ref.inj (beq_iff_eq.mp z)
    subst z'
    rw [F.self] at e
    exact e
  · exact F.kit G e
theorem XCls.veI (F : XCls K C) : kitOne K (.ref C) (.type "ValueError") = some true := by
  unfold kitOne
  rw [if_neg (fun z => nomatch (beq_iff_eq.mp z : Value.ref C = Value.type "ValueError"))]
  show (if kitMeta "ValueError" = true then subIn K (.ref C) (.type "ValueError") else none) = some true
  rw [if_pos (by decide +kernel)]
  exact F.ve
theorem XCls.caught (F : XCls K C) (G : XCls K D) (e : mroIn K C (.ref D) = some true) : exmOne K (.ref C) (.ref D) = some true := by
  unfold exmOne
  rw [if_pos (by rw [show subIn K (.ref D) (.type "BaseException") = some true from G.isi.hb]; rfl)]
  exact F.kit G e
theorem XCls.any (F : XCls K C) : ∀ (cs : List Addr), (∀ D ∈ cs, XCls K D ∧ mroIn K C (.ref D) = some false) → kitAny K (.ref C) (cs.map Value.ref) = some false
  | [], _ => rfl
  | c :: r, h => by
    have q := h c List.mem_cons_self
    have e := F.one q.1 q.2
    show (match kitOne K (.ref C) (.ref c) with | some true => some true | some false => kitAny K (.ref C) (r.map Value.ref) | none => none) = some false
    rw [e]
    exact F.any r fun D hD => h D (List.mem_cons_of_mem _ hD)
end
end L2
namespace L2
open PySem PySem.Spec PyProof.Rows PySem.W
section
variable {X : Cx} {v1 v2 a : Expr} {t1 t2 ta : TE} {pos : Pos}
theorem pe_join2 (h1 : PE X v1 t1) (h2 : PE X v2 t2) : PE X (.JoinedStr [v1, v2] pos) (fun σ H Q => t1 σ H fun x H1 => ∃ a, x = .str a ∧ a.length ≤ 100000 ∧ t2 σ H1 fun y H2 => ∃ b, y = .str b ∧ b.length ≤ 100000 ∧ Q (.str (a ++ b)) H2) := by
  intro pins s σ H Q I h
  have l0 : Str.empty.length = 0 := rfl
  refine JoinedStr_many (joinParts_cons (thn (h1 pins s σ H _ I h) fun v s1 ⟨x, H1, I1, r1, a, ea, la, q1⟩ => ?_))
  subst ea
  obtain ⟨t, rfl⟩ := r1
  refine ⟨?_, joinParts_cons (thn (h2 pins s1 σ H1 _ I1 q1) fun v s2 ⟨y, H2, I2, r2, b, eb, lb, q2⟩ => ?_)⟩
  · rw [Str.length_append, l0, Nat.zero_add]
    exact Nat.le_trans la (by decide)
  subst eb
  obtain ⟨t, rfl⟩ := r2
  have lz : (Str.empty ++ a ++ b).length ≤ sizeLine := by
    rw [Str.length_append, Str.length_append, l0, Nat.zero_add]
    exact Nat.le_trans (Nat.add_le_add la lb) (by decide)
  rw [Str.empty_append] at lz ⊢
  exact ⟨lz, joinParts_nil ⟨.str (a ++ b), H2, I2.tok _, ⟨_, rfl⟩, q2⟩ lz⟩
def isT (x : V) : Bool := match x with
  | .bl b => b
  | _ => false
def tIsT (ta : TE) : TE := fun σ H Q => ta σ H fun x H1 => ((∃ b, x = .bl b) ∨ ∃ p, x = .ref p) ∧ Q (.bl (isT x)) H1
def tNotT (ta : TE) : TE := fun σ H Q => ta σ H fun x H1 => ((∃ b, x = .bl b) ∨ ∃ p, x = .ref p) ∧ Q (.bl (!isT x)) H1
theorem is_ref_bool {M : Model} {A : Around} {E : Value → Shared → Prop} {s : Shared} {p : Addr} {d : Bool} {Q : Value → Shared → Prop} (h : Q (.bool false) s) : wpAny M A (compareOp .Is (.ref p) (.bool d)) Q E s := by
  show wpAny M A (do return Value.bool (← isSame (.ref p) (.bool d))) Q E s
  unfold isSame
  exact wpAny_bind (wpAny_pure (wpAny_pure h))
theorem isnot_ref_bool {M : Model} {A : Around} {E : Value → Shared → Prop} {s : Shared} {p : Addr} {d : Bool} {Q : Value → Shared → Prop} (h : Q (.bool true) s) : wpAny M A (compareOp .IsNot (.ref p) (.bool d)) Q E s := by
  show wpAny M A (do return Value.bool (!(← isSame (.ref p) (.bool d)))) Q E s
  unfold isSame
  exact wpAny_bind (wpAny_pure (wpAny_pure h))
theorem pc_isT {j pos'} (ha : PE X a ta) : PC X .Is a (.Constant (.bool true) j pos') (tIsT ta) := by
  intro pins s σ H Q I h
  refine thn (ha pins s σ H _ I h) fun v s1 ⟨x, H1, I1, r1, hx, q1⟩ => ?_
  refine Constant_bool ?_
  rcases hx with ⟨b, rfl⟩ | ⟨p, rfl⟩
  · cases r1
    exact is_bool ⟨.bl _, H1, I1, by cases b <;> rfl, q1⟩
  · cases r1
    exact is_ref_bool ⟨.bl _, H1, I1, rfl, q1⟩
theorem pc_notT {j pos'} (ha : PE X a ta) : PC X .IsNot a (.Constant (.bool true) j pos') (tNotT ta) := by
  intro pins s σ H Q I h
  refine thn (ha pins s σ H _ I h) fun v s1 ⟨x, H1, I1, r1, hx, q1⟩ => ?_
  refine Constant_bool ?_
  rcases hx with ⟨b, rfl⟩ | ⟨p, rfl⟩
  · cases r1
    exact isnot_bool ⟨.bl _, H1, I1, by cases b <;> rfl, q1⟩
  · cases r1
    exact isnot_ref_bool ⟨.bl _, H1, I1, rfl, q1⟩
end
end L2
namespace L2
open PySem PySem.Spec PyProof.Rows PySem.W Builtin
theorem noFill_tuple_mul : fillsNumberSlot (.type "tuple") "mul" = pure false :=
  PySem.fillsNumberSlot_seq (id := "tuple.__mul__") (r := some (.builtin "tuple.__rmul__")) PySem.F.slot_tuple_mul.lookup (by decide +kernel) PySem.F.slot_tuple_rmul.lookup (by decide +kernel)
theorem repeat_tuple : seqRepeat? (.type "tuple") = pure (some (.builtin "tuple.__mul__")) := by
  unfold seqRepeat?
  rw [PySem.seqSlot_of (T := "tuple") (name := "__mul__") (id := "tuple.__mul__") PySem.F.slot_tuple_mul.lookup (by decide +kernel), PySem.seqSlot_of (T := "tuple") (name := "__rmul__") (id := "tuple.__rmul__") PySem.F.slot_tuple_rmul.lookup (by decide +kernel)]
  rfl
theorem int_rmul_tuple (a : Int) (t : Tok) (l : Addr) (items : Array Value) (n : Nat) (dd : Option Addr) (sl : Array (Option Value)) :
    Meets (Builtin.«int.__rmul__» ⟨[.int a t, .ref l], []⟩) (fun _ R s => s.heap.get? l = some { cls := .type "tuple", dict := dd, data := .seq items n, slots := sl } ∧ R (.ok (.ret Value.notImplemented)) s) :=
  .of_wp fun prog w A R s h => by
    obtain ⟨hp, g, d, tk, os⟩ := s
    obtain ⟨hl, h⟩ := h
    wp_walk
    exact ⟨_, rfl, h⟩
theorem fold_sz (a : Array Value) : ∀ (k : Nat) (acc : Array Value), ((List.replicate k a).foldl (· ++ ·) acc).size = acc.size + k * a.size
  | 0, acc => by simp
  | k + 1, acc => by
    rw [List.replicate_succ, List.foldl_cons, fold_sz a k, Array.size_append, Nat.succ_mul]
    omega
theorem fold_list (a : Array Value) : ∀ (k : Nat) (acc : Array Value), ((List.replicate k a).foldl (· ++ ·) acc).toList = acc.toList ++ (List.replicate k a.toList).flatten
  | 0, acc => by simp
  | k + 1, acc => by
    rw [List.replicate_succ, List.foldl_cons, fold_list a k, Array.toList_append, List.replicate_succ, List.flatten_cons, List.append_assoc]
theorem tuple_mul (l : Addr) (items : Array Value) (n : Nat) (x : Int) (u : Tok) (dd : Option Addr) (sl : Array (Option Value)) (h2 : 2 ≤ x) (hx : x ≤ 1000) (hi : 0 < items.size) (hz : items.size ≤ 1000) :
    Meets (Builtin.«tuple.__mul__» ⟨[.ref l, .int x u], []⟩) (fun _ R s => s.heap.get? l = some { cls := .type "tuple", dict := dd, data := .seq items n, slots := sl } ∧
      R (.ok (.ret (.ref s.heap.objs.size))) { s with heap := s.heap.push { cls := .type "tuple", data := .seq ((List.replicate x.toNat items).foldl (· ++ ·) #[]) } }) :=
  .of_wp fun prog w A R s h => by
    obtain ⟨hp, g, d, tk, os⟩ := s
    obtain ⟨hl, h⟩ := h
    have ie : items.isEmpty = false := Bool.eq_false_iff.mpr fun q => by
      have := Array.isEmpty_iff.mp q
      subst this
      exact absurd hi (by decide)
    have c1 : (decide (x < -(2 ^ 63)) || decide (x ≥ 2 ^ 63)) = false := by simp; omega
    have c2 : (items.isEmpty || x == 1) = false := by
      rw [Bool.or_eq_false_iff]
      exact ⟨ie, by simp; omega⟩
    have c3 : (decide (x ≤ 0) || items.isEmpty) = false := by
      rw [Bool.or_eq_false_iff]
      exact ⟨decide_eq_false (by omega), ie⟩
    have mul : (items.size : Int) * x ≤ 1000 * 1000 := Int.mul_le_mul (by omega) hx (by omega) (by decide)
    have c4 : ¬ ((items.size : Int) * x > (2 ^ 63 - 1) / 8) := by omega
    have c5 : Tuple.tupleTooMany ((items.size : Int) * x) = false := by
      unfold Tuple.tupleTooMany
      exact decide_eq_false (by have : (1000 * 1000 : Int) ≤ (sizeLine : Nat) := by decide
                                omega)
    wp_walk
    rw [if_neg (by rw [c1]; exact Bool.false_ne_true)]
    wp_walk
    rw [if_neg (by rw [c2]; exact Bool.false_ne_true)]
    show wpAny _ _ (if _ then _ else _) _ _ _
    rw [if_neg (by rw [c3]; exact Bool.false_ne_true)]
    dsimp only
    rw [if_neg c4, if_neg (by rw [c5]; exact Bool.false_ne_true)]
    wp_walk
    have hs : ((List.replicate x.toNat items).foldl (· ++ ·) (#[] : Array Value)).size ≤ sizeLine := by
      rw [fold_sz, Array.size_empty, Nat.zero_add]
      have : x.toNat * items.size ≤ 1000 * 1000 := Nat.mul_le_mul (by omega) hz
      exact Nat.le_trans this (by decide)
    rw [if_neg (by omega)]
    wp_walk
    exact ⟨_, rfl, h⟩
section
variable {X : Cx}
theorem vals_rep {xs : List V} {us : List Value} (h : Vals xs us) : ∀ k, Vals (List.replicate k xs).flatten (List.replicate k us).flatten
  | 0 => .nil
  | k + 1 => by
    rw [List.replicate_succ, List.flatten_cons, List.replicate_succ, List.flatten_cons]
    exact h.append (vals_rep h k)
theorem op_mulT (K : PySem.W.Frag) (hK : X.K = K := by rfl) : OpR X (binaryOp .Mult) (fun x y H Q => ∃ a n xs, x = .ref a ∧ y = .int n ∧ SqT K H a xs ∧ xs ≠ [] ∧ 2 ≤ n ∧ n ≤ 1000 ∧ xs.length ≤ 1000 ∧ ∀ p, H p = none → Q (.ref p) (upd H p (.tup (List.replicate n.toNat xs).flatten))) := by
  subst hK
  intro pins s σ H x y v u Q I rx ry h
  obtain ⟨a, n, xs, rfl, rfl, ha, hx, h2, hn, hl, q⟩ := h
  cases rx
  obtain ⟨t', rfl⟩ := ry
  obtain ⟨its, r1, p1, _⟩ := I.tuple ha
  obtain ⟨⟨cls, dd, data, sl⟩, ho, hc, k, hd⟩ := id p1
  simp only at hc hd
  subst hc hd
  have ne : 0 < its.length := by
    rw [← r1.length]
    exact List.length_pos_iff.mpr hx
  have hz : its.length ≤ 1000 := by rw [← r1.length]; exact hl
  have hf : H s.heap.objs.size = none := I.hok.fresh (Nat.le_refl _)
  refine wpAny_binaryOp_repeat_ref (T := "tuple") (U := "int") (by decide) ⟨_, ho, rfl⟩ (fun s' => typeIs_int s' n t') noFill_tuple_mul PySem.F.fills_int_mul PySem.F.slot_int_rmul repeat_tuple PySem.F.slot_int_index.lookup
    (call_meets PySem.F.slot_int_rmul (typeIs_int s n t') PySem.F.entry_int_rmul (PySem.F.args_int_rmul_2 _ _) (int_rmul_tuple n t' a its.toArray k dd sl)
      ⟨ho, rfl, ⟨_, ho, rfl⟩, call_meets PySem.F.slot_tuple_mul ⟨_, ho, rfl⟩ PySem.F.entry_tuple_mul (PySem.F.args_tuple_mul_2 _ _)
        (tuple_mul a its.toArray k n t' dd sl h2 hn (by simpa using ne) (by simpa using hz))
        ⟨ho, .ref s.heap.objs.size, upd H s.heap.objs.size (.tup (List.replicate n.toNat xs).flatten), I.laid (t' := s.toks) (fun b u e => Heap.get?_push_of_some _ e) (Nat.le_refl _) ?_, rfl, q _ hf⟩⟩)
  have hsz : (List.replicate n.toNat xs).flatten.length ≤ sizeLine := by
    rw [List.length_flatten, List.map_replicate, List.sum_replicate_nat]
    have : n.toNat * xs.length ≤ 1000 * 1000 := Nat.mul_le_mul (by omega) hl
    exact Nat.le_trans this (by decide)
  refine ⟨hsz, (List.replicate n.toNat its).flatten, vals_rep r1 n.toNat, ⟨_, Heap.get?_push_size _ rfl, rfl, 0, ?_⟩⟩
  show Data.seq _ 0 = _
  congr 1
  apply Array.toList_inj.mp
  rw [fold_list, List.toList_toArray]
  rfl
end
section
variable {prog : Program} {w : World} {A : Around} {E : Value → Shared → Prop}
theorem IsList.ext {h h' : Heap} {it l : Addr} {items : Array Value} (x : h.IsList l items) (k : Heap.ExtBut it h h') (n : l ≠ it) : h'.IsList l items :=
  let ⟨o, e, c, d⟩ := x; ⟨o, k l o n e, c, d⟩
theorem draw_list {it l : Addr} {items : Array Value} (hne : l ≠ it) : ∀ (n i : Nat) (s : Shared) (Q : List Value → Shared → Prop), s.heap.IsListIter it l i → s.heap.IsList l items → i + n ≤ items.size →
    (∀ h', h'.IsListIter it l (i + n) → Heap.SameBut it s.heap h' → Q ((items.toList.drop i).take n) { s with heap := h' }) → wpAny (model prog w) A (draw (.ref it) n) Q E s
  | 0, i, s, Q, hit, _, _, hQ => by
    show wpAny _ _ (pure []) Q E s
    exact wpAny_pure (by simpa using hQ s.heap hit (Heap.SameBut.refl ..))
  | n + 1, i, s, Q, hit, ht, hle, hQ => by
    have hlt : i < items.size := by omega
    show wpAny _ _ (pyNext (.ref it) >>= _) Q E s
    refine wpAny_bind (wpAny_pyNext_list_item hit ht (x := items[i]) (by simp [hlt]) fun h₁ hit₁ hs₁ => ?_)
    refine wpAny_bind (wpAny_holding (draw_list hne n (i + 1) _ _ hit₁ (IsList.ext ht hs₁.extBut hne) (by omega) fun h₂ hit₂ hs₂ => wpAny_pure ?_))
    have hd : items.toList.drop i = items[i] :: items.toList.drop (i + 1) := by simp [List.drop_eq_getElem_cons, hlt]
    have := hQ h₂ (by rw [show i + (n + 1) = i + 1 + n by omega]; exact hit₂) (hs₁.trans hs₂)
    rw [hd, List.take_succ_cons] at this
    exact this
theorem unpack_list {s : Shared} {l : Addr} {items : Array Value} {targets : List (Bool × (Value → Sem Unit))} {Q : Unit → Shared → Prop} (hh : A.handled = none) (ht : s.heap.IsList l items)
    (hn : targets.length = items.size) (hstar : targets.findIdx? (·.1) = none)
    (h : ∀ h', Heap.ExtBut s.heap.objs.size s.heap h' → wpAny (model prog w) A (assignInOrder (targets.map (·.2)) items.toList) Q E { s with heap := h' }) :
    wpAny (model prog w) A (unpack (.ref l) targets) Q E s := by
  unfold unpack
  rw [hn, hstar]
  refine wpAny_bind (wpAny_holding ?_)
  have hlt : l ≠ s.heap.objs.size := by obtain ⟨o, ho, _⟩ := ht; exact Nat.ne_of_lt (Heap.lt_size ho)
  unfold unpackItems
  refine wpAny_bind ?_
  unfold notIterableAtAll
  refine wpAny_bind (wpAny_specialOf ht.typeIs slot_list_iter.lookup ?_)
  refine wpAny_pure ?_
  simp only [Bool.false_eq_true, if_false]
  refine wpAny_bind (wpAny_holding (wpAny_pyIter_list ht ?_))
  have hp : (s.heap.push { cls := .type "list_iterator", data := .fields #[.ref l, .int 0 0] }).IsList l items := by
    obtain ⟨o, ho, r⟩ := ht
    exact ⟨o, Heap.get?_push_of_some _ ho, r⟩
  refine wpAny_bind (wpAny_holding (draw_list hlt items.size 0 _ _ ⟨_, Heap.get?_push_size _ rfl, rfl, rfl⟩ hp (by omega) fun h₁ hit₁ hs₁ => ?_))
  have hall : List.take items.size (List.drop 0 items.toList) = items.toList := by
    rw [List.drop_zero]; exact List.take_of_length_le (by simp)
  rw [hall]
  rw [if_neg (by simp)]
  have ht₁ : h₁.IsList l items := IsList.ext hp hs₁.extBut hlt
  refine wpAny_bind (wpAny_holding (wpAny_pyNext_list_end hh hit₁ ht₁ (by simp) fun h₂ he₂ => ?_))
  simp only [Option.isSome_none, Bool.false_eq_true, if_false]
  refine wpAny_pure (h h₂ fun b o hb e => he₂ b o hb (hs₁.extBut b o hb (Heap.get?_push_of_some _ e)))
end
section
variable {X : Cx}
def gLst (K : PySem.W.Frag) (n : Nat) (t : TGs) : TG := fun v σ H Q => ∃ a xs, v = .ref a ∧ SqL K H a xs ∧ xs.length = n ∧ t xs σ H Q
theorem pg_lst {es : List Expr} {k : Nat} {t : TGs} {n : Nat} {pos : Pos} (hc : X.calm = true) (h : PGs X es t)
    (hn : (assignEach es X.env).length = n := by rfl) (hst : (assignEach es X.env).findIdx? (·.1) = none := by rfl) : PG X (.Tuple es k pos) (gLst X.K n t) := by
  intro pins s σ H v u Q I r hw
  obtain ⟨a, xs, e1, hq, hl, hw⟩ := hw
  subst e1
  cases r
  obtain ⟨its, rv, ht, hz⟩ := I.list hq
  rw [assign_Tuple]
  refine wpAny_bind (wpAny_standAt (unpack_list (I.ok.hd hc) ht.isList (by simp [hn, ← hl, rv.length]) hst fun h' hx => ?_))
  have I1 : Inv X pins σ H { s with heap := h' } := I.kept (t' := s.toks) fun b o e => hx b o (Nat.ne_of_lt (Heap.lt_size e)) e
  exact h pins _ σ H xs _ Q I1 (by simpa using rv) hw
end
end L2
set_option maxHeartbeats 4000000
namespace Wy
open PySem L2
def top (i : Nat) : Stmt := PySem.Challenge.pw_whyrows_k47_vetted.main.body.getD i (.Pass ⟨0, 0, 0, 0⟩)
abbrev s_is_whole : Stmt := top 15
abbrev s_is_text_begun_by : Stmt := top 16
abbrev s_is_word : Stmt := top 17
abbrev s_is_var : Stmt := top 18
abbrev s_is_value : Stmt := top 19
abbrev s_is_row : Stmt := top 20
abbrev s_is_tuple_of_up_to : Stmt := top 26
abbrev s_is_tuple_of_just : Stmt := top 27
abbrev s_is_fact : Stmt := top 28
abbrev s_is_term : Stmt := top 29
abbrev s_are_terms : Stmt := top 30
abbrev s_is_atom : Stmt := top 31
abbrev s_are_atoms : Stmt := top 32
abbrev s_is_choice : Stmt := top 33
abbrev s_are_choices : Stmt := top 34
abbrev s_variables_in : Stmt := top 35
abbrev s_variables_of_body : Stmt := top 36
abbrev s_are_known : Stmt := top 37
abbrev s_is_rule : Stmt := top 38
abbrev s_vet_facts : Stmt := top 39
abbrev s_vet : Stmt := top 40
abbrev s__law_cell_at : Stmt := top 42
abbrev s__law_names : Stmt := top 43
abbrev s__law_facts : Stmt := top 44
abbrev s__law_rules : Stmt := top 45
abbrev s__law_no_fact : Stmt := top 46
abbrev s__law_no_rule : Stmt := top 47
abbrev s__law_outcome : Stmt := top 48
abbrev s__law_due : Stmt := top 49
abbrev s_law : Stmt := top 50
theorem sc_is_whole : FnScope ["thing"] ["thing"] (defScope s_is_whole) := ⟨rfl, rfl, rfl, by decide +kernel, rfl, by decide +kernel, by decide +kernel⟩
theorem sc_is_text_begun_by : FnScope ["thing", "first_signs"] ["thing", "first_signs"] (defScope s_is_text_begun_by) := ⟨rfl, rfl, rfl, by decide +kernel, rfl, by decide +kernel, by decide +kernel⟩
theorem sc_is_word : FnScope ["thing"] ["thing"] (defScope s_is_word) := ⟨rfl, rfl, rfl, by decide +kernel, rfl, by decide +kernel, by decide +kernel⟩
theorem sc_is_var : FnScope ["thing"] ["thing"] (defScope s_is_var) := ⟨rfl, rfl, rfl, by decide +kernel, rfl, by decide +kernel, by decide +kernel⟩
theorem sc_is_value : FnScope ["thing"] ["thing"] (defScope s_is_value) := ⟨rfl, rfl, rfl, by decide +kernel, rfl, by decide +kernel, by decide +kernel⟩
theorem sc_is_row : FnScope ["thing"] ["thing"] (defScope s_is_row) := ⟨rfl, rfl, rfl, by decide +kernel, rfl, by decide +kernel, by decide +kernel⟩
theorem sc_is_tuple_of_up_to : FnScope ["thing", "most"] ["thing", "most"] (defScope s_is_tuple_of_up_to) := ⟨rfl, rfl, rfl, by decide +kernel, rfl, by decide +kernel, by decide +kernel⟩
theorem sc_is_tuple_of_just : FnScope ["thing", "many"] ["thing", "many"] (defScope s_is_tuple_of_just) := ⟨rfl, rfl, rfl, by decide +kernel, rfl, by decide +kernel, by decide +kernel⟩
theorem sc_is_fact : FnScope ["thing"] ["thing"] (defScope s_is_fact) := ⟨rfl, rfl, rfl, by decide +kernel, rfl, by decide +kernel, by decide +kernel⟩
theorem sc_is_term : FnScope ["thing"] ["thing"] (defScope s_is_term) := ⟨rfl, rfl, rfl, by decide +kernel, rfl, by decide +kernel, by decide +kernel⟩
theorem sc_are_terms : FnScope ["thing"] ["thing"] (defScope s_are_terms) := ⟨rfl, rfl, rfl, by decide +kernel, rfl, by decide +kernel, by decide +kernel⟩
theorem sc_is_atom : FnScope ["thing"] ["thing"] (defScope s_is_atom) := ⟨rfl, rfl, rfl, by decide +kernel, rfl, by decide +kernel, by decide +kernel⟩
theorem sc_are_atoms : FnScope ["thing"] ["thing"] (defScope s_are_atoms) := ⟨rfl, rfl, rfl, by decide +kernel, rfl, by decide +kernel, by decide +kernel⟩
theorem sc_is_choice : FnScope ["thing"] ["thing"] (defScope s_is_choice) := ⟨rfl, rfl, rfl, by decide +kernel, rfl, by decide +kernel, by decide +kernel⟩
theorem sc_are_choices : FnScope ["thing"] ["thing"] (defScope s_are_choices) := ⟨rfl, rfl, rfl, by decide +kernel, rfl, by decide +kernel, by decide +kernel⟩
theorem sc_variables_in : FnScope ["terms"] ["terms"] (defScope s_variables_in) := ⟨rfl, rfl, rfl, by decide +kernel, rfl, by decide +kernel, by decide +kernel⟩
theorem sc_variables_of_body : FnScope ["body", "found", "table", "terms"] ["body"] (defScope s_variables_of_body) := ⟨rfl, rfl, rfl, by decide +kernel, rfl, by decide +kernel, by decide +kernel⟩
theorem sc_are_known : FnScope ["terms", "known"] ["terms", "known"] (defScope s_are_known) := ⟨rfl, rfl, rfl, by decide +kernel, rfl, by decide +kernel, by decide +kernel⟩
theorem sc_is_rule : FnScope ["thing", "known"] ["thing"] (defScope s_is_rule) := ⟨rfl, rfl, rfl, by decide +kernel, rfl, by decide +kernel, by decide +kernel⟩
theorem sc_vet_facts : FnScope ["facts", "taken", "fact", "name"] ["facts"] (defScope s_vet_facts) := ⟨rfl, rfl, rfl, by decide +kernel, rfl, by decide +kernel, by decide +kernel⟩
theorem sc_vet : FnScope ["facts", "rules", "rounds"] ["facts", "rules", "rounds"] (defScope s_vet) := ⟨rfl, rfl, rfl, by decide +kernel, rfl, by decide +kernel, by decide +kernel⟩
theorem sc__law_cell_at : FnScope ["_law_script", "_law_k"] ["_law_script", "_law_k"] (defScope s__law_cell_at) := ⟨rfl, rfl, rfl, by decide +kernel, rfl, by decide +kernel, by decide +kernel⟩
theorem sc__law_names : FnScope ["_law_cell", "_law_place", "_law_many", "_law_signs", "_law_base", "_law_at", "_law_names_here", "_law_k", "_law_some", "_law_name"] ["_law_cell", "_law_place", "_law_many"] (defScope s__law_names) := ⟨rfl, rfl, rfl, by decide +kernel, rfl, by decide +kernel, by decide +kernel⟩
theorem sc__law_facts : FnScope ["_law_script", "_law_cell", "_law_many", "_law_names_here", "_law_facts_here", "_law_k", "_law_x", "_law_row"] ["_law_script"] (defScope s__law_facts) := ⟨rfl, rfl, rfl, by decide +kernel, rfl, by decide +kernel, by decide +kernel⟩
theorem sc__law_rules : FnScope ["_law_script", "_law_rules_here", "_law_k", "_law_x", "_law_mark", "_law_body", "_law_head"] ["_law_script"] (defScope s__law_rules) := ⟨rfl, rfl, rfl, by decide +kernel, rfl, by decide +kernel, by decide +kernel⟩
theorem sc__law_no_fact : FnScope ["_law_cell", "_law_fact", "_law_some"] ["_law_cell", "_law_fact"] (defScope s__law_no_fact) := ⟨rfl, rfl, rfl, by decide +kernel, rfl, by decide +kernel, by decide +kernel⟩
theorem sc__law_no_rule : FnScope ["_law_cell", "_law_rule", "_law_head", "_law_body", "_law_choices", "_law_some"] ["_law_cell", "_law_rule"] (defScope s__law_no_rule) := ⟨rfl, rfl, rfl, by decide +kernel, rfl, by decide +kernel, by decide +kernel⟩
theorem sc__law_outcome : FnScope ["_law_facts_here", "_law_rules_here", "_law_rounds", "_law_found", "e", "_law_kinds"] ["_law_facts_here", "_law_rules_here", "_law_rounds"] (defScope s__law_outcome) := ⟨rfl, rfl, rfl, by decide +kernel, rfl, by decide +kernel, by decide +kernel⟩
theorem sc__law_due : FnScope ["_law_places", "_law_rounds_good", "_law_no_fact_here", "_law_no_name", "_law_no_rule_here", "_law_kinds"] ["_law_places", "_law_rounds_good"] (defScope s__law_due) := ⟨rfl, rfl, rfl, by decide +kernel, rfl, by decide +kernel, by decide +kernel⟩
theorem sc_law : FnScope ["_law_script", "_law_facts_here", "_law_rules_here", "_law_rounds", "_law_mended", "_law_places", "_law_cell", "_law_at", "_law_handed", "_law_found", "_law_due_here"] ["_law_script"] (defScope s_law) := ⟨rfl, rfl, rfl, by decide +kernel, rfl, by decide +kernel, by decide +kernel⟩
structure Txt (K : PySem.W.Frag) (mg : Str → Option Value) : Prop where
  b_ValueError : mg "ValueError" = none
  b_all : mg "all" = none
  b_bool : mg "bool" = none
  b_int : mg "int" = none
  b_isinstance : mg "isinstance" = none
  b_len : mg "len" = none
  b_list : mg "list" = none
  b_range : mg "range" = none
  b_str : mg "str" = none
  b_tuple : mg "tuple" = none
  c_SMALL_LETTERS : ∃ t, mg "SMALL_LETTERS" = some (.str "abcdefghijklmnopqrstuvwxyz" t)
  c_CAPITAL_LETTERS : ∃ t, mg "CAPITAL_LETTERS" = some (.str "ABCDEFGHIJKLMNOPQRSTUVWXYZ" t)
  c_FURTHER_SIGNS : ∃ t, mg "FURTHER_SIGNS" = some (.str "abcdefghijklmnopqrstuvwxyz0123456789" t)
  c_MOST_SIGNS : ∃ t, mg "MOST_SIGNS" = some (.int 12 t)
  c_MOST_VALUES : ∃ t, mg "MOST_VALUES" = some (.int 4 t)
  c_MOST_ATOMS : ∃ t, mg "MOST_ATOMS" = some (.int 3 t)
  c_MOST_CHOICES : ∃ t, mg "MOST_CHOICES" = some (.int 3 t)
  c_MOST_ROUNDS : ∃ t, mg "MOST_ROUNDS" = some (.int 5 t)
  g_SIGNS : mg "SIGNS" = some (.ref (cA mg "SIGNS"))
  q_SIGNS : TupC K (cA mg "SIGNS") [.str "=", .str "!=", .str "<"]
  t_is_whole : Top K mg "is_whole" s_is_whole ["thing"]
  t_is_text_begun_by : Top K mg "is_text_begun_by" s_is_text_begun_by ["thing", "first_signs"]
  t_is_word : Top K mg "is_word" s_is_word ["thing"]
  t_is_var : Top K mg "is_var" s_is_var ["thing"]
  t_is_value : Top K mg "is_value" s_is_value ["thing"]
  t_is_row : Top K mg "is_row" s_is_row ["thing"]
  t_is_tuple_of_up_to : Top K mg "is_tuple_of_up_to" s_is_tuple_of_up_to ["thing", "most"]
  t_is_tuple_of_just : Top K mg "is_tuple_of_just" s_is_tuple_of_just ["thing", "many"]
  t_is_fact : Top K mg "is_fact" s_is_fact ["thing"]
  t_is_term : Top K mg "is_term" s_is_term ["thing"]
  t_are_terms : Top K mg "are_terms" s_are_terms ["thing"]
  t_is_atom : Top K mg "is_atom" s_is_atom ["thing"]
  t_are_atoms : Top K mg "are_atoms" s_are_atoms ["thing"]
  t_is_choice : Top K mg "is_choice" s_is_choice ["thing"]
  t_are_choices : Top K mg "are_choices" s_are_choices ["thing"]
  t_variables_in : Top K mg "variables_in" s_variables_in ["terms"]
  t_variables_of_body : Top K mg "variables_of_body" s_variables_of_body ["body"]
  t_are_known : Top K mg "are_known" s_are_known ["terms", "known"]
  t_is_rule : Top K mg "is_rule" s_is_rule ["thing"]
  t_vet_facts : Top K mg "vet_facts" s_vet_facts ["facts"]
  t_vet : Top K mg "vet" s_vet ["facts", "rules", "rounds"]
  t__law_cell_at : Top K mg "_law_cell_at" s__law_cell_at ["_law_script", "_law_k"]
  t__law_names : Top K mg "_law_names" s__law_names ["_law_cell", "_law_place", "_law_many"]
  t__law_facts : Top K mg "_law_facts" s__law_facts ["_law_script"]
  t__law_rules : Top K mg "_law_rules" s__law_rules ["_law_script"]
  t__law_no_fact : Top K mg "_law_no_fact" s__law_no_fact ["_law_cell", "_law_fact"]
  t__law_no_rule : Top K mg "_law_no_rule" s__law_no_rule ["_law_cell", "_law_rule"]
  t__law_outcome : Top K mg "_law_outcome" s__law_outcome ["_law_facts_here", "_law_rules_here", "_law_rounds"]
  t__law_due : Top K mg "_law_due" s__law_due ["_law_places", "_law_rounds_good"]
  t_law : Top K mg "law" s_law ["_law_script"]
  g_NoFact : mg "NoFact" = some (.ref (cA mg "NoFact"))
  x_NoFact : XCls K (cA mg "NoFact")
  g_NoName : mg "NoName" = some (.ref (cA mg "NoName"))
  x_NoName : XCls K (cA mg "NoName")
  g_NoRounds : mg "NoRounds" = some (.ref (cA mg "NoRounds"))
  x_NoRounds : XCls K (cA mg "NoRounds")
  g_NoRule : mg "NoRule" = some (.ref (cA mg "NoRule"))
  x_NoRule : XCls K (cA mg "NoRule")
  g_NoText : mg "NoText" = some (.ref (cA mg "NoText"))
  x_NoText : XCls K (cA mg "NoText")
  g_NoWorth : mg "NoWorth" = some (.ref (cA mg "NoWorth"))
  x_NoWorth : XCls K (cA mg "NoWorth")
  g_TooMuch : mg "TooMuch" = some (.ref (cA mg "TooMuch"))
  x_TooMuch : XCls K (cA mg "TooMuch")
  g_WhyError : mg "WhyError" = some (.ref (cA mg "WhyError"))
  x_WhyError : XCls K (cA mg "WhyError")
  p_NoFact_NoFact : PySem.W.mroIn K (cA mg "NoFact") (.ref (cA mg "NoFact")) = some true
  p_NoFact_NoName : PySem.W.mroIn K (cA mg "NoFact") (.ref (cA mg "NoName")) = some false
  p_NoFact_NoRounds : PySem.W.mroIn K (cA mg "NoFact") (.ref (cA mg "NoRounds")) = some false
  p_NoFact_NoRule : PySem.W.mroIn K (cA mg "NoFact") (.ref (cA mg "NoRule")) = some false
  p_NoFact_NoText : PySem.W.mroIn K (cA mg "NoFact") (.ref (cA mg "NoText")) = some false
  p_NoFact_NoWorth : PySem.W.mroIn K (cA mg "NoFact") (.ref (cA mg "NoWorth")) = some false
  p_NoFact_TooMuch : PySem.W.mroIn K (cA mg "NoFact") (.ref (cA mg "TooMuch")) = some false
  p_NoFact_WhyError : PySem.W.mroIn K (cA mg "NoFact") (.ref (cA mg "WhyError")) = some true
  p_NoName_NoFact : PySem.W.mroIn K (cA mg "NoName") (.ref (cA mg "NoFact")) = some false
  p_NoName_NoName : PySem.W.mroIn K (cA mg "NoName") (.ref (cA mg "NoName")) = some true
  p_NoName_NoRounds : PySem.W.mroIn K (cA mg "NoName") (.ref (cA mg "NoRounds")) = some false
  p_NoName_NoRule : PySem.W.mroIn K (cA mg "NoName") (.ref (cA mg "NoRule")) = some false
  p_NoName_NoText : PySem.W.mroIn K (cA mg "NoName") (.ref (cA mg "NoText")) = some false
  p_NoName_NoWorth : PySem.W.mroIn K (cA mg "NoName") (.ref (cA mg "NoWorth")) = some false
  p_NoName_TooMuch : PySem.W.mroIn K (cA mg "NoName") (.ref (cA mg "TooMuch")) = some false
  p_NoName_WhyError : PySem.W.mroIn K (cA mg "NoName") (.ref (cA mg "WhyError")) = some true
  p_NoRule_NoFact : PySem.W.mroIn K (cA mg "NoRule") (.ref (cA mg "NoFact")) = some false
  p_NoRule_NoName : PySem.W.mroIn K (cA mg "NoRule") (.ref (cA mg "NoName")) = some false
  p_NoRule_NoRounds : PySem.W.mroIn K (cA mg "NoRule") (.ref (cA mg "NoRounds")) = some false
  p_NoRule_NoRule : PySem.W.mroIn K (cA mg "NoRule") (.ref (cA mg "NoRule")) = some true
  p_NoRule_NoText : PySem.W.mroIn K (cA mg "NoRule") (.ref (cA mg "NoText")) = some false
  p_NoRule_NoWorth : PySem.W.mroIn K (cA mg "NoRule") (.ref (cA mg "NoWorth")) = some false
  p_NoRule_TooMuch : PySem.W.mroIn K (cA mg "NoRule") (.ref (cA mg "TooMuch")) = some false
  p_NoRule_WhyError : PySem.W.mroIn K (cA mg "NoRule") (.ref (cA mg "WhyError")) = some true
  p_NoRounds_NoFact : PySem.W.mroIn K (cA mg "NoRounds") (.ref (cA mg "NoFact")) = some false
  p_NoRounds_NoName : PySem.W.mroIn K (cA mg "NoRounds") (.ref (cA mg "NoName")) = some false
  p_NoRounds_NoRounds : PySem.W.mroIn K (cA mg "NoRounds") (.ref (cA mg "NoRounds")) = some true
  p_NoRounds_NoRule : PySem.W.mroIn K (cA mg "NoRounds") (.ref (cA mg "NoRule")) = some false
  p_NoRounds_NoText : PySem.W.mroIn K (cA mg "NoRounds") (.ref (cA mg "NoText")) = some false
  p_NoRounds_NoWorth : PySem.W.mroIn K (cA mg "NoRounds") (.ref (cA mg "NoWorth")) = some false
  p_NoRounds_TooMuch : PySem.W.mroIn K (cA mg "NoRounds") (.ref (cA mg "TooMuch")) = some false
  p_NoRounds_WhyError : PySem.W.mroIn K (cA mg "NoRounds") (.ref (cA mg "WhyError")) = some true
theorem iteFb {b : Bool} {A B : Prop} (e : b = false) (h : B) : if b = true then A else B := by
  subst e
  exact iteF h
theorem iteTb {b : Bool} {A B : Prop} (e : b = true) (h : A) : if b = true then A else B := by
  subst e
  exact iteT h
def fur : Str := "abcdefghijklmnopqrstuvwxyz0123456789"
def small : Str := "abcdefghijklmnopqrstuvwxyz"
def signsOk (fs : Str) : List Nat → Bool
  | [] => false
  | c :: r => decide (c ∈ fs.cps.toList) && r.all fun d => decide (d ∈ fur.cps.toList)
def txtB (fs z : Str) : Bool := decide (1 ≤ z.length) && decide (z.length ≤ 12) && signsOk fs z.cps.toList
def txtD (fs : Str) : PyData → Bool
  | .str z => txtB fs z
  | _ => false
def wholeD : PyData → Bool
  | .int _ => true
  | _ => false
def valD (d : PyData) : Bool := wholeD d || txtD small d
def rowD : PyData → Bool
  | .tuple ds => decide (ds.length ≤ 4) && ds.all valD
  | _ => false
def okD : Nat → PyData → Prop
  | _, .str z => z.length ≤ 200
  | 0, .list _ => False
  | 0, .tuple _ => False
  | n + 1, .list ds => ds.length ≤ 10 ∧ ∀ e ∈ ds, okD n e
  | n + 1, .tuple ds => ds.length ≤ 10 ∧ ∀ e ∈ ds, okD n e
  | _, .dict _ => False
  | _, _ => True
theorem okD_str {n : Nat} {z : Str} (h : okD n (.str z)) : z.length ≤ 200 := by
  cases n <;> exact h
theorem dat_str {K : PySem.W.Frag} {H : Hp} {d : PyData} {x : V} (h : Dat K H d x) : (∃ z, d = .str z ∧ x = .str z) ∨ (tyIs (tyD d) "str" = false ∧ ∀ fs, txtD fs d = false) := by
  cases h with
  | str z _ => exact .inl ⟨z, rfl, rfl⟩
  | non => exact .inr ⟨rfl, fun _ => rfl⟩
  | bl _ => exact .inr ⟨rfl, fun _ => rfl⟩
  | int _ => exact .inr ⟨rfl, fun _ => rfl⟩
  | lst _ _ => exact .inr ⟨rfl, fun _ => rfl⟩
  | tup _ _ => exact .inr ⟨rfl, fun _ => rfl⟩
theorem txtB_len {fs z : Str} (h : ¬ (1 ≤ z.length ∧ z.length ≤ 12)) : txtB fs z = false := by
  unfold txtB
  by_cases h1 : 1 ≤ z.length
  · have h2 : ¬ z.length ≤ 12 := fun q => h ⟨h1, q⟩
    simp [h2]
  · simp [h1]
theorem txtB_ok {fs z : Str} (h1 : 1 ≤ z.length) (h2 : z.length ≤ 12) : txtB fs z = signsOk fs z.cps.toList := by
  unfold txtB
  simp [h1, h2]
theorem len_list (z : Str) : z.cps.toList.length = z.length := by simp [Str.length]
theorem split_list {z : Str} (h : 1 ≤ z.length) : ∃ c r, z.cps.toList = c :: r := by
  have := len_list z
  cases e : z.cps.toList with
  | nil => rw [e] at this; simp at this; omega
  | cons c r => exact ⟨c, r, rfl⟩
theorem cut_tail {z : Str} (h : 1 ≤ z.length) : (cutS z (some 1) none).cps.toList = z.cps.toList.tail := by
  have e1 : HT.sIx z.length 0 (some 1) = 1 := by
    have := HT.sIx_nat z.length 0 1
    rw [show ((1 : Nat) : Int) = 1 from rfl] at this
    rw [this]
    omega
  have hl := len_list z
  unfold cutS
  rw [e1, HT.sIx_none]
  show ((z.cps.toList.drop 1).take (z.length - 1)).toArray.toList = _
  rw [List.toList_toArray, List.take_of_length_le (by rw [List.length_drop]; omega), List.drop_one]
end Wy
namespace Wy
open PySem L2
section
variable {P : Program} {w : World} {K : PySem.W.Frag} {mg : Str → Option Value} {base : Heap}
def sp_begun (K : PySem.W.Frag) : Sp := fun vs H Q _ => ∃ x fs d n, vs = [x, .str fs] ∧ Dat K H d x ∧ okD n d ∧ ∀ H', Same H H' → Q (.bl (txtD fs d)) H'
theorem ok_is_text_begun_by (T : Txt K mg) : Def P w K mg base 1 "is_text_begun_by" ["thing", "first_signs"] (sp_begun K) := by
  refine T.t_is_text_begun_by.ok sc_is_text_begun_by (fun vs H Q E h => ?_) fun f cdv A outer s H vs Q E hr h => ?_
  · obtain ⟨x, fs, d, n, rfl, _⟩ := h
    rfl
  · obtain ⟨x, fs, d, n, rfl, hd, hz, k⟩ := h
    refine ⟨_, (pss_2
      (ps_if (PW.pt (pw_or (pt_not (pt_val (pe_callB (call_isiD K) rfl T.b_isinstance bt_isinstance (pa_2 (pv 0) (pe_ty rfl T.b_str bt_str))))) (pw_or1 (pt_not (pt_chain op_le op_le pe_int (pe_callB (call_lenK K) rfl T.b_len bt_len (pa_1 (pv 0))) (pe_gI rfl T.c_MOST_SIGNS)))))) (pss_one (ps_ret pe_bl)) pss_nil)
      (ps_ret (pe_and (pe_cmpR op_in_str (pe_ix ix_str (pv 0) pe_int (fun _ _ => rfl)) (pv 1) (by with_unfolding_all rfl)) (pe_one (pe_callB (call_allL rfl K) rfl T.b_all bt_all (pa_1 (pe_comp (N := ["sign"]) (caps := [none]) rfl (by with_unfolding_all rfl) (pi_str (pe_slice sl_str (pv 0) (po_some pe_int) po_none)) (fun _ _ _ _ _ => (pg_name (i := 0) (show (["sign"] : List Str).Nodup by decide +kernel) rfl (Or.inl rfl))) (fun _ _ _ _ _ => pf_nil) (fun _ _ _ _ _ => (pe_cmpR op_in_str (pv 0) (pe_gS rfl T.c_FURTHER_SIGNS) (by with_unfolding_all rfl)))))))))), ?_⟩
    rcases dat_str hd with ⟨z, rfl, rfl⟩ | ⟨ty, hn⟩
    · have hz := okD_str hz
      have hsl : z.length ≤ sizeLine := Nat.le_trans hz (by decide)
      have no : ¬ (1 ≤ z.length ∧ z.length ≤ 12) → Q (.bl false) H := fun q => by
        have := k H (Same.refl H)
        rw [show txtD fs (.str z) = false from txtB_len q] at this
        exact this
      refine ⟨_, rfl, _, _, _, rfl, hd, by decide, _, rfl, ?_⟩
      refine iteFb (show (!tyIs "str" "str") = false by decide) ?_
      refine ⟨_, rfl, _, _, rfl, ⟨hsl, rfl⟩, _, _, rfl, rfl, _, rfl, ?_⟩
      refine ite2 (fun h1 => ?_) (fun h1 => ?_)
      · refine ⟨_, _, rfl, rfl, _, rfl, ?_⟩
        refine ite2 (fun h2 => ?_) (fun h2 => ?_)
        · exact no fun q => by simp at h2; omega
        · have l1 : 1 ≤ z.length := by simp at h1; omega
          have l2 : z.length ≤ 12 := by simp at h2; omega
          obtain ⟨c, r, ecr⟩ := split_list l1
          have et : txtD fs (.str z) = signsOk fs z.cps.toList := txtB_ok (fs := fs) l1 l2
          rw [ecr] at et
          refine ⟨_, rfl, _, _, c, rfl, rfl, hsl, (by rw [ecr]; exact atI_nat (j := 0) rfl), _, rfl, _, _, rfl, rfl, _, rfl, ?_⟩
          rw [StrLaws.found_one]
          refine ite2 (fun h3 => ?_) (fun h3 => ?_)
          · refine ⟨_, rfl, _, rfl, _, rfl, hsl, _, rfl, fun D hD => ?_⟩
            have ect : (cutS z (some 1) none).cps.toList = r := by rw [cut_tail l1, ecr]; rfl
            have hrl : r.length ≤ 12 := by
              have := len_list z
              rw [ecr, List.length_cons] at this
              omega
            have esz : (cutS z (some 1) none).cps.size = r.length := by rw [← ect, Array.length_toList]
            refine comp_by r.length (fun i σ' H' => (∃ v, σ' = [v]) ∧ H' = upd H D (.lst ((r.take i).map fun c => V.bl (decide (c ∈ fur.cps.toList))))) ⟨⟨_, rfl⟩, rfl⟩ (fun i σ' H' hi _ => by show i < _; rw [esz]; exact hi) (fun σ' H' p => ⟨esz.symm, ?_⟩) (fun i σ' H' hi p x H2 y => ?_)
            · obtain ⟨_, rfl⟩ := p
              refine ⟨D, r.map fun c => decide (c ∈ fur.cps.toList), rfl, SqL.of (by rw [upd_same, List.take_length, List.map_map]; rfl), ?_⟩
              have := k (upd H D (.lst ((r.take r.length).map fun c => V.bl (decide (c ∈ fur.cps.toList))))) (same_upd hD)
              rw [et] at this
              have e2 : signsOk fs (c :: r) = (r.map fun c => decide (c ∈ fur.cps.toList)).all id := by
                show (decide (c ∈ fs.cps.toList) && _) = _
                rw [h3, Bool.true_and, List.all_map]
                rfl
              rw [e2] at this
              exact this
            · obtain ⟨⟨v, rfl⟩, rfl⟩ := p
              obtain ⟨rfl, c', hc, rfl⟩ := y
              have hc' : r[i]? = some c' := by rw [← ect, Array.getElem?_toList]; exact hc
              refine ⟨_, rfl, _, _, rfl, rfl, _, upd_same, ?_, ⟨_, rfl⟩, ?_⟩
              · rw [List.length_map, List.length_take]
                exact small1000 (by omega)
              · rw [upd_upd, StrLaws.found_one, List.take_succ, hc', List.map_append]
                rfl
          · have := k H (Same.refl H)
            rw [et] at this
            have e2 : signsOk fs (c :: r) = false := by
              show (decide (c ∈ fs.cps.toList) && _) = _
              rw [Bool.eq_false_iff.mpr h3, Bool.false_and]
            rw [e2] at this
            exact this
      · refine ⟨_, rfl, iteT ?_⟩
        exact no fun q => by simp at h1; omega
    · refine ⟨_, rfl, _, _, _, rfl, hd, by decide, _, rfl, ?_⟩
      refine iteTb (by rw [ty]; rfl) (iteT ?_)
      have := k H (Same.refl H)
      rw [hn] at this
      exact this
def sp_word (K : PySem.W.Frag) (fs : Str) : Sp := fun vs H Q _ => ∃ x d n, vs = [x] ∧ Dat K H d x ∧ okD n d ∧ ∀ H', Same H H' → Q (.bl (txtD fs d)) H'
theorem ok_is_word (T : Txt K mg) : Def P w K mg base 2 "is_word" ["thing"] (sp_word K small) := by
  refine T.t_is_word.ok sc_is_word (fun vs H Q E h => ?_) fun f cdv A outer s H vs Q E hr h => ?_
  · obtain ⟨x, d, n, rfl, _⟩ := h
    rfl
  · obtain ⟨x, d, n, rfl, hd, hz, k⟩ := h
    refine ⟨_, (pss_one (ps_ret (pe_def (ok_is_text_begun_by T) hr rfl (pa_2 (pv 0) (pe_gS rfl T.c_SMALL_LETTERS))))), ?_⟩
    exact ⟨_, rfl, _, _, d, n, rfl, hd, hz, k⟩
end
end Wy
namespace Wy
open PySem L2
section
variable {P : Program} {w : World} {K : PySem.W.Frag} {mg : Str → Option Value} {base : Heap}
def sp_whole (K : PySem.W.Frag) : Sp := fun vs H Q _ => ∃ x d, vs = [x] ∧ Dat K H d x ∧ Q (.bl (wholeD d)) H
theorem ok_is_whole (T : Txt K mg) : Def P w K mg base 1 "is_whole" ["thing"] (sp_whole K) := by
  refine T.t_is_whole.ok sc_is_whole (fun vs H Q E h => ?_) fun f cdv A outer s H vs Q E hr h => ?_
  · obtain ⟨x, d, rfl, _⟩ := h
    rfl
  · obtain ⟨x, d, rfl, hd, k⟩ := h
    refine ⟨_, (pss_one (ps_ret (pe_and (pe_callB (call_isiD K) rfl T.b_isinstance bt_isinstance (pa_2 (pv 0) (pe_ty rfl T.b_int bt_int))) (pe_one (pe_not (pe_callB (call_isiD K) rfl T.b_isinstance bt_isinstance (pa_2 (pv 0) (pe_ty rfl T.b_bool bt_bool)))))))), ?_⟩
    refine ⟨_, rfl, _, _, _, rfl, hd, by decide, _, rfl, ite2 (fun h1 => ?_) (fun h1 => ?_)⟩
    · refine ⟨_, rfl, _, _, _, rfl, hd, by decide, _, rfl, ?_⟩
      cases hd <;> first | exact k | (exact absurd h1 Bool.false_ne_true)
    · cases hd <;> first | exact k | (exact absurd rfl h1)
def sp_val (K : PySem.W.Frag) : Sp := fun vs H Q _ => ∃ x d n, vs = [x] ∧ Dat K H d x ∧ okD n d ∧ ∀ H', Same H H' → Q (.bl (valD d)) H'
theorem ok_is_value (T : Txt K mg) : Def P w K mg base 3 "is_value" ["thing"] (sp_val K) := by
  refine T.t_is_value.ok sc_is_value (fun vs H Q E h => ?_) fun f cdv A outer s H vs Q E hr h => ?_
  · obtain ⟨x, d, n, rfl, _⟩ := h
    rfl
  · obtain ⟨x, d, n, rfl, hd, hz, k⟩ := h
    refine ⟨_, (pss_one (ps_ret (pe_or (pe_def (ok_is_whole T) hr rfl (pa_1 (pv 0))) (pe_one (pe_def (ok_is_word T) hr rfl (pa_1 (pv 0))))))), ?_⟩
    refine ⟨_, rfl, _, d, rfl, hd, _, rfl, ite2 (fun h1 => ?_) (fun h1 => ?_)⟩
    · have := k H (Same.refl H)
      rw [valD, h1] at this
      exact this
    · refine ⟨_, rfl, _, d, n, rfl, hd, hz, fun H' s' => ?_⟩
      have := k H' s'
      rw [valD, Bool.eq_false_iff.mpr h1] at this
      exact this
end
end Wy
namespace Wy
open PySem L2
section
variable {P : Program} {w : World} {K : PySem.W.Frag} {mg : Str → Option Value} {base : Heap}
theorem dats_get {K : PySem.W.Frag} {H : Hp} : ∀ {ds : List PyData} {xs : List V} {i : Nat} {x : V}, Dats K H ds xs → xs[i]? = some x → ∃ d, ds[i]? = some d ∧ Dat K H d x
  | _, _, i, x, .nil, h => by simp at h
  | _, _, 0, x, .cons a b, h => by
    simp at h
    subst h
    exact ⟨_, rfl, a⟩
  | _, _, i + 1, x, .cons a b, h => by
    obtain ⟨d, e, r⟩ := dats_get (i := i) (x := x) b (by simpa using h)
    exact ⟨d, by simpa using e, r⟩
theorem dats_len {K : PySem.W.Frag} {H : Hp} : ∀ {ds : List PyData} {xs : List V}, Dats K H ds xs → ds.length = xs.length
  | _, _, .nil => rfl
  | _, _, .cons a b => by rw [List.length_cons, List.length_cons, dats_len b]
theorem dat_tup {K : PySem.W.Frag} {H : Hp} {d : PyData} {x : V} (h : Dat K H d x) : (∃ a xs ds, d = .tuple ds ∧ x = .ref a ∧ SqT K H a xs ∧ Dats K H ds xs) ∨ (tyIs (tyD d) "tuple" = false ∧ rowD d = false) := by
  cases h with
  | tup a b => exact .inl ⟨_, _, _, rfl, rfl, a, b⟩
  | non => exact .inr ⟨rfl, rfl⟩
  | bl _ => exact .inr ⟨rfl, rfl⟩
  | int _ => exact .inr ⟨rfl, rfl⟩
  | str _ _ => exact .inr ⟨rfl, rfl⟩
  | lst _ _ => exact .inr ⟨rfl, rfl⟩
theorem okD_tup {n : Nat} {ds : List PyData} (h : okD n (.tuple ds)) : ∃ m, ds.length ≤ 10 ∧ ∀ e ∈ ds, okD m e := by
  cases n with
  | zero => exact absurd h id
  | succ n => exact ⟨n, h⟩
def sp_row (K : PySem.W.Frag) : Sp := fun vs H Q _ => ∃ x d n, vs = [x] ∧ Dat K H d x ∧ okD n d ∧ ∀ H', Same H H' → Q (.bl (rowD d)) H'
theorem ok_is_row (T : Txt K mg) : Def P w K mg base 4 "is_row" ["thing"] (sp_row K) := by
  refine T.t_is_row.ok sc_is_row (fun vs H Q E h => ?_) fun f cdv A outer s H vs Q E hr h => ?_
  · obtain ⟨x, d, n, rfl, _⟩ := h
    rfl
  · obtain ⟨x, d, n, rfl, hd, hz, k⟩ := h
    refine ⟨_, (pss_2
      (ps_if (PW.pt (pw_or (pt_not (pt_val (pe_callB (call_isiD K) rfl T.b_isinstance bt_isinstance (pa_2 (pv 0) (pe_ty rfl T.b_tuple bt_tuple))))) (pw_or1 (pt_cmpR op_gt (pe_callB (call_lenK K) rfl T.b_len bt_len (pa_1 (pv 0))) (pe_gI rfl T.c_MOST_VALUES) (nomark _))))) (pss_one (ps_ret pe_bl)) pss_nil)
      (ps_ret (pe_callB (call_allL rfl K) rfl T.b_all bt_all (pa_1 (pe_comp (N := ["part"]) (caps := [none]) rfl (by with_unfolding_all rfl) (pi_tupK K (pv 0)) (fun _ _ _ _ _ => (pg_name (i := 0) (show (["part"] : List Str).Nodup by decide +kernel) rfl (Or.inl rfl))) (fun _ _ _ _ _ => pf_nil) (fun _ _ _ _ _ => (pe_def (ok_is_value T) hr rfl (pa_1 (pv 0))))))))), ?_⟩
    rcases dat_tup hd with ⟨a, xs, ds, rfl, rfl, ht, hds⟩ | ⟨ty, hn⟩
    · obtain ⟨m, hl, hm⟩ := okD_tup hz
      have el := dats_len hds
      refine ⟨_, rfl, _, _, _, rfl, hd, by decide, _, rfl, ?_⟩
      refine iteFb (show (!tyIs "tuple" "tuple") = false by decide) ?_
      refine ⟨_, rfl, _, _, rfl, .inr ⟨_, ht, rfl⟩, _, _, rfl, rfl, _, rfl, ?_⟩
      refine ite2 (fun h1 => ?_) (fun h1 => ?_)
      · have h1' : ¬ ds.length ≤ 4 := by simp at h1; omega
        have := k H (Same.refl H)
        rw [rowD, decide_eq_false h1', Bool.false_and] at this
        exact this
      · have h1' : ds.length ≤ 4 := by simp at h1; omega
        refine ⟨_, rfl, a, rfl, ⟨_, ht⟩, fun D hD => ?_⟩
        refine comp_by xs.length (fun i σ' H' => (∃ v, σ' = [v]) ∧ Same H H' ∧ H' D = some (.lst (((ds.take i).map valD).map V.bl))) ⟨⟨_, rfl⟩, same_upd hD, upd_same⟩ (fun i σ' H' hi p => ?_) (fun σ' H' p => ⟨?_, ?_⟩) (fun i σ' H' hi p x H2 y => ?_)
        · obtain ⟨_, sm, _⟩ := p
          exact ⟨xs, xs[i], sm.seqT ht, List.getElem?_eq_getElem hi⟩
        · obtain ⟨_, sm, _⟩ := p
          exact ⟨xs, sm.seqT ht, Nat.le_refl _⟩
        · obtain ⟨_, sm, e⟩ := p
          refine ⟨D, ds.map valD, rfl, SqL.of (by rw [e, ← el, List.take_length]), ?_⟩
          have := k H' sm
          rw [rowD, decide_eq_true h1', Bool.true_and] at this
          rw [List.all_map]
          exact this
        · obtain ⟨⟨v, rfl⟩, sm, e⟩ := p
          obtain ⟨rfl, hx⟩ := y
          obtain ⟨d, hdi, hdx⟩ := dats_get (Dats.same sm _ _ hds) (hx xs (sm.seqT ht))
          refine ⟨_, rfl, x, d, m, rfl, hdx, hm d (List.mem_of_getElem? hdi), fun H3 s3 => ⟨_, s3 _ _ e, ?_, ⟨_, rfl⟩, (sm.trans s3).set hD, ?_⟩⟩
          · rw [List.length_map, List.length_map, List.length_take]
            exact small1000 (by omega)
          · rw [upd_same, List.take_succ, hdi, List.map_append, List.map_append]
            rfl
    · refine ⟨_, rfl, _, _, _, rfl, hd, by decide, _, rfl, ?_⟩
      refine iteTb (by rw [ty]; rfl) ?_
      have := k H (Same.refl H)
      rw [hn] at this
      exact this
end
end Wy
namespace Wy
open PySem L2
section
variable {P : Program} {w : World} {K : PySem.W.Frag} {mg : Str → Option Value} {base : Heap}
def sp_cell (K : PySem.W.Frag) : Sp := fun vs H Q _ => ∃ (a : Addr) (ns : List Int) (k : Int), vs = [.ref a, .int k] ∧ SqL K H a (ns.map V.int) ∧ 0 ≤ k ∧ Q (.int (ns.getD k.toNat 0)) H
theorem ok__law_cell_at (T : Txt K mg) : Def P w K mg base 1 "_law_cell_at" ["_law_script", "_law_k"] (sp_cell K) := by
  refine T.t__law_cell_at.ok sc__law_cell_at (fun vs H Q E h => ?_) fun f cdv A outer s H vs Q E hr h => ?_
  · obtain ⟨a, ns, k, rfl, _⟩ := h
    rfl
  · obtain ⟨a, ns, k, rfl, hS, h0, q⟩ := h
    refine ⟨_, (pss_2
      (ps_if (pt_cmpR op_lt (pv 1) (pe_callB (call_lenK K) rfl T.b_len bt_len (pa_1 (pv 0))) (nomark _)) (pss_one (ps_ret (pe_ix (ix_listK K) (pv 0) (pv 1) (fun _ _ => rfl)))) pss_nil)
      (ps_ret pe_int)), ?_⟩
    refine ⟨_, rfl, _, rfl, _, _, rfl, .inl ⟨_, hS, rfl⟩, _, _, rfl, rfl, _, rfl, ?_⟩
    rw [List.length_map]
    refine ite2 (fun h1 => ?_) (fun h1 => ?_)
    · have h1' : k < ns.length := by simpa using h1
      have hk : k.toNat < ns.length := by omega
      refine ⟨_, rfl, _, rfl, _, _, _, V.int (ns.getD k.toNat 0), rfl, rfl, hS, ?_, q⟩
      rw [atI_lt h0 (by rw [List.length_map]; exact h1'), List.getElem?_map, List.getElem?_eq_getElem hk, getD_lt hk]
      rfl
    · have h1' : ¬ k < ns.length := by simpa using h1
      have e : ns.getD k.toNat 0 = 0 := by
        exact getD_ge (by omega)
      rw [e] at q
      exact q
end
end Wy
namespace Wy
open PySem L2
def capS : Str := "ABCDEFGHIJKLMNOPQRSTUVWXYZ"
def termB (d : PyData) : Bool := valD d || txtD capS d
def upJ (d : PyData) (m : Int) : Bool := match d with
  | .tuple ds => decide ((ds.length : Int) ≤ m)
  | _ => false
def tupJ (d : PyData) (m : Int) : Bool := match d with
  | .tuple ds => decide ((ds.length : Int) = m)
  | _ => false
def upD (m : Nat) (f : PyData → Bool) : PyData → Bool
  | .tuple ds => decide (ds.length ≤ m) && ds.all f
  | _ => false
def termsB : PyData → Bool := upD 4 termB
def atomB : PyData → Bool
  | .tuple [a, b] => txtD small a && termsB b
  | _ => false
def atomsB : PyData → Bool := upD 3 atomB
def signB (d : PyData) : Bool := [PyData.str "=", .str "!=", .str "<"].any fun y => PyData.eqv y d
def choiceB : PyData → Bool
  | .tuple [s, a, b] => signB s && (termB a && termB b)
  | _ => false
def choicesB : PyData → Bool := upD 3 choiceB
theorem dI (a b : Int) : decide (V.int a = V.int b) = decide (a = b) := decide_eq_decide.mpr ⟨fun h => by injection h, fun h => by rw [h]⟩
theorem dat_tup2 {K : PySem.W.Frag} {H : Hp} {d : PyData} {x : V} (h : Dat K H d x) : (∃ a xs ds, d = .tuple ds ∧ x = .ref a ∧ SqT K H a xs ∧ Dats K H ds xs) ∨ (tyIs (tyD d) "tuple" = false ∧ (∀ ds, d ≠ .tuple ds)) := by
  cases h with
  | tup a b => exact .inl ⟨_, _, _, rfl, rfl, a, b⟩
  | non => exact .inr ⟨rfl, fun _ z => nomatch z⟩
  | bl _ => exact .inr ⟨rfl, fun _ z => nomatch z⟩
  | int _ => exact .inr ⟨rfl, fun _ z => nomatch z⟩
  | str _ _ => exact .inr ⟨rfl, fun _ z => nomatch z⟩
  | lst _ _ => exact .inr ⟨rfl, fun _ z => nomatch z⟩
theorem upJ_no {d : PyData} {m : Int} (h : ∀ ds, d ≠ .tuple ds) : upJ d m = false := by
  cases d with
  | tuple ds => exact absurd rfl (h ds)
  | _ => rfl
theorem tupJ_no {d : PyData} {m : Int} (h : ∀ ds, d ≠ .tuple ds) : tupJ d m = false := by
  cases d with
  | tuple ds => exact absurd rfl (h ds)
  | _ => rfl
theorem dats2 {K : PySem.W.Frag} {H : Hp} {ds : List PyData} {xs : List V} (h : Dats K H ds xs) (e : ds.length = 2) : ∃ a b x y, ds = [a, b] ∧ xs = [x, y] ∧ Dat K H a x ∧ Dat K H b y := by
  match ds, xs, h, e with
  | [a, b], [x, y], .cons h1 (.cons h2 .nil), _ => exact ⟨a, b, x, y, rfl, rfl, h1, h2⟩
theorem dats3 {K : PySem.W.Frag} {H : Hp} {ds : List PyData} {xs : List V} (h : Dats K H ds xs) (e : ds.length = 3) : ∃ a b c x y z, ds = [a, b, c] ∧ xs = [x, y, z] ∧ Dat K H a x ∧ Dat K H b y ∧ Dat K H c z := by
  match ds, xs, h, e with
  | [a, b, c], [x, y, z], .cons h1 (.cons h2 (.cons h3 .nil)), _ => exact ⟨a, b, c, x, y, z, rfl, rfl, h1, h2, h3⟩
theorem atomB_no {d : PyData} (h : tupJ d 2 = false) : atomB d = false := by
  unfold atomB
  split
  · exact absurd h (by unfold tupJ; simp)
  · rfl
theorem choiceB_no {d : PyData} (h : tupJ d 3 = false) : choiceB d = false := by
  unfold choiceB
  split
  · exact absurd h (by unfold tupJ; simp)
  · rfl
section
variable {P : Program} {w : World} {K : PySem.W.Frag} {mg : Str → Option Value} {base : Heap}
def sp_is (K : PySem.W.Frag) (f : PyData → Bool) : Sp := fun vs H Q _ => ∃ x d n, vs = [x] ∧ Dat K H d x ∧ okD n d ∧ ∀ H', Same H H' → Q (.bl (f d)) H'
theorem ok_is_var (T : Txt K mg) : Def P w K mg base 2 "is_var" ["thing"] (sp_is K (txtD capS)) := by
  refine T.t_is_var.ok sc_is_var (fun vs H Q E h => ?_) fun f cdv A outer s H vs Q E hr h => ?_
  · obtain ⟨x, d, n, rfl, _⟩ := h
    rfl
  · obtain ⟨x, d, n, rfl, hd, hz, k⟩ := h
    refine ⟨_, (pss_one (ps_ret (pe_def (ok_is_text_begun_by T) hr rfl (pa_2 (pv 0) (pe_gS rfl T.c_CAPITAL_LETTERS))))), ?_⟩
    exact ⟨_, rfl, _, _, d, n, rfl, hd, hz, k⟩
theorem ok_is_term (T : Txt K mg) : Def P w K mg base 4 "is_term" ["thing"] (sp_is K termB) := by
  refine T.t_is_term.ok sc_is_term (fun vs H Q E h => ?_) fun f cdv A outer s H vs Q E hr h => ?_
  · obtain ⟨x, d, n, rfl, _⟩ := h
    rfl
  · obtain ⟨x, d, n, rfl, hd, hz, k⟩ := h
    refine ⟨_, (pss_one (ps_ret (pe_or (pe_def (ok_is_value T) hr rfl (pa_1 (pv 0))) (pe_one (pe_def (ok_is_var T) hr rfl (pa_1 (pv 0))))))), ?_⟩
    refine ⟨_, rfl, _, d, n, rfl, hd, hz, fun H1 s1 => ⟨_, rfl, ite2 (fun h1 => ?_) (fun h1 => ?_)⟩⟩
    · have := k H1 s1
      rw [termB, h1] at this
      exact this
    · refine ⟨_, rfl, _, d, n, rfl, Dat.same s1 _ _ hd, hz, fun H' s' => ?_⟩
      have := k H' (s1.trans s')
      rw [termB, Bool.eq_false_iff.mpr h1] at this
      exact this
def sp_up (K : PySem.W.Frag) : Sp := fun vs H Q _ => ∃ x d m, vs = [x, .int m] ∧ Dat K H d x ∧ Q (.bl (upJ d m)) H
theorem ok_is_tuple_of_up_to (T : Txt K mg) : Def P w K mg base 1 "is_tuple_of_up_to" ["thing", "most"] (sp_up K) := by
  refine T.t_is_tuple_of_up_to.ok sc_is_tuple_of_up_to (fun vs H Q E h => ?_) fun f cdv A outer s H vs Q E hr h => ?_
  · obtain ⟨x, d, m, rfl, _⟩ := h
    rfl
  · obtain ⟨x, d, m, rfl, hd, k⟩ := h
    refine ⟨_, (pss_one (ps_ret (pe_and (pe_callB (call_isiD K) rfl T.b_isinstance bt_isinstance (pa_2 (pv 0) (pe_ty rfl T.b_tuple bt_tuple))) (pe_one (pe_cmpR op_le (pe_callB (call_lenK K) rfl T.b_len bt_len (pa_1 (pv 0))) (pv 1) (nomark _)))))), ?_⟩
    refine ⟨_, rfl, _, _, _, rfl, hd, by decide, _, rfl, ?_⟩
    rcases dat_tup2 hd with ⟨a, xs, ds, rfl, rfl, ht, hds⟩ | ⟨ty, hn⟩
    · refine iteTb (show tyIs "tuple" "tuple" = true by decide) ?_
      refine ⟨_, rfl, _, _, rfl, .inr ⟨_, ht, rfl⟩, _, rfl, _, _, rfl, rfl, ?_⟩
      rw [← dats_len hds]
      exact k
    · refine iteFb ty ?_
      rw [upJ_no hn] at k
      exact k
def sp_just (K : PySem.W.Frag) : Sp := fun vs H Q _ => ∃ x d m, vs = [x, .int m] ∧ Dat K H d x ∧ Q (.bl (tupJ d m)) H
theorem ok_is_tuple_of_just (T : Txt K mg) : Def P w K mg base 1 "is_tuple_of_just" ["thing", "many"] (sp_just K) := by
  refine T.t_is_tuple_of_just.ok sc_is_tuple_of_just (fun vs H Q E h => ?_) fun f cdv A outer s H vs Q E hr h => ?_
  · obtain ⟨x, d, m, rfl, _⟩ := h
    rfl
  · obtain ⟨x, d, m, rfl, hd, k⟩ := h
    refine ⟨_, (pss_one (ps_ret (pe_and (pe_callB (call_isiD K) rfl T.b_isinstance bt_isinstance (pa_2 (pv 0) (pe_ty rfl T.b_tuple bt_tuple))) (pe_one (pe_cmpR op_eq (pe_callB (call_lenK K) rfl T.b_len bt_len (pa_1 (pv 0))) (pv 1) (nomark _)))))), ?_⟩
    refine ⟨_, rfl, _, _, _, rfl, hd, by decide, _, rfl, ?_⟩
    rcases dat_tup2 hd with ⟨a, xs, ds, rfl, rfl, ht, hds⟩ | ⟨ty, hn⟩
    · refine iteTb (show tyIs "tuple" "tuple" = true by decide) ?_
      refine ⟨_, rfl, _, _, rfl, .inr ⟨_, ht, rfl⟩, _, rfl, rfl, ?_⟩
      rw [dI, ← dats_len hds]
      exact k
    · refine iteFb ty ?_
      rw [tupJ_no hn] at k
      exact k
theorem ok_are_terms (T : Txt K mg) : Def P w K mg base 5 "are_terms" ["thing"] (sp_is K termsB) := by
  refine T.t_are_terms.ok sc_are_terms (fun vs H Q E h => ?_) fun f cdv A outer s H vs Q E hr h => ?_
  · obtain ⟨x, d, n, rfl, _⟩ := h
    rfl
  · obtain ⟨x, d, n, rfl, hd, hz, k⟩ := h
    refine ⟨_, (pss_one (ps_ret (pe_and (pe_def (ok_is_tuple_of_up_to T) hr rfl (pa_2 (pv 0) (pe_gI rfl T.c_MOST_VALUES))) (pe_one (pe_callB (call_allL rfl K) rfl T.b_all bt_all (pa_1 (pe_comp (N := ["part"]) (caps := [none]) rfl (by with_unfolding_all rfl) (pi_tupK K (pv 0)) (fun _ _ _ _ _ => (pg_name (i := 0) (show (["part"] : List Str).Nodup by decide +kernel) rfl (Or.inl rfl))) (fun _ _ _ _ _ => pf_nil) (fun _ _ _ _ _ => (pe_def (ok_is_term T) hr rfl (pa_1 (pv 0))))))))))), ?_⟩
    refine ⟨_, rfl, _, d, _, rfl, hd, _, rfl, ?_⟩
    rcases dat_tup2 hd with ⟨a, xs, ds, rfl, rfl, ht, hds⟩ | ⟨ty, hn⟩
    · obtain ⟨m, hl, hm⟩ := okD_tup hz
      have el := dats_len hds
      refine ite2 (fun h1 => ?_) (fun h1 => ?_)
      · have h1' : ds.length ≤ 4 := by
          have := of_decide_eq_true (show decide ((ds.length : Int) ≤ 4) = true from h1)
          omega
        refine ⟨_, rfl, a, rfl, ⟨_, ht⟩, fun D hD => ?_⟩
        refine comp_by xs.length (fun i σ' H' => (∃ v, σ' = [v]) ∧ Same H H' ∧ H' D = some (.lst (((ds.take i).map termB).map V.bl))) ⟨⟨_, rfl⟩, same_upd hD, upd_same⟩ (fun i σ' H' hi p => ?_) (fun σ' H' p => ⟨?_, ?_⟩) (fun i σ' H' hi p x H2 y => ?_)
        · obtain ⟨_, sm, _⟩ := p
          exact ⟨xs, xs[i], sm.seqT ht, List.getElem?_eq_getElem hi⟩
        · obtain ⟨_, sm, _⟩ := p
          exact ⟨xs, sm.seqT ht, Nat.le_refl _⟩
        · obtain ⟨_, sm, e⟩ := p
          refine ⟨D, ds.map termB, rfl, SqL.of (by rw [e, ← el, List.take_length]), ?_⟩
          have := k H' sm
          rw [termsB, upD, decide_eq_true h1', Bool.true_and] at this
          rw [List.all_map]
          exact this
        · obtain ⟨⟨v, rfl⟩, sm, e⟩ := p
          obtain ⟨rfl, hx⟩ := y
          obtain ⟨d, hdi, hdx⟩ := dats_get (Dats.same sm _ _ hds) (hx xs (sm.seqT ht))
          refine ⟨_, rfl, x, d, m, rfl, hdx, hm d (List.mem_of_getElem? hdi), fun H3 s3 => ⟨_, s3 _ _ e, ?_, ⟨_, rfl⟩, (sm.trans s3).set hD, ?_⟩⟩
          · rw [List.length_map, List.length_map, List.length_take]
            exact small1000 (by omega)
          · rw [upd_same, List.take_succ, hdi, List.map_append, List.map_append]
            rfl
      · have h1' : ¬ ds.length ≤ 4 := fun z => h1 (show decide ((ds.length : Int) ≤ 4) = true from decide_eq_true (by omega))
        have := k H (Same.refl H)
        rw [termsB, upD, decide_eq_false h1', Bool.false_and] at this
        exact this
    · refine iteFb (upJ_no hn) ?_
      have := k H (Same.refl H)
      have e : termsB d = false := by
        cases d with
        | tuple ds => exact absurd rfl (hn ds)
        | _ => rfl
      rw [e] at this
      exact this
theorem ok_is_atom (T : Txt K mg) : Def P w K mg base 6 "is_atom" ["thing"] (sp_is K atomB) := by
  refine T.t_is_atom.ok sc_is_atom (fun vs H Q E h => ?_) fun f cdv A outer s H vs Q E hr h => ?_
  · obtain ⟨x, d, n, rfl, _⟩ := h
    rfl
  · obtain ⟨x, d, n, rfl, hd, hz, k⟩ := h
    refine ⟨_, (pss_one (ps_ret (pe_and (pe_def (ok_is_tuple_of_just T) hr rfl (pa_2 (pv 0) pe_int)) (pe_and (pe_def (ok_is_word T) hr rfl (pa_1 (pe_ix (ix_tupK K) (pv 0) pe_int (fun _ _ => rfl)))) (pe_one (pe_def (ok_are_terms T) hr rfl (pa_1 (pe_ix (ix_tupK K) (pv 0) pe_int (fun _ _ => rfl))))))))), ?_⟩
    refine ⟨_, rfl, _, d, _, rfl, hd, _, rfl, ite2 (fun h1 => ?_) (fun h1 => ?_)⟩
    · rcases dat_tup2 hd with ⟨a, xs, ds, rfl, rfl, ht, hds⟩ | ⟨ty, hn⟩
      · have l2 : ds.length = 2 := by
          have := of_decide_eq_true (show decide ((ds.length : Int) = 2) = true from h1)
          omega
        obtain ⟨d1, d2, x1, x2, rfl, rfl, e1, e2⟩ := dats2 hds l2
        obtain ⟨m, _, hm⟩ := okD_tup hz
        refine ⟨_, rfl, _, _, _, _, rfl, rfl, ht, atI_nat (j := 0) rfl, _, d1, m, rfl, e1, hm _ (by simp), fun H1 s1 => ⟨_, rfl, ite2 (fun h2 => ?_) (fun h2 => ?_)⟩⟩
        · refine ⟨_, rfl, _, _, _, _, rfl, rfl, s1.seqT ht, atI_nat (j := 1) rfl, _, d2, m, rfl, Dat.same s1 _ _ e2, hm _ (by simp), fun H2 s2 => ?_⟩
          have := k H2 (s1.trans s2)
          rw [atomB, h2, Bool.true_and] at this
          exact this
        · have := k H1 s1
          rw [atomB, Bool.eq_false_iff.mpr h2, Bool.false_and] at this
          exact this
      · rw [tupJ_no hn] at h1
        cases h1
    · have := k H (Same.refl H)
      rw [atomB_no (Bool.eq_false_iff.mpr h1)] at this
      exact this
theorem ok_are_atoms (T : Txt K mg) : Def P w K mg base 7 "are_atoms" ["thing"] (sp_is K atomsB) := by
  refine T.t_are_atoms.ok sc_are_atoms (fun vs H Q E h => ?_) fun f cdv A outer s H vs Q E hr h => ?_
  · obtain ⟨x, d, n, rfl, _⟩ := h
    rfl
  · obtain ⟨x, d, n, rfl, hd, hz, k⟩ := h
    refine ⟨_, (pss_one (ps_ret (pe_and (pe_def (ok_is_tuple_of_up_to T) hr rfl (pa_2 (pv 0) (pe_gI rfl T.c_MOST_ATOMS))) (pe_one (pe_callB (call_allL rfl K) rfl T.b_all bt_all (pa_1 (pe_comp (N := ["part"]) (caps := [none]) rfl (by with_unfolding_all rfl) (pi_tupK K (pv 0)) (fun _ _ _ _ _ => (pg_name (i := 0) (show (["part"] : List Str).Nodup by decide +kernel) rfl (Or.inl rfl))) (fun _ _ _ _ _ => pf_nil) (fun _ _ _ _ _ => (pe_def (ok_is_atom T) hr rfl (pa_1 (pv 0))))))))))), ?_⟩
    refine ⟨_, rfl, _, d, _, rfl, hd, _, rfl, ?_⟩
    rcases dat_tup2 hd with ⟨a, xs, ds, rfl, rfl, ht, hds⟩ | ⟨ty, hn⟩
    · obtain ⟨m, hl, hm⟩ := okD_tup hz
      have el := dats_len hds
      refine ite2 (fun h1 => ?_) (fun h1 => ?_)
      · have h1' : ds.length ≤ 3 := by
          have := of_decide_eq_true (show decide ((ds.length : Int) ≤ 3) = true from h1)
          omega
        refine ⟨_, rfl, a, rfl, ⟨_, ht⟩, fun D hD => ?_⟩
        refine comp_by xs.length (fun i σ' H' => (∃ v, σ' = [v]) ∧ Same H H' ∧ H' D = some (.lst (((ds.take i).map atomB).map V.bl))) ⟨⟨_, rfl⟩, same_upd hD, upd_same⟩ (fun i σ' H' hi p => ?_) (fun σ' H' p => ⟨?_, ?_⟩) (fun i σ' H' hi p x H2 y => ?_)
        · obtain ⟨_, sm, _⟩ := p
          exact ⟨xs, xs[i], sm.seqT ht, List.getElem?_eq_getElem hi⟩
        · obtain ⟨_, sm, _⟩ := p
          exact ⟨xs, sm.seqT ht, Nat.le_refl _⟩
        · obtain ⟨_, sm, e⟩ := p
          refine ⟨D, ds.map atomB, rfl, SqL.of (by rw [e, ← el, List.take_length]), ?_⟩
          have := k H' sm
          rw [atomsB, upD, decide_eq_true h1', Bool.true_and] at this
          rw [List.all_map]
          exact this
        · obtain ⟨⟨v, rfl⟩, sm, e⟩ := p
          obtain ⟨rfl, hx⟩ := y
          obtain ⟨d, hdi, hdx⟩ := dats_get (Dats.same sm _ _ hds) (hx xs (sm.seqT ht))
          refine ⟨_, rfl, x, d, m, rfl, hdx, hm d (List.mem_of_getElem? hdi), fun H3 s3 => ⟨_, s3 _ _ e, ?_, ⟨_, rfl⟩, (sm.trans s3).set hD, ?_⟩⟩
          · rw [List.length_map, List.length_map, List.length_take]
            exact small1000 (by omega)
          · rw [upd_same, List.take_succ, hdi, List.map_append, List.map_append]
            rfl
      · have h1' : ¬ ds.length ≤ 3 := fun z => h1 (show decide ((ds.length : Int) ≤ 3) = true from decide_eq_true (by omega))
        have := k H (Same.refl H)
        rw [atomsB, upD, decide_eq_false h1', Bool.false_and] at this
        exact this
    · refine iteFb (upJ_no hn) ?_
      have := k H (Same.refl H)
      have e : atomsB d = false := by
        cases d with
        | tuple ds => exact absurd rfl (hn ds)
        | _ => rfl
      rw [e] at this
      exact this
theorem ok_is_choice (T : Txt K mg) : Def P w K mg base 5 "is_choice" ["thing"] (sp_is K choiceB) := by
  refine T.t_is_choice.ok sc_is_choice (fun vs H Q E h => ?_) fun f cdv A outer s H vs Q E hr h => ?_
  · obtain ⟨x, d, n, rfl, _⟩ := h
    rfl
  · obtain ⟨x, d, n, rfl, hd, hz, k⟩ := h
    refine ⟨_, (pss_one (ps_ret (pe_and (pe_def (ok_is_tuple_of_just T) hr rfl (pa_2 (pv 0) pe_int)) (pe_and (pe_cmpR (op_inTD hr.units K) (pe_ix (ix_tupK K) (pv 0) pe_int (fun _ _ => rfl)) (pe_globR rfl T.g_SIGNS) (by with_unfolding_all rfl)) (pe_and (pe_def (ok_is_term T) hr rfl (pa_1 (pe_ix (ix_tupK K) (pv 0) pe_int (fun _ _ => rfl)))) (pe_one (pe_def (ok_is_term T) hr rfl (pa_1 (pe_ix (ix_tupK K) (pv 0) pe_int (fun _ _ => rfl)))))))))), ?_⟩
    refine ⟨_, rfl, _, d, _, rfl, hd, _, rfl, ite2 (fun h1 => ?_) (fun h1 => ?_)⟩
    · rcases dat_tup2 hd with ⟨a, xs, ds, rfl, rfl, ht, hds⟩ | ⟨ty, hn⟩
      · have l3 : ds.length = 3 := by
          have := of_decide_eq_true (show decide ((ds.length : Int) = 3) = true from h1)
          omega
        obtain ⟨d1, d2, d3, x1, x2, x3, rfl, rfl, e1, e2, e3⟩ := dats3 hds l3
        obtain ⟨m, _, hm⟩ := okD_tup hz
        have ds3 : Dat K H (.tuple [.str "=", .str "!=", .str "<"]) (.ref (cA mg "SIGNS")) := .tup (T.q_SIGNS.sq H) (.cons (.str _ (by decide +kernel)) (.cons (.str _ (by decide +kernel)) (.cons (.str _ (by decide +kernel)) .nil)))
        refine ⟨_, rfl, _, _, _, _, rfl, rfl, ht, atI_nat (j := 0) rfl, d1, _, e1, ds3, by decide, _, rfl, ite2 (fun h2 => ?_) (fun h2 => ?_)⟩
        · refine ⟨_, rfl, _, _, _, _, rfl, rfl, ht, atI_nat (j := 1) rfl, _, d2, m, rfl, e2, hm _ (by simp), fun H1 s1 => ⟨_, rfl, ite2 (fun h3 => ?_) (fun h3 => ?_)⟩⟩
          · refine ⟨_, rfl, _, _, _, _, rfl, rfl, s1.seqT ht, atI_nat (j := 2) rfl, _, d3, m, rfl, Dat.same s1 _ _ e3, hm _ (by simp), fun H2 s2 => ?_⟩
            have := k H2 (s1.trans s2)
            rw [choiceB, show signB d1 = true from h2, h3, Bool.true_and, Bool.true_and] at this
            exact this
          · have := k H1 s1
            rw [choiceB, show signB d1 = true from h2, Bool.eq_false_iff.mpr h3, Bool.false_and, Bool.and_false] at this
            exact this
        · have := k H (Same.refl H)
          rw [choiceB, show signB d1 = false from Bool.eq_false_iff.mpr h2, Bool.false_and] at this
          exact this
      · rw [tupJ_no hn] at h1
        cases h1
    · have := k H (Same.refl H)
      rw [choiceB_no (Bool.eq_false_iff.mpr h1)] at this
      exact this
theorem ok_are_choices (T : Txt K mg) : Def P w K mg base 6 "are_choices" ["thing"] (sp_is K choicesB) := by
  refine T.t_are_choices.ok sc_are_choices (fun vs H Q E h => ?_) fun f cdv A outer s H vs Q E hr h => ?_
  · obtain ⟨x, d, n, rfl, _⟩ := h
    rfl
  · obtain ⟨x, d, n, rfl, hd, hz, k⟩ := h
    refine ⟨_, (pss_one (ps_ret (pe_and (pe_def (ok_is_tuple_of_up_to T) hr rfl (pa_2 (pv 0) (pe_gI rfl T.c_MOST_CHOICES))) (pe_one (pe_callB (call_allL rfl K) rfl T.b_all bt_all (pa_1 (pe_comp (N := ["part"]) (caps := [none]) rfl (by with_unfolding_all rfl) (pi_tupK K (pv 0)) (fun _ _ _ _ _ => (pg_name (i := 0) (show (["part"] : List Str).Nodup by decide +kernel) rfl (Or.inl rfl))) (fun _ _ _ _ _ => pf_nil) (fun _ _ _ _ _ => (pe_def (ok_is_choice T) hr rfl (pa_1 (pv 0))))))))))), ?_⟩
    refine ⟨_, rfl, _, d, _, rfl, hd, _, rfl, ?_⟩
    rcases dat_tup2 hd with ⟨a, xs, ds, rfl, rfl, ht, hds⟩ | ⟨ty, hn⟩
    · obtain ⟨m, hl, hm⟩ := okD_tup hz
      have el := dats_len hds
      refine ite2 (fun h1 => ?_) (fun h1 => ?_)
      · have h1' : ds.length ≤ 3 := by
          have := of_decide_eq_true (show decide ((ds.length : Int) ≤ 3) = true from h1)
          omega
        refine ⟨_, rfl, a, rfl, ⟨_, ht⟩, fun D hD => ?_⟩
        refine comp_by xs.length (fun i σ' H' => (∃ v, σ' = [v]) ∧ Same H H' ∧ H' D = some (.lst (((ds.take i).map choiceB).map V.bl))) ⟨⟨_, rfl⟩, same_upd hD, upd_same⟩ (fun i σ' H' hi p => ?_) (fun σ' H' p => ⟨?_, ?_⟩) (fun i σ' H' hi p x H2 y => ?_)
        · obtain ⟨_, sm, _⟩ := p
          exact ⟨xs, xs[i], sm.seqT ht, List.getElem?_eq_getElem hi⟩
        · obtain ⟨_, sm, _⟩ := p
          exact ⟨xs, sm.seqT ht, Nat.le_refl _⟩
        · obtain ⟨_, sm, e⟩ := p
          refine ⟨D, ds.map choiceB, rfl, SqL.of (by rw [e, ← el, List.take_length]), ?_⟩
          have := k H' sm
          rw [choicesB, upD, decide_eq_true h1', Bool.true_and] at this
          rw [List.all_map]
          exact this
        · obtain ⟨⟨v, rfl⟩, sm, e⟩ := p
          obtain ⟨rfl, hx⟩ := y
          obtain ⟨d, hdi, hdx⟩ := dats_get (Dats.same sm _ _ hds) (hx xs (sm.seqT ht))
          refine ⟨_, rfl, x, d, m, rfl, hdx, hm d (List.mem_of_getElem? hdi), fun H3 s3 => ⟨_, s3 _ _ e, ?_, ⟨_, rfl⟩, (sm.trans s3).set hD, ?_⟩⟩
          · rw [List.length_map, List.length_map, List.length_take]
            exact small1000 (by omega)
          · rw [upd_same, List.take_succ, hdi, List.map_append, List.map_append]
            rfl
      · have h1' : ¬ ds.length ≤ 3 := fun z => h1 (show decide ((ds.length : Int) ≤ 3) = true from decide_eq_true (by omega))
        have := k H (Same.refl H)
        rw [choicesB, upD, decide_eq_false h1', Bool.false_and] at this
        exact this
    · refine iteFb (upJ_no hn) ?_
      have := k H (Same.refl H)
      have e : choicesB d = false := by
        cases d with
        | tuple ds => exact absurd rfl (hn ds)
        | _ => rfl
      rw [e] at this
      exact this
end
end Wy
namespace Wy
open PySem L2
theorem cap_lt : ∀ c ∈ capS.cps.toList, c < 0x110000 := by decide +kernel
theorem fur_lt : ∀ c ∈ fur.cps.toList, c < 0x110000 := by decide +kernel
theorem strOk_of {z : Str} (h : ∀ c ∈ z.cps.toList, c < 0x110000) : PyData.strOk z = true := by
  unfold PyData.strOk
  rw [← Array.all_toList, List.all_eq_true]
  exact fun c hc => decide_eq_true (h c hc)
theorem txtB_parts {F z : Str} (h : txtB F z = true) : 1 ≤ z.length ∧ z.length ≤ 12 ∧ ∃ c r, z.cps.toList = c :: r ∧ c ∈ F.cps.toList ∧ ∀ d ∈ r, d ∈ fur.cps.toList := by
  by_cases hl : 1 ≤ z.length ∧ z.length ≤ 12
  · obtain ⟨c, r, e⟩ := split_list hl.1
    rw [txtB_ok hl.1 hl.2, e] at h
    have h' : (decide (c ∈ F.cps.toList) && r.all fun d => decide (d ∈ fur.cps.toList)) = true := h
    rw [Bool.and_eq_true, List.all_eq_true] at h'
    exact ⟨hl.1, hl.2, c, r, e, of_decide_eq_true h'.1, fun d hd => of_decide_eq_true (h'.2 d hd)⟩
  · rw [txtB_len hl] at h
    cases h
theorem txtB_str {F z : Str} (hF : ∀ c ∈ F.cps.toList, c < 0x110000) (h : txtB F z = true) : PyData.strOk z = true := by
  obtain ⟨_, _, c, r, e, hc, hr⟩ := txtB_parts h
  refine strOk_of fun d hd => ?_
  rw [e] at hd
  rcases List.mem_cons.mp hd with rfl | hd
  · exact hF _ hc
  · exact fur_lt d (hr d hd)
def var? : PyData → List Str
  | .str z => if txtB capS z = true then [z] else []
  | _ => []
def vnames (ds : List PyData) : List Str := ds.flatMap var?
theorem vn_ok {ds : List PyData} : ∀ z ∈ vnames ds, txtB capS z = true := fun z hz => by
  obtain ⟨d, _, h⟩ := List.mem_flatMap.mp hz
  unfold var? at h
  split at h
  · split at h
    · rw [List.mem_singleton.mp h]
      assumption
    · cases h
  · cases h
theorem vn_step {ds : List PyData} {i : Nat} {d : PyData} (h : ds[i]? = some d) : vnames (ds.take (i + 1)) = vnames (ds.take i) ++ var? d := by
  unfold vnames
  rw [List.take_succ, h, List.flatMap_append]
  congr 1
  show [d].flatMap var? = _
  rw [List.flatMap_cons, List.flatMap_nil, List.append_nil]
theorem vn_len (ds : List PyData) : (vnames ds).length ≤ ds.length := by
  induction ds with
  | nil => exact Nat.le_refl _
  | cons d ds ih =>
    have h1 : (var? d).length ≤ 1 := by
      unfold var?
      split
      · split
        · exact Nat.le_refl _
        · exact Nat.zero_le _
      · exact Nat.zero_le _
    unfold vnames at ih ⊢
    rw [List.flatMap_cons, List.length_append, List.length_cons]
    omega
def atomVars : PyData → List Str
  | .tuple [_, .tuple ts] => vnames ts
  | _ => []
def bodyVars (as : List PyData) : List Str := as.flatMap atomVars
theorem bv_ok {as : List PyData} : ∀ z ∈ bodyVars as, txtB capS z = true := fun z hz => by
  obtain ⟨d, _, h⟩ := List.mem_flatMap.mp hz
  unfold atomVars at h
  split at h
  · exact vn_ok z h
  · cases h
theorem bv_step {as : List PyData} {i : Nat} {d : PyData} (h : as[i]? = some d) : bodyVars (as.take (i + 1)) = bodyVars (as.take i) ++ atomVars d := by
  unfold bodyVars
  rw [List.take_succ, h, List.flatMap_append]
  congr 1
  show [d].flatMap atomVars = _
  rw [List.flatMap_cons, List.flatMap_nil, List.append_nil]
def knownB (ds : List PyData) (ks : List Str) : Bool := (vnames ds).all fun z => decide (z ∈ ks)
def chKnown (ks : List Str) : PyData → Bool
  | .tuple (_ :: r) => knownB r ks
  | _ => true
def parts : PyData → List PyData
  | .tuple ds => ds
  | _ => []
def headKnown (ks : List Str) : PyData → Bool
  | .tuple [_, .tuple ts] => knownB ts ks
  | _ => true
def ruleB : PyData → Bool
  | .tuple [h, b, c] => atomB h && (atomsB b && (choicesB c && (headKnown (bodyVars (parts b)) h && (parts c).all (chKnown (bodyVars (parts b))))))
  | _ => false
theorem ruleB_no {d : PyData} (h : tupJ d 3 = false) : ruleB d = false := by
  unfold ruleB
  split
  · exact absurd h (by unfold tupJ; simp)
  · rfl
theorem upD_parts {m : Nat} {f : PyData → Bool} {d : PyData} (h : upD m f d = true) : ∃ ds, d = .tuple ds ∧ ds.length ≤ m ∧ ∀ e ∈ ds, f e = true := by
  cases d with
  | tuple ds =>
    have h' : (decide (ds.length ≤ m) && ds.all f) = true := h
    rw [Bool.and_eq_true, List.all_eq_true] at h'
    exact ⟨ds, rfl, of_decide_eq_true h'.1, h'.2⟩
  | _ => cases h
theorem atomB_parts {d : PyData} (h : atomB d = true) : ∃ a ts, d = .tuple [a, .tuple ts] ∧ txtD small a = true ∧ ts.length ≤ 4 ∧ ∀ e ∈ ts, termB e = true := by
  unfold atomB at h
  split at h
  · rw [Bool.and_eq_true] at h
    obtain ⟨ts, rfl, l, ht⟩ := upD_parts h.2
    exact ⟨_, ts, rfl, h.1, l, ht⟩
  · cases h
theorem choiceB_parts {d : PyData} (h : choiceB d = true) : ∃ s a b, d = .tuple [s, a, b] ∧ signB s = true ∧ termB a = true ∧ termB b = true := by
  unfold choiceB at h
  split at h
  · rw [Bool.and_eq_true, Bool.and_eq_true] at h
    exact ⟨_, _, _, rfl, h⟩
  · cases h
theorem eqv_str (a b : Str) : PyData.eqv (.str a) (.str b) = decide (a = b) := by
  show (a == b) = _
  by_cases h : a = b <;> simp [h]
theorem any_str (ks : List Str) (z : Str) : ((ks.map PyData.str).any fun y => PyData.eqv y (.str z)) = decide (z ∈ ks) := by
  rw [Bool.eq_iff_iff, List.any_eq_true, decide_eq_true_iff]
  constructor
  · rintro ⟨y, hy, e⟩
    obtain ⟨k, hk, rfl⟩ := List.mem_map.mp hy
    rw [eqv_str] at e
    rw [← of_decide_eq_true e]
    exact hk
  · intro h
    exact ⟨.str z, List.mem_map_of_mem h, by rw [eqv_str]; simp⟩
section
variable {P : Program} {w : World} {K : PySem.W.Frag} {mg : Str → Option Value} {base : Heap}
theorem dats_strs {H : Hp} : ∀ {ks : List Str}, (∀ z ∈ ks, txtB capS z = true) → Dats K H (ks.map .str) (ks.map V.str)
  | [], _ => .nil
  | z :: ks, h => .cons (.str z (txtB_str cap_lt (h z (List.mem_cons_self ..)))) (dats_strs fun y hy => h y (List.mem_cons_of_mem _ hy))
theorem depth_strs (ks : List Str) : PyData.depthAll (ks.map .str) ≤ 0 := by
  induction ks with
  | nil => exact Nat.le_refl _
  | cons z ks ih => exact Nat.max_le.mpr ⟨Nat.le_refl _, ih⟩
def sp_vars (K : PySem.W.Frag) : Sp := fun vs H Q _ => ∃ (a : Addr) (xs : List V) (ds : List PyData) (n : Nat), vs = [.ref a] ∧ SqT K H a xs ∧ Dats K H ds xs ∧ ds.length ≤ 10 ∧ (∀ d ∈ ds, okD n d) ∧ ∀ L H', Same H H' → H L = none → H' L = some (.lst ((vnames ds).map V.str)) → Q (.ref L) H'
theorem ok_variables_in (T : Txt K mg) : Def P w K mg base 3 "variables_in" ["terms"] (sp_vars K) := by
  refine T.t_variables_in.ok sc_variables_in (fun vs H Q E h => ?_) fun f cdv A outer s H vs Q E hr h => ?_
  · obtain ⟨a, xs, ds, n, rfl, _⟩ := h
    rfl
  · obtain ⟨a, xs, ds, n, rfl, ht, hds, hl, hm, k⟩ := h
    have el := dats_len hds
    refine ⟨_, (pss_one (ps_ret (pe_comp (N := ["term"]) (caps := [none]) rfl (by with_unfolding_all rfl) (pi_tupK K (pv 0)) (fun _ _ _ _ _ => (pg_name (i := 0) (show (["term"] : List Str).Nodup by decide +kernel) rfl (Or.inl rfl))) (fun _ _ _ _ _ => pf_one (pt_val (pe_def (ok_is_var T) hr rfl (pa_1 (pv 0))))) (fun _ _ _ _ _ => (pv 0))))), ?_⟩
    refine ⟨_, rfl, a, rfl, ⟨_, ht⟩, fun D hD => ?_⟩
    refine comp_by xs.length (fun i σ' H' => (∃ v, σ' = [v]) ∧ Same H H' ∧ H' D = some (.lst ((vnames (ds.take i)).map V.str))) ⟨⟨_, rfl⟩, same_upd hD, upd_same⟩ (fun i σ' H' hi p => ?_) (fun σ' H' p => ⟨?_, ?_⟩) (fun i σ' H' hi p x H2 y => ?_)
    · obtain ⟨_, sm, _⟩ := p
      exact ⟨xs, xs[i], sm.seqT ht, List.getElem?_eq_getElem hi⟩
    · obtain ⟨_, sm, _⟩ := p
      exact ⟨xs, sm.seqT ht, Nat.le_refl _⟩
    · obtain ⟨_, sm, e⟩ := p
      rw [← el, List.take_length] at e
      exact k D H' sm hD e
    · obtain ⟨⟨v, rfl⟩, sm, e⟩ := p
      obtain ⟨rfl, hx⟩ := y
      obtain ⟨d, hdi, hdx⟩ := dats_get (Dats.same sm _ _ hds) (hx xs (sm.seqT ht))
      refine ⟨_, rfl, x, d, n, rfl, hdx, hm d (List.mem_of_getElem? hdi), fun H3 s3 => ⟨_, rfl, ite2 (fun h1 => ?_) (fun h1 => ?_)⟩⟩
      · rcases dat_str hdx with ⟨z, rfl, rfl⟩ | ⟨_, hn⟩
        · have ez : var? (.str z) = [z] := if_pos h1
          refine ⟨_, rfl, _, s3 _ _ e, ?_, ⟨_, rfl⟩, (sm.trans s3).set hD, ?_⟩
          · have := vn_len (ds.take i)
            rw [List.length_take] at this
            rw [List.length_map]
            exact small1000 (by omega)
          · rw [upd_same, vn_step hdi, ez, List.map_append]
            rfl
        · rw [hn] at h1
          cases h1
      · have ez : var? d = [] := by
          unfold var?
          split
          · exact if_neg h1
          · rfl
        refine ⟨⟨_, rfl⟩, sm.trans s3, ?_⟩
        rw [vn_step hdi, ez, List.append_nil]
        exact s3 _ _ e
def sp_bvars (K : PySem.W.Frag) : Sp := fun vs H Q _ => ∃ (x : V) (ds : List PyData) (n : Nat), vs = [x] ∧ Dat K H (.tuple ds) x ∧ okD n (.tuple ds) ∧ atomsB (.tuple ds) = true ∧ ∀ L H', Same H H' → H L = none → H' L = some (.lst ((bodyVars ds).map V.str)) → Q (.ref L) H'
theorem ok_variables_of_body (T : Txt K mg) : Def P w K mg base 4 "variables_of_body" ["body"] (sp_bvars K) := by
  refine T.t_variables_of_body.ok sc_variables_of_body (fun vs H Q E h => ?_) fun f cdv A outer s H vs Q E hr h => ?_
  · obtain ⟨x, ds, n, rfl, _⟩ := h
    rfl
  · obtain ⟨x, ds, n, rfl, hd, hz, hat, k⟩ := h
    obtain ⟨ds', e0, l3, hat⟩ := upD_parts hat
    cases e0
    obtain ⟨m, _, hm⟩ := okD_tup hz
    cases hd with
    | @tup a xs _ ht hds =>
      have el := dats_len hds
      refine ⟨_, (pss_3
      (ps_set (i := 1) sc_variables_of_body.nd rfl (Or.inl rfl) (pe_lst pa_nil))
      (ps_for PassesOwn.never rfl (pi_tupK K (pv 0)) (pg_tup rfl (pgs_cons (pg_name (i := 2) sc_variables_of_body.nd rfl (Or.inl rfl)) (pgs_cons (pg_name (i := 3) sc_variables_of_body.nd rfl (Or.inl rfl)) pgs_nil))) (pss_one (ps_expr (pe_bm PySem.F.plainAttrs_list PySem.F.slot_list_extend PySem.F.type_list_extend mt_extend (pv 1) (pa_1 (pe_def (ok_variables_in T) hr rfl (pa_1 (pv 3))))))))
      (ps_ret (pv 1))), ?_⟩
      refine ⟨by decide, fun L hL => ?_⟩
      have s1 := same_upd (o := HO.lst []) hL
      refine ⟨_, rfl, a, rfl, ⟨_, s1.seqT ht⟩, for_tup (xs := xs) (fun i σ H' => ∃ v2 v3 : Option V, σ = [some (.ref a), some (.ref L), v2, v3] ∧ Same H H' ∧ H' L = some (.lst ((bodyVars (ds.take i)).map V.str)) ∧ (bodyVars (ds.take i)).length ≤ 10 * i) ⟨none, none, rfl, s1, upd_same, Nat.le_refl _⟩ (fun i σ H' _ p => by obtain ⟨_, _, _, z, _⟩ := p; exact z.seqT ht) ?_ ?_⟩
      · rintro i x σ H1 hx ⟨v2, v3, rfl, sm, hl, lb⟩
        have hil := (List.getElem?_eq_some_iff.mp hx).1
        obtain ⟨d, hdi, hdx⟩ := dats_get hds hx
        obtain ⟨b, ts, rfl, _, l4, _⟩ := atomB_parts (hat d (List.mem_of_getElem? hdi))
        obtain ⟨m2, _, hm2⟩ := okD_tup (hm _ (List.mem_of_getElem? hdi))
        obtain ⟨m3, _, hm3⟩ := okD_tup (hm2 (.tuple ts) (by simp))
        cases hdx with
        | @tup p ys _ hp hys =>
          cases hys with
          | cons h1 hr =>
            cases hr with
            | cons h2 hr2 =>
              cases hr2
              cases h2 with
              | @tup q zs _ hq hzs =>
                refine ⟨p, _, rfl, sm.seqT hp, rfl, _, _, rfl, _, _, rfl, rfl, ?_⟩
                refine ⟨_, rfl, .inl ⟨rfl, _, SqL.of hl⟩, _, rfl, q, zs, ts, m3, rfl, sm.seqT hq, Dats.same sm _ _ hzs, by omega, hm3, fun L2 H2 s2 hL2 h2 => ?_⟩
                have vl := vn_len ts
                refine ⟨L, L2, _, _, rfl, rfl, s2 _ _ hl, h2, ?_, ?_⟩
                · rw [List.length_map, List.length_map]
                  exact Nat.le_trans (show _ ≤ 1000 by omega) (by decide)
                · refine ⟨_, _, rfl, (sm.trans s2).set hL, ?_, ?_⟩
                  · rw [upd_same, bv_step hdi, List.map_append]
                    rfl
                  · rw [bv_step hdi, List.length_append]
                    show _ + (vnames ts).length ≤ _
                    omega
      · rintro σ H1 ⟨v2, v3, rfl, sm, hl, lb⟩
        rw [← el, List.take_length] at hl
        exact ⟨_, rfl, k L H1 sm hL hl⟩
def sp_known (K : PySem.W.Frag) : Sp := fun vs H Q _ => ∃ (a L : Addr) (xs : List V) (ds : List PyData) (n : Nat) (ks : List Str), vs = [.ref a, .ref L] ∧ SqT K H a xs ∧ Dats K H ds xs ∧ ds.length ≤ 10 ∧ (∀ d ∈ ds, okD n d) ∧ H L = some (.lst (ks.map V.str)) ∧ (∀ z ∈ ks, txtB capS z = true) ∧ ∀ H', Same H H' → Q (.bl (knownB ds ks)) H'
theorem ok_are_known (T : Txt K mg) : Def P w K mg base 4 "are_known" ["terms", "known"] (sp_known K) := by
  refine T.t_are_known.ok sc_are_known (fun vs H Q E h => ?_) fun f cdv A outer s H vs Q E hr h => ?_
  · obtain ⟨a, L, xs, ds, n, ks, rfl, _⟩ := h
    rfl
  · obtain ⟨a, L, xs, ds, n, ks, rfl, ht, hds, hl, hm, hL, hks, k⟩ := h
    refine ⟨_, (pss_one (ps_ret (pe_callB (call_allL rfl K) rfl T.b_all bt_all (pa_1 (pe_comp (N := ["variable", "known"]) (caps := [none, some 1]) rfl (by with_unfolding_all rfl) (pi_listK K (pe_def (ok_variables_in T) hr rfl (pa_1 (pv 0)))) (fun _ _ _ _ _ => (pg_name (i := 0) (show (["variable", "known"] : List Str).Nodup by decide +kernel) rfl (Or.inl rfl))) (fun _ _ _ _ _ => pf_nil) (fun _ _ _ _ _ => (pe_cmpR (op_inLD hr.units K) (pv 0) (pv 1) (by with_unfolding_all rfl)))))))), ?_⟩
    refine ⟨_, rfl, a, xs, ds, n, rfl, ht, hds, hl, hm, fun V1 H1 s1 hV0 hV => ?_⟩
    have vl := vn_len ds
    refine ⟨V1, rfl, ⟨_, SqL.of hV⟩, fun D hD => ?_⟩
    refine comp_by ((vnames ds).map V.str).length (fun i σ' H' => (∃ v, σ' = [v, some (.ref L)]) ∧ Same H1 H' ∧ H' D = some (.lst ((((vnames ds).take i).map fun z => decide (z ∈ ks)).map V.bl))) ⟨⟨_, rfl⟩, same_upd hD, upd_same⟩ (fun i σ' H' hi p => ?_) (fun σ' H' p => ⟨?_, ?_⟩) (fun i σ' H' hi p x H2 y => ?_)
    · obtain ⟨_, sm, _⟩ := p
      exact ⟨_, _, SqL.of (sm _ _ hV), List.getElem?_eq_getElem hi⟩
    · obtain ⟨_, sm, _⟩ := p
      exact ⟨_, SqL.of (sm _ _ hV), Nat.le_refl _⟩
    · obtain ⟨_, sm, e⟩ := p
      rw [List.length_map, List.take_length] at e
      refine ⟨D, _, rfl, SqL.of e, ?_⟩
      have := k H' (s1.trans sm)
      rw [List.all_map]
      exact this
    · obtain ⟨⟨v, rfl⟩, sm, e⟩ := p
      obtain ⟨rfl, hx⟩ := y
      have hx' := hx _ (SqL.of (sm _ _ hV))
      rw [List.getElem?_map] at hx'
      obtain ⟨z, hz, rfl⟩ := Option.map_eq_some_iff.mp hx'
      have oz := vn_ok z (List.mem_of_getElem? hz)
      refine ⟨_, rfl, _, rfl, .str z, ks.map .str, .str z (txtB_str cap_lt oz), .lst (SqL.of (sm _ _ (s1 _ _ hL))) (dats_strs hks), Nat.le_trans (depth_strs ks) (by decide), ?_⟩
      rw [any_str]
      refine ⟨_, e, ?_, ⟨_, rfl⟩, sm.set hD, ?_⟩
      · rw [List.length_map, List.length_map, List.length_take]
        exact small1000 (by omega)
      · rw [upd_same, List.take_succ, hz, List.map_append, List.map_append]
        rfl
theorem ok_is_rule (T : Txt K mg) : Def P w K mg base 8 "is_rule" ["thing"] (sp_is K ruleB) := by
  refine T.t_is_rule.ok sc_is_rule (fun vs H Q E h => ?_) fun f cdv A outer s H vs Q E hr h => ?_
  · obtain ⟨x, d, n, rfl, _⟩ := h
    rfl
  · obtain ⟨x, d, n, rfl, hd, hz, k⟩ := h
    refine ⟨_, (pss_4
      (ps_if (pt_not (pt_val (pe_def (ok_is_tuple_of_just T) hr rfl (pa_2 (pv 0) pe_int)))) (pss_one (ps_ret pe_bl)) pss_nil)
      (ps_if (PW.pt (pw_or (pt_not (pt_val (pe_def (ok_is_atom T) hr rfl (pa_1 (pe_ix (ix_tupK K) (pv 0) pe_int (fun _ _ => rfl)))))) (pw_or (pt_not (pt_val (pe_def (ok_are_atoms T) hr rfl (pa_1 (pe_ix (ix_tupK K) (pv 0) pe_int (fun _ _ => rfl)))))) (pw_or1 (pt_not (pt_val (pe_def (ok_are_choices T) hr rfl (pa_1 (pe_ix (ix_tupK K) (pv 0) pe_int (fun _ _ => rfl)))))))))) (pss_one (ps_ret pe_bl)) pss_nil)
      (ps_set (i := 1) sc_is_rule.nd rfl (Or.inr rfl) (pe_def (ok_variables_of_body T) hr rfl (pa_1 (pe_ix (ix_tupK K) (pv 0) pe_int (fun _ _ => rfl)))))
      (ps_ret (pe_and (pe_def (ok_are_known T) hr rfl (pa_2 (pe_ix (ix_tupK K) (pe_ix (ix_tupK K) (pv 0) pe_int (fun _ _ => rfl)) pe_int (fun _ _ => rfl)) (pv 1))) (pe_one (pe_callB (call_allL rfl K) rfl T.b_all bt_all (pa_1 (pe_comp (N := ["choice", "known"]) (caps := [none, some 1]) rfl (by with_unfolding_all rfl) (pi_tupK K (pe_ix (ix_tupK K) (pv 0) pe_int (fun _ _ => rfl))) (fun _ _ _ _ _ => (pg_name (i := 0) (show (["choice", "known"] : List Str).Nodup by decide +kernel) rfl (Or.inl rfl))) (fun _ _ _ _ _ => pf_nil) (fun _ _ _ _ _ => (pe_def (ok_are_known T) hr rfl (pa_2 (pe_slice (sl_tupA K) (pv 0) (po_some pe_int) po_none) (pv 1))))))))))), ?_⟩
    refine ⟨_, rfl, _, d, _, rfl, hd, _, rfl, ite2 (fun h1 => ?_) (fun h1 => ?_)⟩
    · have := k H (Same.refl H)
      rw [ruleB_no (by simpa using h1)] at this
      exact this
    · rcases dat_tup2 hd with ⟨a, xs, ds, rfl, rfl, ht, hds⟩ | ⟨ty, hn⟩
      · have l3 : ds.length = 3 := by
          have : tupJ (.tuple ds) 3 = true := by simpa using h1
          have := of_decide_eq_true (show decide ((ds.length : Int) = 3) = true from this)
          omega
        obtain ⟨d1, d2, d3, x1, x2, x3, rfl, rfl, e1, e2, e3⟩ := dats3 hds l3
        obtain ⟨m, _, hm⟩ := okD_tup hz
        have k' : ∀ H', Same H H' → Q (.bl (atomB d1 && (atomsB d2 && (choicesB d3 && (headKnown (bodyVars (parts d2)) d1 && (parts d3).all (chKnown (bodyVars (parts d2)))))))) H' := k
        refine ⟨_, rfl, _, _, _, _, rfl, rfl, ht, atI_nat (j := 0) rfl, _, d1, m, rfl, e1, hm _ (by simp), fun H1 s1 => ⟨_, rfl, ?_⟩⟩
        cases b1 : atomB d1 with
        | false =>
          refine iteT (iteT ?_)
          have := k' H1 s1
          rw [b1, Bool.false_and] at this
          exact this
        | true =>
          refine iteF ?_
          refine ⟨_, rfl, _, _, _, _, rfl, rfl, s1.seqT ht, atI_nat (j := 1) rfl, _, d2, m, rfl, Dat.same s1 _ _ e2, hm _ (by simp), fun H2 s2 => ⟨_, rfl, ?_⟩⟩
          have t2 := s1.trans s2
          cases b2 : atomsB d2 with
          | false =>
            refine iteT (iteT ?_)
            have := k' H2 t2
            rw [b1, b2, Bool.true_and, Bool.false_and] at this
            exact this
          | true =>
            refine iteF ?_
            refine ⟨_, rfl, _, _, _, _, rfl, rfl, t2.seqT ht, atI_nat (j := 2) rfl, _, d3, m, rfl, Dat.same t2 _ _ e3, hm _ (by simp), fun H3 s3 => ⟨_, rfl, ?_⟩⟩
            have t3 := t2.trans s3
            cases b3 : choicesB d3 with
            | false =>
              refine iteT ?_
              have := k' H3 t3
              rw [b1, b2, b3, Bool.true_and, Bool.true_and, Bool.false_and] at this
              exact this
            | true =>
              refine iteF ?_
              rw [b1, b2, b3, Bool.true_and, Bool.true_and, Bool.true_and] at k'
              obtain ⟨as, rfl, la, _⟩ := upD_parts b2
              obtain ⟨cs, rfl, lc, hcs⟩ := upD_parts b3
              obtain ⟨tb, ts, rfl, _, lts, _⟩ := atomB_parts b1
              have k' : ∀ H', Same H H' → Q (.bl (knownB ts (bodyVars as) && cs.all (chKnown (bodyVars as)))) H' := k'
              refine ⟨_, rfl, _, _, _, _, rfl, rfl, t3.seqT ht, atI_nat (j := 1) rfl, _, as, m, rfl, Dat.same t3 _ _ e2, hm _ (by simp), b2, fun L H4 s4 hL0 hL => ?_⟩
              have t4 := t3.trans s4
              obtain ⟨m2, _, hm2⟩ := okD_tup (hm (.tuple [tb, .tuple ts]) (by simp))
              obtain ⟨m3, _, hm3⟩ := okD_tup (hm2 (.tuple ts) (by simp))
              obtain ⟨m4, _, hm4⟩ := okD_tup (hm (.tuple cs) (by simp))
              cases e1 with
              | @tup p1 ys _ hp hys =>
                cases hys with
                | cons y1 hr1 =>
                  cases hr1 with
                  | cons y2 hr2 =>
                    cases hr2
                    cases y2 with
                    | @tup q1 zs _ hq hzs =>
                      cases e3 with
                      | @tup c1 ws _ hc hcw =>
                        have el := dats_len hcw
                        refine ⟨_, rfl, _, _, _, _, rfl, rfl, t4.seqT ht, atI_nat (j := 0) rfl, _, _, _, _, rfl, rfl, t4.seqT hp, atI_nat (j := 1) rfl, _, rfl, q1, L, zs, ts, m3, bodyVars as, rfl, t4.seqT hq, Dats.same t4 _ _ hzs, by omega, hm3, hL, bv_ok, fun H5 s5 => ⟨_, rfl, ?_⟩⟩
                        have t5 := t4.trans s5
                        cases b5 : knownB ts (bodyVars as) with
                        | false =>
                          refine iteF ?_
                          have := k' H5 t5
                          rw [b5, Bool.false_and] at this
                          exact this
                        | true =>
                          refine iteT ?_
                          refine ⟨_, rfl, _, _, _, _, rfl, rfl, t5.seqT ht, atI_nat (j := 2) rfl, c1, rfl, ⟨_, t5.seqT hc⟩, fun D hD => ?_⟩
                          refine comp_by ws.length (fun i σ' H' => (∃ v, σ' = [v, some (.ref L)]) ∧ Same H5 H' ∧ H' D = some (.lst (((cs.take i).map (chKnown (bodyVars as))).map V.bl))) ⟨⟨_, rfl⟩, same_upd hD, upd_same⟩ (fun i σ' H' hi p => ?_) (fun σ' H' p => ⟨?_, ?_⟩) (fun i σ' H' hi p x H6 y => ?_)
                          · obtain ⟨_, sm, _⟩ := p
                            exact ⟨_, _, (t5.trans sm).seqT hc, List.getElem?_eq_getElem hi⟩
                          · obtain ⟨_, sm, _⟩ := p
                            exact ⟨_, (t5.trans sm).seqT hc, Nat.le_refl _⟩
                          · obtain ⟨_, sm, e⟩ := p
                            rw [← el, List.take_length] at e
                            refine ⟨D, _, rfl, SqL.of e, ?_⟩
                            have := k' H' (t5.trans sm)
                            rw [b5, Bool.true_and] at this
                            rw [List.all_map]
                            exact this
                          · obtain ⟨⟨v, rfl⟩, sm, e⟩ := p
                            obtain ⟨rfl, hx⟩ := y
                            have t6 := t5.trans sm
                            obtain ⟨d, hdi, hdx⟩ := dats_get (Dats.same t6 _ _ hcw) (hx ws (t6.seqT hc))
                            obtain ⟨s0, a0, b0, rfl, _⟩ := choiceB_parts (hcs d (List.mem_of_getElem? hdi))
                            obtain ⟨m5, _, hm5⟩ := okD_tup (hm4 _ (List.mem_of_getElem? hdi))
                            cases hdx with
                            | @tup p2 us _ hp2 hus =>
                              cases hus with
                              | cons u1 ur =>
                                cases ur with
                                | cons u2 ur2 =>
                                  cases ur2 with
                                  | cons u3 ur3 =>
                                    cases ur3
                                    refine ⟨_, rfl, _, rfl, _, _, rfl, hp2, fun q2 H7 s7 hq2 => ?_⟩
                                    refine ⟨_, rfl, q2, L, _, [a0, b0], m5, bodyVars as, rfl, hq2, Dats.same s7 _ _ (.cons u2 (.cons u3 .nil)), by show 2 ≤ 10; decide, (fun d hd => hm5 d (by simp at hd ⊢; exact .inr hd)), (s5.trans (sm.trans s7)) _ _ hL, bv_ok, fun H8 s8 => ?_⟩
                                    have sm8 := sm.trans (s7.trans s8)
                                    refine ⟨_, (s7.trans s8) _ _ e, ?_, ⟨_, rfl⟩, sm8.set hD, ?_⟩
                                    · rw [List.length_map, List.length_map, List.length_take]
                                      exact small1000 (by omega)
                                    · rw [upd_same, List.take_succ, hdi, List.map_append, List.map_append]
                                      rfl
      · have : tupJ d 3 = false := tupJ_no hn
        exact absurd (by rw [this]; rfl) h1
end
end Wy
namespace Wy
open PySem L2
section
variable {P : Program} {w : World} {K : PySem.W.Frag} {mg : Str → Option Value} {base : Heap}
def factD : PyData → Bool
  | .tuple [a, b, c] => txtD small a && (txtD small b && rowD c)
  | _ => false
theorem factD_no {d : PyData} (h : tupJ d 3 = false) : factD d = false := by
  unfold factD
  split
  · exact absurd h (by unfold tupJ; simp)
  · rfl
def sp_fact (K : PySem.W.Frag) : Sp := fun vs H Q _ => ∃ x d n, vs = [x] ∧ Dat K H d x ∧ okD n d ∧ ∀ H', Same H H' → Q (.bl (factD d)) H'
theorem ok_is_fact (T : Txt K mg) : Def P w K mg base 5 "is_fact" ["thing"] (sp_fact K) := by
  refine T.t_is_fact.ok sc_is_fact (fun vs H Q E h => ?_) fun f cdv A outer s H vs Q E hr h => ?_
  · obtain ⟨x, d, n, rfl, _⟩ := h
    rfl
  · obtain ⟨x, d, n, rfl, hd, hz, k⟩ := h
    refine ⟨_, (pss_2
      (ps_if (pt_not (pt_val (pe_def (ok_is_tuple_of_just T) hr rfl (pa_2 (pv 0) pe_int)))) (pss_one (ps_ret pe_bl)) pss_nil)
      (ps_ret (pe_and (pe_def (ok_is_word T) hr rfl (pa_1 (pe_ix (ix_tupK K) (pv 0) pe_int (fun _ _ => rfl)))) (pe_and (pe_def (ok_is_word T) hr rfl (pa_1 (pe_ix (ix_tupK K) (pv 0) pe_int (fun _ _ => rfl)))) (pe_one (pe_def (ok_is_row T) hr rfl (pa_1 (pe_ix (ix_tupK K) (pv 0) pe_int (fun _ _ => rfl))))))))), ?_⟩
    refine ⟨_, rfl, _, d, _, rfl, hd, _, rfl, ite2 (fun h1 => ?_) (fun h1 => ?_)⟩
    · have := k H (Same.refl H)
      rw [factD_no (by simpa using h1)] at this
      exact this
    · rcases dat_tup hd with ⟨a, xs, ds, rfl, rfl, ht, hds⟩ | ⟨ty, hn⟩
      · have l3 : ds.length = 3 := by
          have : tupJ (.tuple ds) 3 = true := by simpa using h1
          unfold tupJ at this
          have := of_decide_eq_true this
          omega
        obtain ⟨d1, d2, d3, x1, x2, x3, rfl, rfl, e1, e2, e3⟩ := dats3 hds l3
        obtain ⟨m, _, hm⟩ := okD_tup hz
        refine ⟨_, rfl, _, _, _, _, rfl, rfl, ht, atI_nat (j := 0) rfl, _, d1, m, rfl, e1, hm _ (by simp), fun H1 s1 => ⟨_, rfl, ite2 (fun h2 => ?_) (fun h2 => ?_)⟩⟩
        · refine ⟨_, rfl, _, _, _, _, rfl, rfl, s1.seqT ht, atI_nat (j := 1) rfl, _, d2, m, rfl, Dat.same s1 _ _ e2, hm _ (by simp), fun H2 s2 => ⟨_, rfl, ite2 (fun h3 => ?_) (fun h3 => ?_)⟩⟩
          · refine ⟨_, rfl, _, _, _, _, rfl, rfl, (s1.trans s2).seqT ht, atI_nat (j := 2) rfl, _, d3, m, rfl, Dat.same (s1.trans s2) _ _ e3, hm _ (by simp), fun H3 s3 => ?_⟩
            have := k H3 (s1.trans (s2.trans s3))
            rw [factD, h2, h3, Bool.true_and, Bool.true_and] at this
            exact this
          · have := k H2 (s1.trans s2)
            rw [factD, h2, Bool.eq_false_iff.mpr h3, Bool.true_and, Bool.false_and] at this
            exact this
        · have := k H1 s1
          rw [factD, Bool.eq_false_iff.mpr h2, Bool.false_and] at this
          exact this
      · have : tupJ d 3 = false := by
          cases hd with
          | tup a b => exact absurd ty (by show ¬ tyIs "tuple" "tuple" = false; decide)
          | _ => rfl
        exact absurd (by rw [this]; rfl) h1
end
end Wy
namespace Wy
open PySem L2
theorem txtB_le {fs z : Str} (h : txtB fs z = true) : 1 ≤ z.length ∧ z.length ≤ 12 := by
  unfold txtB at h
  simp at h
  omega
def nmD : PyData → Str
  | .tuple (.str z :: _) => z
  | _ => Str.empty
def vetF : List Str → List PyData → Option Bool
  | _, [] => none
  | us, d :: r => if factD d = true then (if nmD d ∈ us then some true else vetF (us ++ [nmD d]) r) else some false
theorem fact_parts {d : PyData} (h : factD d = true) : ∃ z b c, d = .tuple [.str z, b, c] ∧ nmD d = z ∧ txtB small z = true := by
  unfold factD at h
  split at h
  · rename_i a b c
    rw [Bool.and_eq_true] at h
    have h1 := h.1
    unfold txtD at h1
    split at h1
    · exact ⟨_, b, c, rfl, rfl, h1⟩
    · cases h1
  · cases h
theorem val_names {us : List Str} {z : Str} : valV (us.map fun u => ((Sum.inr u : Key), V.bl true)) (.inr z) = if z ∈ us then some (.bl true) else none := by
  induction us with
  | nil => rfl
  | cons u r ih =>
    by_cases e : u = z
    · subst e
      rw [List.map_cons, valV_pos rfl, if_pos (List.mem_cons_self ..)]
    · rw [List.map_cons, valV_neg (fun q => e (Sum.inr.inj q)), ih]
      by_cases q : z ∈ r
      · rw [if_pos q, if_pos (List.mem_cons_of_mem _ q)]
      · rw [if_neg q, if_neg fun h => ?_]
        rcases List.mem_cons.mp h with h | h
        · exact e h.symm
        · exact q h
theorem put_names {us : List Str} {z : Str} (h : z ∉ us) : putK (us.map fun u => ((Sum.inr u : Key), V.bl true)) (.inr z) (.bl true) = (us ++ [z]).map fun u => ((Sum.inr u : Key), V.bl true) := by
  unfold putK
  rw [valV_any, val_names, if_neg h, if_neg (by simp), List.map_append]
  rfl
section
variable {P : Program} {w : World} {K : PySem.W.Frag} {mg : Str → Option Value} {base : Heap}
def sx_vetf (K : PySem.W.Frag) (mg : Str → Option Value) : Sp := fun vs H Q E => ∃ (a : Addr) (xs : List V) (ds : List PyData), vs = [.ref a] ∧ SqL K H a xs ∧ Dats K H ds xs ∧ (∀ d ∈ ds, okD 6 d) ∧ ds.length ≤ 500 ∧
  ∀ H', Same H H' → match vetF [] ds with | none => Q .non H' | some false => E (.ref (cA mg "NoFact")) none H' | some true => E (.ref (cA mg "NoName")) none H'
theorem okX_vet_facts (T : Txt K mg) : DefE P w K mg base 6 "vet_facts" ["facts"] (sx_vetf K mg) := by
  refine T.t_vet_facts.okE sc_vet_facts (fun vs H Q E h => ?_) fun f cdv A outer s H vs Q E hr h => ?_
  · obtain ⟨a, xs, ds, rfl, _⟩ := h
    rfl
  · obtain ⟨a, xs, ds, rfl, hA, hd, hz, hl, k⟩ := h
    have el := dats_len hd
    refine ⟨_, (pss_2
      (ps_set (i := 1) sc_vet_facts.nd rfl (Or.inl rfl) pe_dnewK)
      (ps_for PassesOwn.leaving rfl (pi_listK K (pv 0)) (pg_name (i := 2) sc_vet_facts.nd rfl (Or.inl rfl)) (pss_4
      (ps_if (pt_not (pt_val (pe_def (ok_is_fact T) hr rfl (pa_1 (pv 2))))) (pss_one (ps_raise leav_cx T.x_NoFact.new T.g_NoFact (pa_1 pe_str))) pss_nil)
      (ps_set (i := 3) sc_vet_facts.nd rfl (Or.inl rfl) (pe_ix (ix_tupK K) (pv 2) pe_int (fun _ _ => rfl)))
      (ps_if (pt_cmp (pc_din (hu_of hr) (pv 3) (pv 1))) (pss_one (ps_raise leav_cx T.x_NoName.new T.g_NoName (pa_1 (pe_join2 pe_str (pe_fv (pv 3)))))) pss_nil)
      (ps_dput (hu_of hr) (pv 1) (pv 3) pe_bl rfl)))), ?_⟩
    refine fun D hD => ?_
    have s1 := same_upd (o := HO.dK []) hD
    refine ⟨_, rfl, a, rfl, ⟨_, s1.seq hA⟩, for_list (xs := xs) (fun i σ H' => Same H H' ∧ ∃ (us : List Str) (v2 v3 : Option V), σ = [some (.ref a), some (.ref D), v2, v3] ∧ H' D = some (.dK (us.map fun u => ((Sum.inr u : Key), V.bl true))) ∧ us.length = i ∧ vetF [] ds = vetF us (ds.drop i)) ⟨s1, [], _, _, rfl, upd_same, rfl, rfl⟩ (fun i σ H' _ z => z.1.seq hA) ?_ ?_⟩
    · rintro i x σ H1 hx ⟨sm, us, v2, v3, rfl, hu, lu, ev⟩
      have hil := (List.getElem?_eq_some_iff.mp hx).1
      obtain ⟨d, hdi, hdx⟩ := dats_get hd hx
      have edr : ds.drop i = d :: ds.drop (i + 1) := by
        obtain ⟨h1, h2⟩ := List.getElem?_eq_some_iff.mp hdi
        rw [← h2]
        exact List.drop_eq_getElem_cons h1
      rw [edr] at ev
      refine ⟨_, rfl, x, d, 6, rfl, Dat.same sm _ _ hdx, hz d (List.mem_of_getElem? hdi), fun H2 s2 => ⟨_, rfl, ?_⟩⟩
      by_cases hf : factD d = true
      · refine iteFb (by rw [hf]; rfl) ?_
        obtain ⟨z, b, c, rfl, en, ht⟩ := fact_parts hf
        cases hdx with
        | @tup p ys _ hp hys =>
          cases hys with
          | cons h1 hr2 =>
            cases h1
            have sm2 := sm.trans s2
            refine ⟨_, rfl, _, _, _, _, rfl, rfl, sm2.seqT hp, atI_nat (j := 0) rfl, ?_⟩
            have hu2 := s2 _ _ hu
            refine ⟨_, rfl, _, rfl, D, _, rfl, DGet.k (k := .inr z) hu2, _, rfl, ?_⟩
            rw [val_names]
            have zl := (txtB_le ht).2
            by_cases hm : z ∈ us
            · rw [if_pos hm]
              refine iteTb rfl ⟨_, rfl, by decide, _, rfl, z, rfl, Nat.le_trans zl (by decide), _, rfl, Nat.le_trans zl (by decide), by show 1 ≤ sizeLine; decide, ?_⟩
              have := k H2 sm2
              rw [ev, vetF, if_pos hf, if_pos (by rw [en]; exact hm)] at this
              exact this
            · rw [if_neg hm]
              refine iteFb rfl ⟨_, rfl, _, rfl, D, _, rfl, DPut.k (k := .inr z) hu2 (by rw [List.length_map]; exact small1000 (by omega)), ?_⟩
              rw [put_names hm]
              refine ⟨sm2.set hD, us ++ [z], _, _, rfl, upd_same, by rw [List.length_append, lu]; rfl, ?_⟩
              rw [ev, vetF, if_pos hf, if_neg (by rw [en]; exact hm), en]
      · refine iteTb (by rw [Bool.not_eq_true _ |>.mp hf]; rfl) ⟨by show 1 ≤ sizeLine; decide, ?_⟩
        have := k H2 (sm.trans s2)
        rw [ev, vetF, if_neg hf] at this
        exact this
    · rintro σ H2 ⟨sm, us, v2, v3, rfl, hu, lu, ev⟩
      have := k H2 sm
      rw [← el, List.drop_length] at ev
      rw [ev] at this
      exact this
end
end Wy
namespace Wy
open PySem L2
def exN : Nat → Str
  | 0 => "NoFact"
  | 1 => "NoName"
  | 2 => "NoRule"
  | _ => "NoRounds"
def roundB : PyData → Bool
  | .int i => decide (0 ≤ i) && decide (i ≤ 5)
  | _ => false
def vetA (ds rs : List PyData) (d : PyData) : Option Nat := match vetF [] ds with
  | some false => some 0
  | some true => some 1
  | none => if rs.all ruleB = true then (if roundB d = true then none else some 3) else some 2
section
variable {P : Program} {w : World} {K : PySem.W.Frag} {mg : Str → Option Value} {base : Heap}
def sx_vet (K : PySem.W.Frag) (mg : Str → Option Value) : Sp := fun vs H Q E => ∃ (a b : Addr) (x : V) (xs ys : List V) (ds rs : List PyData) (d : PyData), vs = [.ref a, .ref b, x] ∧ SqL K H a xs ∧ Dats K H ds xs ∧ (∀ e ∈ ds, okD 6 e) ∧ ds.length ≤ 500 ∧ SqL K H b ys ∧ Dats K H rs ys ∧ (∀ e ∈ rs, okD 6 e) ∧ rs.length ≤ 500 ∧ Dat K H d x ∧
  ∀ H', Same H H' → match vetA ds rs d with | none => Q (.bl true) H' | some n => E (.ref (cA mg (exN n))) none H'
theorem okX_vet (T : Txt K mg) : DefE P w K mg base 9 "vet" ["facts", "rules", "rounds"] (sx_vet K mg) := by
  refine T.t_vet.okE sc_vet (fun vs H Q E h => ?_) fun f cdv A outer s H vs Q E hr h => ?_
  · obtain ⟨a, b, x, xs, ys, ds, rs, d, rfl, _⟩ := h
    rfl
  · obtain ⟨a, b, x, xs, ys, ds, rs, d, rfl, hA, hd, hz, hl, hB, hr2, hz2, hl2, hx, k⟩ := h
    have el := dats_len hr2
    refine ⟨_, (pss_4
      (ps_expr (pe_defE (okX_vet_facts T) (leav_pass leav_cx) hr rfl (pa_1 (pv 0))))
      (ps_if (pt_not (pt_val (pe_callB (call_allL rfl K) rfl T.b_all bt_all (pa_1 (pe_comp (N := ["rule"]) (caps := [none]) rfl (by with_unfolding_all rfl) (pi_listK K (pv 1)) (fun _ _ _ _ _ => (pg_name (i := 0) (show (["rule"] : List Str).Nodup by decide +kernel) rfl (Or.inl rfl))) (fun _ _ _ _ _ => pf_nil) (fun _ _ _ _ _ => (pe_def (ok_is_rule T) hr rfl (pa_1 (pv 0))))))))) (pss_one (ps_raise leav_cx T.x_NoRule.new T.g_NoRule (pa_1 pe_str))) pss_nil)
      (ps_if (PW.pt (pw_or (pt_not (pt_val (pe_def (ok_is_whole T) hr rfl (pa_1 (pv 2))))) (pw_or1 (pt_not (pt_chain op_le op_le pe_int (pv 2) (pe_gI rfl T.c_MOST_ROUNDS)))))) (pss_one (ps_raise leav_cx T.x_NoRounds.new T.g_NoRounds (pa_1 pe_str))) pss_nil)
      (ps_ret pe_bl)), ?_⟩
    refine ⟨_, rfl, a, xs, ds, rfl, hA, hd, hz, hl, fun H1 s1 => ?_⟩
    have k1 := fun H' (s' : Same H1 H') => k H' (s1.trans s')
    unfold vetA at k1
    cases hv : vetF [] ds with
    | some c =>
      rw [hv] at k1
      cases c with
      | false => exact k1 H1 (Same.refl _)
      | true => exact k1 H1 (Same.refl _)
    | none =>
      rw [hv] at k1
      have hB1 := s1.seq hB
      have hr1 := Dats.same s1 _ _ hr2
      refine ⟨_, rfl, b, rfl, ⟨_, hB1⟩, fun D hD => ?_⟩
      refine comp_by ys.length (fun i σ' H' => (∃ v, σ' = [v]) ∧ Same H1 H' ∧ H' D = some (.lst (((rs.take i).map ruleB).map V.bl))) ⟨⟨_, rfl⟩, same_upd hD, upd_same⟩ (fun i σ' H' hi p => ?_) (fun σ' H' p => ⟨?_, ?_⟩) (fun i σ' H' hi p x H2 y => ?_)
      · obtain ⟨_, sm, _⟩ := p
        exact ⟨ys, ys[i], sm.seq hB1, List.getElem?_eq_getElem hi⟩
      · obtain ⟨_, sm, _⟩ := p
        exact ⟨ys, sm.seq hB1, Nat.le_refl _⟩
      · obtain ⟨_, sm, e⟩ := p
        refine ⟨D, rs.map ruleB, rfl, SqL.of (by rw [e, ← el, List.take_length]), _, rfl, ?_⟩
        rw [List.all_map]
        have k2 := k1 H' sm
        by_cases hal : rs.all ruleB = true
        · dsimp only at k2
          rw [if_pos hal] at k2
          refine iteFb (by show (!(rs.all ruleB)) = false; rw [hal]; rfl) ?_
          have hx2 := Dat.same (s1.trans sm) _ _ hx
          refine ⟨_, rfl, x, d, rfl, hx2, _, rfl, ?_⟩
          have raise : roundB d = false → tRaise (cA mg "NoRounds") E (tCons (tC (.str "the rounds are no whole number from 0 to 5")) tNil) { nx := fun _ H' => Q .non H', rt := Q } [some (.ref a), some (.ref b), some x] H' := fun e => by
            rw [if_neg (by rw [e]; exact Bool.false_ne_true)] at k2
            exact ⟨by show 1 ≤ sizeLine; decide, k2⟩
          cases hx2 with
          | int i =>
            refine iteFb (show (!wholeD (.int i)) = false from rfl) ?_
            refine ⟨_, rfl, _, _, rfl, rfl, _, rfl, ite2 (fun h1 => ?_) (fun h1 => ?_)⟩
            · refine ⟨_, _, rfl, rfl, _, rfl, ite2 (fun h2 => ?_) (fun h2 => ?_)⟩
              · exact raise (by show (decide (0 ≤ i) && decide (i ≤ 5)) = false; rw [decide_eq_false (p := i ≤ 5) (by simpa using h2), Bool.and_false])
              · have : roundB (.int i) = true := by
                  show (decide (0 ≤ i) && decide (i ≤ 5)) = true
                  rw [decide_eq_true (p := i ≤ 5) (by simpa using h2), decide_eq_true (p := 0 ≤ i) (by simpa using h1)]
                  rfl
                rw [if_pos this] at k2
                exact k2
            · exact ⟨_, rfl, iteTb rfl (raise (by show (decide (0 ≤ i) && decide (i ≤ 5)) = false; rw [decide_eq_false (p := 0 ≤ i) (by simpa using h1), Bool.false_and]))⟩
          | _ => exact iteTb rfl (raise rfl)
        · dsimp only at k2
          rw [if_neg hal] at k2
          exact iteTb (by show (!(rs.all ruleB)) = true; rw [Bool.not_eq_true _ |>.mp hal]; rfl) ⟨by show 1 ≤ sizeLine; decide, k2⟩
      · obtain ⟨⟨v, rfl⟩, sm, e⟩ := p
        obtain ⟨rfl, hx⟩ := y
        obtain ⟨d, hdi, hdx⟩ := dats_get (Dats.same sm _ _ hr1) (hx ys (sm.seq hB1))
        refine ⟨_, rfl, x, d, 6, rfl, hdx, hz2 d (List.mem_of_getElem? hdi), fun H3 s3 => ⟨_, s3 _ _ e, ?_, ⟨_, rfl⟩, (sm.trans s3).set hD, ?_⟩⟩
        · rw [List.length_map, List.length_map, List.length_take]
          exact small1000 (by omega)
        · rw [upd_same, List.take_succ, hdi, List.map_append, List.map_append]
          rfl
end
end Wy
namespace Wy
open PySem L2
def kindsOf (n : Nat) : List Bool := (List.range 7).map fun i => i == n
theorem vetA_le {ds rs : List PyData} {d : PyData} {n : Nat} (h : vetA ds rs d = some n) : n = 0 ∨ n = 1 ∨ n = 2 ∨ n = 3 := by
  unfold vetA at h
  split at h
  · cases h; exact .inl rfl
  · cases h; exact .inr (.inl rfl)
  · split at h
    · split at h
      · cases h
      · cases h; exact .inr (.inr (.inr rfl))
    · cases h; exact .inr (.inr (.inl rfl))
section
variable {P : Program} {w : World} {K : PySem.W.Frag} {mg : Str → Option Value} {base : Heap}
theorem kinds_of (T : Txt K mg) {n : Nat} (h : n = 0 ∨ n = 1 ∨ n = 2 ∨ n = 3) : ∃ b0 b1 b2 b3, XCls K (cA mg (exN n)) ∧ PySem.W.mroIn K (cA mg (exN n)) (.ref (cA mg "WhyError")) = some true ∧ PySem.W.mroIn K (cA mg (exN n)) (.ref (cA mg "NoFact")) = some b0 ∧ PySem.W.mroIn K (cA mg (exN n)) (.ref (cA mg "NoName")) = some b1 ∧
    PySem.W.mroIn K (cA mg (exN n)) (.ref (cA mg "NoRule")) = some b2 ∧ PySem.W.mroIn K (cA mg (exN n)) (.ref (cA mg "NoRounds")) = some b3 ∧ PySem.W.mroIn K (cA mg (exN n)) (.ref (cA mg "NoWorth")) = some false ∧ PySem.W.mroIn K (cA mg (exN n)) (.ref (cA mg "NoText")) = some false ∧
    PySem.W.mroIn K (cA mg (exN n)) (.ref (cA mg "TooMuch")) = some false ∧ kindsOf n = [b0, b1, b2, b3, false, false, false] := by
  rcases h with rfl | rfl | rfl | rfl
  · exact ⟨true, false, false, false, T.x_NoFact, T.p_NoFact_WhyError, T.p_NoFact_NoFact, T.p_NoFact_NoName, T.p_NoFact_NoRule, T.p_NoFact_NoRounds, T.p_NoFact_NoWorth, T.p_NoFact_NoText, T.p_NoFact_TooMuch, rfl⟩
  · exact ⟨false, true, false, false, T.x_NoName, T.p_NoName_WhyError, T.p_NoName_NoFact, T.p_NoName_NoName, T.p_NoName_NoRule, T.p_NoName_NoRounds, T.p_NoName_NoWorth, T.p_NoName_NoText, T.p_NoName_TooMuch, rfl⟩
  · exact ⟨false, false, true, false, T.x_NoRule, T.p_NoRule_WhyError, T.p_NoRule_NoFact, T.p_NoRule_NoName, T.p_NoRule_NoRule, T.p_NoRule_NoRounds, T.p_NoRule_NoWorth, T.p_NoRule_NoText, T.p_NoRule_TooMuch, rfl⟩
  · exact ⟨false, false, false, true, T.x_NoRounds, T.p_NoRounds_WhyError, T.p_NoRounds_NoFact, T.p_NoRounds_NoName, T.p_NoRounds_NoRule, T.p_NoRounds_NoRounds, T.p_NoRounds_NoWorth, T.p_NoRounds_NoText, T.p_NoRounds_TooMuch, rfl⟩
def sp_outc (K : PySem.W.Frag) : Sp := fun vs H Q _ => ∃ (a b : Addr) (x : V) (xs ys : List V) (ds rs : List PyData) (d : PyData), vs = [.ref a, .ref b, x] ∧ SqL K H a xs ∧ Dats K H ds xs ∧ (∀ e ∈ ds, okD 6 e) ∧ ds.length ≤ 500 ∧ SqL K H b ys ∧ Dats K H rs ys ∧ (∀ e ∈ rs, okD 6 e) ∧ rs.length ≤ 500 ∧ Dat K H d x ∧
  ∀ H', Same H H' → match vetA ds rs d with | none => Q (.bl true) H' | some n => ∀ q l, H' l = some (.lst ((kindsOf n).map V.bl)) → H' q = some (.tup [.ref l, .bl true]) → Q (.ref q) H'
theorem ok__law_outcome (T : Txt K mg) : Def P w K mg base 10 "_law_outcome" ["_law_facts_here", "_law_rules_here", "_law_rounds"] (sp_outc K) := by
  refine T.t__law_outcome.ok sc__law_outcome (fun vs H Q E h => ?_) fun f cdv A outer s H vs Q E hr h => ?_
  · obtain ⟨a, b, x, xs, ys, ds, rs, d, rfl, _⟩ := h
    rfl
  · obtain ⟨a, b, x, xs, ys, ds, rs, d, rfl, hA, hd, hz, hl, hB, hr2, hz2, hl2, hx, k⟩ := h
    refine ⟨_, (pss_2
      (ps_tryAs (i := 4) T.g_WhyError (fun _ _ _ hp => (pss_one (ps_set (i := 3) sc__law_outcome.nd rfl (Or.inl rfl) (pe_defE (okX_vet T) hp hr rfl (pa_3 (pv 0) (pv 1) (pv 2)))))) (fun ea oe => (pss_4
      (ps_set (i := 5) sc__law_outcome.nd rfl (Or.inl rfl) (pe_lst (pa_3 (pe_callB (call_isiE K) rfl T.b_isinstance bt_isinstance (pa_2 (pv 4) (pe_globR rfl T.g_NoFact))) (pe_callB (call_isiE K) rfl T.b_isinstance bt_isinstance (pa_2 (pv 4) (pe_globR rfl T.g_NoName))) (pe_callB (call_isiE K) rfl T.b_isinstance bt_isinstance (pa_2 (pv 4) (pe_globR rfl T.g_NoRule))))))
      (ps_set (i := 5) sc__law_outcome.nd rfl (Or.inl rfl) (pe_op op_cat (pv 5) (pe_lst (pa_3 (pe_callB (call_isiE K) rfl T.b_isinstance bt_isinstance (pa_2 (pv 4) (pe_globR rfl T.g_NoRounds))) (pe_callB (call_isiE K) rfl T.b_isinstance bt_isinstance (pa_2 (pv 4) (pe_globR rfl T.g_NoWorth))) (pe_callB (call_isiE K) rfl T.b_isinstance bt_isinstance (pa_2 (pv 4) (pe_globR rfl T.g_NoText)))))))
      (ps_expr (pe_bm PySem.F.plainAttrs_list PySem.F.slot_list_append PySem.F.type_list_append mt_append (pv 5) (pa_1 (pe_callB (call_isiE K) rfl T.b_isinstance bt_isinstance (pa_2 (pv 4) (pe_globR rfl T.g_TooMuch))))))
      (ps_ret (pe_tup (pa_2 (pv 5) (pe_callB (call_isiE K) rfl T.b_isinstance bt_isinstance (pa_2 (pv 4) (pe_ty rfl T.b_ValueError bt_ValueError)))))))) rfl rfl sc__law_outcome.nd)
      (ps_ret (pv 3))), ?_⟩
    refine ⟨_, rfl, _, rfl, _, rfl, a, b, x, xs, ys, ds, rs, d, rfl, hA, hd, hz, hl, hB, hr2, hz2, hl2, hx, fun H1 s1 => ?_⟩
    cases hv : vetA ds rs d with
    | none =>
      have := fun H' s' => k H' s'
      rw [hv] at this
      exact ⟨_, rfl, this H1 s1⟩
    | some n =>
      rw [hv] at k
      obtain ⟨b0, b1, b2, b3, xc, m, m0, m1, m2, m3, m4, m5, m6, ek⟩ := kinds_of T (vetA_le hv)
      refine ⟨xc.caught T.x_WhyError m, fun ea oe σ' hc hn hl => ?_⟩
      have hl6 : σ'.length = 6 := hl
      obtain ⟨u0, u1, u2, u3, u4, u5, rfl⟩ : ∃ u0 u1 u2 u3 u4 u5, σ' = [u0, u1, u2, u3, u4, u5] := by
        match σ', hl6 with
        | [u0, u1, u2, u3, u4, u5], _ => exact ⟨u0, u1, u2, u3, u4, u5, rfl⟩
      refine ⟨_, rfl, cA mg (exN n), _, _, b0, rfl, hc, xc.isi, .inl ⟨rfl, xc.one T.x_NoFact m0⟩, ?_⟩
      refine ⟨_, rfl, cA mg (exN n), _, _, b1, rfl, hc, xc.isi, .inl ⟨rfl, xc.one T.x_NoName m1⟩, ?_⟩
      refine ⟨_, rfl, cA mg (exN n), _, _, b2, rfl, hc, xc.isi, .inl ⟨rfl, xc.one T.x_NoRule m2⟩, by show 3 ≤ sizeLine; decide, fun l1 hl1 => ?_⟩
      have s2 := same_upd (o := HO.lst [V.bl b0, .bl b1, .bl b2]) hl1
      refine ⟨_, rfl, ?_⟩
      refine ⟨_, rfl, cA mg (exN n), _, _, b3, rfl, hc, xc.isi, .inl ⟨rfl, xc.one T.x_NoRounds m3⟩, ?_⟩
      refine ⟨_, rfl, cA mg (exN n), _, _, false, rfl, hc, xc.isi, .inl ⟨rfl, xc.one T.x_NoWorth m4⟩, ?_⟩
      refine ⟨_, rfl, cA mg (exN n), _, _, false, rfl, hc, xc.isi, .inl ⟨rfl, xc.one T.x_NoText m5⟩, by show 3 ≤ sizeLine; decide, fun l2 hl2 => ?_⟩
      have s3 := same_upd (o := HO.lst [V.bl b3, .bl false, .bl false]) hl2
      refine ⟨_, _, _, _, rfl, rfl, s3 _ _ upd_same, upd_same, by show 6 ≤ sizeLine; decide, fun l3 hl3 => ?_⟩
      have s4 := same_upd (o := HO.lst ([V.bl b0, .bl b1, .bl b2] ++ [V.bl b3, .bl false, .bl false])) hl3
      refine ⟨_, rfl, .inl ⟨rfl, _, SqL.of upd_same⟩, _, rfl, cA mg (exN n), _, _, false, rfl, hc, xc.isi, .inl ⟨rfl, xc.one T.x_TooMuch m6⟩, ?_⟩
      refine ⟨_, _, _, rfl, rfl, upd_same, by show 6 < sizeLine; decide, ?_⟩
      refine ⟨_, rfl, _, rfl, cA mg (exN n), 0, _, true, rfl, hc, xc.isi, .inr ⟨_, rfl, xc.veI⟩, by show 2 ≤ sizeLine; decide, fun q hq => ?_⟩
      have s5 := s4.set (o := HO.lst ([V.bl b0, .bl b1, .bl b2] ++ [V.bl b3, .bl false, .bl false] ++ [.bl false])) hl3
      have s6 := same_upd (o := HO.tup [V.ref l3, .bl true]) hq
      refine k _ (s1.trans (s2.trans (s3.trans (s5.trans s6)))) q l3 ?_ upd_same
      rw [ek]
      exact s6 _ _ upd_same
end
end Wy
namespace Wy
open PySem L2
theorem len_fur : fur.length = 36 := by decide +kernel
theorem fur26 : ∀ c ∈ fur.cps.toList.take 26, c ∈ small.cps.toList := by decide +kernel
theorem app_list (a b : Str) : (a ++ b).cps.toList = a.cps.toList ++ b.cps.toList := by
  show (a.cps ++ b.cps).toList = _
  rw [Array.toList_append]
structure Wd (z : Str) : Prop where
  lo : 1 ≤ z.length
  hi : z.length ≤ 12
  fst : ∃ c r, z.cps.toList = c :: r ∧ c ∈ small.cps.toList
  all : ∀ c ∈ z.cps.toList, c ∈ fur.cps.toList
theorem Wd.ok {z : Str} (h : Wd z) : PyData.strOk z = true := strOk_of fun c hc => fur_lt c (h.all c hc)
theorem Wd.txt {z : Str} (h : Wd z) : txtD small (.str z) = true := by
  obtain ⟨c, r, e, hc⟩ := h.fst
  show txtB small z = true
  rw [txtB_ok h.lo h.hi, e]
  show (decide _ && _) = true
  rw [decide_eq_true hc, Bool.true_and]
  exact List.all_eq_true.mpr fun d hd => decide_eq_true (h.all d (by rw [e]; exact List.mem_cons_of_mem _ hd))
theorem Wd.dat {K : PySem.W.Frag} {H : Hp} {z : Str} (h : Wd z) : Dat K H (.str z) (.str z) := .str z h.ok
theorem strD_ok {n : Nat} {z : Str} (h : z.length ≤ 200) : okD n (.str z) := by cases n <;> exact h
theorem Wd.okD {z : Str} (h : Wd z) (n : Nat) : okD n (.str z) := strD_ok (Nat.le_trans h.hi (by decide))
def sgF (x : Int) : Nat := (atI fur.cps.toList x).getD 0
theorem sgF_at {x : Int} (h0 : 0 ≤ x) (h1 : x < 36) : atI fur.cps.toList x = some (sgF x) ∧ sgF x ∈ fur.cps.toList ∧ (x < 26 → sgF x ∈ small.cps.toList) := by
  have hl : fur.cps.toList.length = 36 := by rw [len_list, len_fur]
  obtain ⟨k, rfl⟩ := Int.eq_ofNat_of_zero_le h0
  have hk : k < fur.cps.toList.length := by omega
  have e := atI_nat (List.getElem?_eq_getElem hk)
  have e2 : sgF (k : Int) = fur.cps.toList[k] := by
    unfold sgF
    rw [e]
    rfl
  rw [e2]
  refine ⟨e, List.getElem_mem hk, fun h => fur26 _ ?_⟩
  have h26 : k < 26 := by omega
  exact List.mem_of_getElem? (i := k) (by rw [List.getElem?_take, if_pos h26, List.getElem?_eq_getElem hk])
theorem cat_ones (ds : List Nat) : (catS (ds.map fun d => (⟨#[d]⟩ : Str))).cps.toList = ds := by
  unfold catS
  rw [List.toList_toArray, List.flatMap_map]
  induction ds with
  | nil => rfl
  | cons d ds ih => simpa using ih
theorem sum_ones (ds : List Nat) : ((ds.map fun d => (⟨#[d]⟩ : Str)).map (·.length)).sum = ds.length := by
  induction ds with
  | nil => rfl
  | cons d ds ih =>
    rw [List.map_cons, List.map_cons, List.sum_cons, ih, List.length_cons]
    show 1 + _ = _
    omega
end Wy
namespace Wy
open PySem L2
theorem sg_inj : ∀ a b : Fin 36, sgF (a : Nat) = sgF (b : Nat) → a = b := by decide +kernel
theorem sgF_inj {x y : Int} (x0 : 0 ≤ x) (x1 : x < 36) (y0 : 0 ≤ y) (y1 : y < 36) (h : sgF x = sgF y) : x = y := by
  obtain ⟨a, rfl⟩ := Int.eq_ofNat_of_zero_le x0
  obtain ⟨b, rfl⟩ := Int.eq_ofNat_of_zero_le y0
  have := sg_inj ⟨a, by omega⟩ ⟨b, by omega⟩ h
  injection this with e
  rw [e]
def nmL (bs : List Int) (j : Nat) (s : Int) (k : Nat) : List Int := bs.set j ((bs.getD j 0 + k * s) % 36)
def zS (k : Nat) : Str := if k < 36 then "" else "z"
def nmS (bs : List Int) (j : Nat) (s : Int) (k : Nat) : Str := catS ((nmL bs j s k).map fun x => (⟨#[sgF x]⟩ : Str)) ++ zS k
theorem cat_sg (l : List Int) : (catS (l.map fun x => (⟨#[sgF x]⟩ : Str))).cps.toList = l.map sgF := by
  rw [show (l.map fun x => (⟨#[sgF x]⟩ : Str)) = (l.map sgF).map fun d => (⟨#[d]⟩ : Str) by rw [List.map_map]; rfl]
  exact cat_ones _
theorem z_list (k : Nat) : (zS k).cps.toList = if k < 36 then [] else [122] := by
  unfold zS
  split <;> decide +kernel
theorem nm_list (bs : List Int) (j : Nat) (s : Int) (k : Nat) : (nmS bs j s k).cps.toList = (nmL bs j s k).map sgF ++ (if k < 36 then [] else [122]) := by
  unfold nmS
  rw [app_list, cat_sg, z_list]
theorem turn_inj {b s : Int} (h : s = 1 ∨ s = 5 ∨ s = 7 ∨ s = 11) {k m : Nat} (hk : k < 72) (hm : m < 72) (hz : k < 36 ↔ m < 36) (e : (b + k * s) % 36 = (b + m * s) % 36) : k = m := by
  rcases h with rfl | rfl | rfl | rfl <;> omega
theorem nm_inj {bs : List Int} {j : Nat} {s : Int} (hj : j < bs.length) (h : s = 1 ∨ s = 5 ∨ s = 7 ∨ s = 11) {k m : Nat} (hk : k < 72) (hm : m < 72) (e : nmS bs j s k = nmS bs j s m) : k = m := by
  have e1 : (nmS bs j s k).cps.toList = (nmS bs j s m).cps.toList := by rw [e]
  rw [nm_list, nm_list] at e1
  have ln : ∀ i, ((nmL bs j s i).map sgF).length = bs.length := fun i => by rw [List.length_map, nmL, List.length_set]
  have hz : k < 36 ↔ m < 36 := by
    have := congrArg List.length e1
    rw [List.length_append, List.length_append, ln, ln] at this
    by_cases a : k < 36 <;> by_cases b : m < 36 <;> simp [a, b] at this ⊢
  have e2 := (List.append_inj e1 (by rw [ln, ln])).1
  have e3 : ((nmL bs j s k).map sgF)[j]? = ((nmL bs j s m).map sgF)[j]? := by rw [e2]
  rw [List.getElem?_map, List.getElem?_map, nmL, nmL, List.getElem?_set_self hj, List.getElem?_set_self hj] at e3
  have e4 : sgF ((bs.getD j 0 + k * s) % 36) = sgF ((bs.getD j 0 + m * s) % 36) := Option.some.inj e3
  exact turn_inj h hk hm hz (sgF_inj (Int.emod_nonneg _ (by decide)) (Int.emod_lt_of_pos _ (by decide)) (Int.emod_nonneg _ (by decide)) (Int.emod_lt_of_pos _ (by decide)) e4)
theorem nm_nodup {bs : List Int} {j : Nat} {s : Int} (hj : j < bs.length) (h : s = 1 ∨ s = 5 ∨ s = 7 ∨ s = 11) {n : Nat} (hn : n ≤ 72) : ((List.range n).map (nmS bs j s)).Nodup := by
  rw [List.nodup_iff_pairwise_ne, List.pairwise_map]
  refine List.Pairwise.imp_of_mem (fun {a b} ha hb hlt e => ?_) List.pairwise_lt_range
  have := nm_inj hj h (by have := List.mem_range.mp ha; omega) (by have := List.mem_range.mp hb; omega) e
  omega
theorem nm_wd {bs : List Int} {j : Nat} {s : Int} {k : Nat} (h2 : 2 ≤ bs.length) (h10 : bs.length ≤ 10) (hj : 1 ≤ j) (hb : ∀ b ∈ bs, 0 ≤ b ∧ b < 36) (h0 : ∀ b, bs[0]? = some b → b < 26) : Wd (nmS bs j s k) := by
  have hl : (nmS bs j s k).cps.toList.length = bs.length + (if k < 36 then 0 else 1) := by
    rw [nm_list, List.length_append, List.length_map, nmL, List.length_set]
    split <;> rfl
  have hl2 : (nmS bs j s k).length = bs.length + (if k < 36 then 0 else 1) := by rw [← len_list]; exact hl
  have z122 : (122 : Nat) ∈ fur.cps.toList := by decide +kernel
  have hg : ∀ x ∈ nmL bs j s k, 0 ≤ x ∧ x < 36 := fun x hx => by
    unfold nmL at hx
    rcases List.mem_or_eq_of_mem_set hx with hx | rfl
    · exact hb x hx
    · exact ⟨Int.emod_nonneg _ (by decide), Int.emod_lt_of_pos _ (by decide)⟩
  refine ⟨by rw [hl2]; omega, by rw [hl2]; split <;> omega, ?_, fun d hd => ?_⟩
  · match bs, h2, h0 with
    | b :: r, _, h0 =>
      have hb0 := hb b (List.mem_cons_self ..)
      have e : nmL (b :: r) j s k = b :: (r.set (j - 1) (((b :: r).getD j 0 + k * s) % 36)) := by
        unfold nmL
        obtain ⟨i, rfl⟩ : ∃ i, j = i + 1 := ⟨j - 1, by omega⟩
        rfl
      refine ⟨sgF b, _, by rw [nm_list, e, List.map_cons, List.cons_append], (sgF_at hb0.1 hb0.2).2.2 (h0 b rfl)⟩
  · rw [nm_list] at hd
    rcases List.mem_append.mp hd with hd | hd
    · obtain ⟨x, hx, rfl⟩ := List.mem_map.mp hd
      exact (sgF_at (hg x hx).1 (hg x hx).2).2.1
    · split at hd
      · cases hd
      · rw [List.mem_singleton.mp hd]
        exact z122
end Wy
namespace Wy
open PySem L2
theorem pick4 {p : Int} : ∃ k : Int, atI [V.int 1, .int 5, .int 7, .int 11] (p / 9 % 4) = some (.int k) ∧ (k = 1 ∨ k = 5 ∨ k = 7 ∨ k = 11) := by
  obtain ⟨v, hat, hv⟩ := atI_in (xs := [V.int 1, .int 5, .int 7, .int 11]) (i := p / 9 % 4) (Int.emod_nonneg _ (by decide)) (Int.emod_lt_of_pos _ (by decide))
  simp only [List.mem_cons, List.not_mem_nil, or_false] at hv
  rcases hv with rfl | rfl | rfl | rfl
  · exact ⟨_, hat, .inl rfl⟩
  · exact ⟨_, hat, .inr (.inl rfl)⟩
  · exact ⟨_, hat, .inr (.inr (.inl rfl))⟩
  · exact ⟨_, hat, .inr (.inr (.inr rfl))⟩
theorem z_at {i : Nat} (h : i < 72) : atI [V.str "", .str "z"] ((0 + (i : Int)) / 36) = some (V.str (zS i)) := by
  unfold zS
  by_cases q : i < 36
  · rw [if_pos q, show ((0 + (i : Int)) / 36) = ((0 : Nat) : Int) by omega]
    exact atI_nat rfl
  · rw [if_neg q, show ((0 + (i : Int)) / 36) = ((1 : Nat) : Int) by omega]
    exact atI_nat rfl
section
variable {P : Program} {w : World} {K : PySem.W.Frag} {mg : Str → Option Value} {base : Heap}
def sp_lnam (K : PySem.W.Frag) : Sp := fun vs H Q _ => ∃ (c p n : Int), vs = [.int c, .int p, .int n] ∧ 0 ≤ n ∧ n ≤ 71 ∧ ∀ q (zs : List Str) H', Same H H' → H' q = some (.lst (zs.map V.str)) → zs.length = n.toNat → zs.Nodup → (∀ z ∈ zs, Wd z) → Q (.ref q) H'
theorem ok__law_names (T : Txt K mg) : Def P w K mg base 1 "_law_names" ["_law_cell", "_law_place", "_law_many"] (sp_lnam K) := by
  refine T.t__law_names.ok sc__law_names (fun vs H Q E h => ?_) fun f cdv A outer s H vs Q E hr h => ?_
  · obtain ⟨c, p, n, rfl, _⟩ := h
    rfl
  · obtain ⟨c, p, n, rfl, n0, n71, k⟩ := h
    have lfur : fur.length ≤ sizeLine := by rw [len_fur]; decide
    refine ⟨_, (pss_7
      (ps_set (i := 3) sc__law_names.nd rfl (Or.inr rfl) pe_str)
      (ps_setComp (i := 4) sc__law_names.nd rfl rfl (N := ["_law_k", "_law_cell"]) (caps := [none, some 0]) rfl (by with_unfolding_all rfl) (pi_range1 rfl T.b_range (pa_1 (pe_op op_add pe_int (pe_op op_mod (pv 0) pe_int)))) (fun _ _ _ _ _ => (pg_name (i := 0) (show (["_law_k", "_law_cell"] : List Str).Nodup by decide +kernel) rfl (Or.inl rfl))) (fun _ _ _ _ _ => pf_nil) (fun _ _ _ _ _ => (pe_op op_mod (pe_op op_add (pe_op op_fdiv (pv 1) (pe_op op_add (pv 0) pe_int)) (pe_op op_mul pe_int (pv 0))) pe_int)))
      (ps_asg (pe_op op_mod (pe_ix (ix_listK K) (pv 4) pe_int (fun _ _ => rfl)) pe_int) (pg_sub (pv 4) pe_int set_list))
      (ps_set (i := 5) sc__law_names.nd rfl (Or.inl rfl) (pe_op op_add pe_int (pe_op op_mod (pv 1) (pe_op op_sub (pe_callB (call_lenK K) rfl T.b_len bt_len (pa_1 (pv 4))) pe_int))))
      (ps_set (i := 6) sc__law_names.nd rfl (Or.inl rfl) (pe_lst pa_nil))
      (ps_for PassesOwn.never rfl (pi_range1 rfl T.b_range (pa_1 (pv 2))) (pg_name (i := 7) sc__law_names.nd rfl (Or.inl rfl)) (pss_4
      (ps_set (i := 8) sc__law_names.nd rfl (Or.inl rfl) (pe_callTy (call_listK K) rfl T.b_list bt_list (pa_1 (pv 4))))
      (ps_asg (pe_op op_mod (pe_op op_add (pe_ix (ix_listK K) (pv 4) (pv 5) (fun _ _ => rfl)) (pe_op op_mul (pv 7) (pe_ix (ix_listK K) (pe_lst (pa_4 pe_int pe_int pe_int pe_int)) (pe_op op_mod (pe_op op_fdiv (pv 1) pe_int) pe_int) (fun _ _ => rfl)))) pe_int) (pg_sub (pv 8) (pv 5) set_list))
      (ps_set (i := 9) sc__law_names.nd rfl (Or.inl rfl) (pe_bm PySem.F.plainAttrs_str PySem.F.slot_str_join PySem.F.type_str_join (mt_joinK K) pe_str (pa_1 (pe_comp (N := ["_law_x", "_law_signs"]) (caps := [none, some 3]) rfl (by with_unfolding_all rfl) (pi_listK K (pv 8)) (fun _ _ _ _ _ => (pg_name (i := 0) (show (["_law_x", "_law_signs"] : List Str).Nodup by decide +kernel) rfl (Or.inl rfl))) (fun _ _ _ _ _ => pf_nil) (fun _ _ _ _ _ => (pe_ix ix_str (pv 1) (pv 0) (fun _ _ => rfl)))))))
      (ps_expr (pe_bm PySem.F.plainAttrs_list PySem.F.slot_list_append PySem.F.type_list_append mt_append (pv 6) (pa_1 (pe_op op_add_str (pv 9) (pe_ix (ix_listK K) (pe_lst (pa_2 pe_str pe_str)) (pe_op op_fdiv (pv 7) pe_int) (fun _ _ => rfl))))))))
      (ps_ret (pv 6))), ?_⟩
    have m0 := Int.emod_nonneg c (show (9 : Int) ≠ 0 by decide)
    have m1 := Int.emod_lt_of_pos c (show (0 : Int) < 9 by decide)
    refine ⟨_, rfl, _, _, rfl, rfl, (by show (0 : Int) < 9; decide), _, _, rfl, rfl, _, rfl, by omega, by omega, fun D hD => ?_⟩
    refine comp_by (2 + c % 9).toNat (fun i σ' H' => (∃ v, σ' = [v, some (.int c)]) ∧ Same H H' ∧ ∃ bs : List Int, H' D = some (.lst (bs.map V.int)) ∧ bs.length = i ∧ ∀ b ∈ bs, 0 ≤ b ∧ b < 36) ⟨⟨_, rfl⟩, same_upd hD, [], upd_same, rfl, fun _ z => nomatch z⟩ (fun i σ' H' hi p => hi) (fun σ' H' p => ⟨Nat.le_refl _, ?_⟩) (fun i σ' H' hi p x H2 y => ?_)
    · obtain ⟨_, s1, bs, hb, lb, ob⟩ := p
      obtain ⟨b0, br, rfl⟩ : ∃ b0 br, bs = b0 :: br := by
        cases bs with
        | nil => simp at lb; omega
        | cons b0 br => exact ⟨b0, br, rfl⟩
      refine ⟨_, rfl, _, _, _, _, rfl, rfl, SqL.of hb, atI_nat (j := 0) rfl, _, _, rfl, rfl, (by show (0 : Int) < 26; decide), ?_⟩
      refine ⟨_, rfl, D, _, 0, 0, rfl, rfl, hb, (by unfold ixN; rw [if_pos (Int.le_refl 0), if_pos (by rw [List.length_map, List.length_cons]; omega)]; rfl), ?_⟩
      have q0 := Int.emod_nonneg b0 (show (26 : Int) ≠ 0 by decide)
      have q1 := Int.emod_lt_of_pos b0 (show (0 : Int) < 26 by decide)
      have s2 : Same H (upd H' D (.lst (((b0 % 26) :: br).map V.int))) := s1.set hD
      have hb2 : upd H' D (.lst (((b0 % 26) :: br).map V.int)) D = some (.lst (((b0 % 26) :: br).map V.int)) := upd_same
      have ob2 : ∀ b ∈ (b0 % 26) :: br, 0 ≤ b ∧ b < 36 := fun b hb => by
        rcases List.mem_cons.mp hb with rfl | hb
        · omega
        · exact ob b (List.mem_cons_of_mem _ hb)
      have lb2 : ((b0 % 26) :: br).length = (2 + c % 9).toNat := lb
      have f26 : ∀ b, ((b0 % 26) :: br)[0]? = some b → b < 26 := fun b hb => by
        cases hb
        exact q1
      rw [show (List.map V.int (b0 :: br)).set 0 ((fun i j => V.int (i % j)) b0 26) = ((b0 % 26) :: br).map V.int from rfl]
      generalize upd H' D (.lst (((b0 % 26) :: br).map V.int)) = G at *
      generalize (b0 % 26) :: br = bs at *
      refine ⟨_, rfl, _, rfl, _, _, rfl, .inl ⟨_, SqL.of hb2, rfl⟩, _, _, rfl, rfl, _, _, rfl, rfl, by rw [List.length_map]; omega, _, _, rfl, rfl, ?_⟩
      rw [List.length_map]
      show gName 5 (V.int (1 + p % ((bs.length : Int) - 1))) _ _ _
      have a0 := Int.emod_nonneg p (show ((bs.length : Int) - 1) ≠ 0 by omega)
      have a1 := Int.emod_lt_of_pos p (show (0 : Int) < (bs.length : Int) - 1 by omega)
      obtain ⟨j, hj⟩ := Int.eq_ofNat_of_zero_le (show 0 ≤ 1 + p % ((bs.length : Int) - 1) by omega)
      rw [hj]
      have j1 : 1 ≤ j := by omega
      have jl : j < bs.length := by omega
      obtain ⟨sp, hpk, h4⟩ := pick4 (p := p)
      have bj : bs.getD j 0 = bs[j] := by rw [List.getD_eq_getElem?_getD, List.getElem?_eq_getElem jl]; rfl
      refine ⟨by decide, fun q hq => ?_⟩
      refine ⟨_, rfl, _, rfl, by omega, by omega, for_range (lo := 0) (n := n.toNat) (fun i σ H' => ∃ (v1 v2 v3 : Option V), σ = [some (.int c), some (.int p), some (.int n), some (.str fur), some (.ref D), some (.int (j : Int)), some (.ref q), v1, v2, v3] ∧ Same G H' ∧ H' q = some (.lst (((List.range i).map (nmS bs j sp)).map V.str)))
        ⟨_, _, _, rfl, same_upd hq, upd_same⟩ ?_ ?_⟩
      · rintro i σ H1 hi ⟨v1, v2, v3, rfl, s3, hz⟩
        have hb3 := s3 _ _ hb2
        have ata : atI (bs.map V.int) (j : Int) = some (V.int bs[j]) := atI_nat (by rw [List.getElem?_map, List.getElem?_eq_getElem jl]; rfl)
        refine ⟨_, rfl, _, _, rfl, .inl (SqL.of hb3), fun r hr' => ?_⟩
        have s4 := same_upd (o := HO.lst (bs.map V.int)) hr'
        refine ⟨_, rfl, _, rfl, _, _, _, _, rfl, rfl, SqL.of (s4 _ _ hb3), ata, _, rfl, by show 4 ≤ sizeLine; decide, fun r2 hr2 => ?_⟩
        have s5 := same_upd (o := HO.lst [V.int 1, .int 5, .int 7, .int 11]) hr2
        have hr5 := s5 _ _ (upd_same (H := H1) (a := r) (o := HO.lst (bs.map V.int)))
        refine ⟨_, rfl, _, _, rfl, rfl, ⟨by decide, by decide⟩, _, _, rfl, rfl, (by show (0 : Int) < 4; decide), _, _, _, _, rfl, rfl, SqL.of upd_same, hpk, _, _, rfl, rfl, .inl ⟨by omega, by omega⟩, _, _, rfl, rfl, _, _, rfl, rfl, (by show (0 : Int) < 36; decide), ?_⟩
        refine ⟨_, rfl, _, rfl, r, _, (j : Int), j, rfl, rfl, hr5, (by unfold ixN; rw [if_pos (by omega), if_pos (by rw [List.length_map]; omega)]; simp), ?_⟩
        have el : (bs.map V.int).set j (V.int ((bs[j] + (0 + (i : Int)) * sp) % 36)) = (nmL bs j sp i).map V.int := by
          unfold nmL
          rw [List.map_set, bj, Int.zero_add]
        show _
        rw [el]
        have s6 : Same H1 (upd (upd (upd H1 r (.lst (bs.map V.int))) r2 (.lst [V.int 1, .int 5, .int 7, .int 11])) r (.lst ((nmL bs j sp i).map V.int))) := (s4.trans s5).set hr'
        have hr6 : upd (upd (upd H1 r (.lst (bs.map V.int))) r2 (.lst [V.int 1, .int 5, .int 7, .int 11])) r (.lst ((nmL bs j sp i).map V.int)) r = some (.lst ((nmL bs j sp i).map V.int)) := upd_same
        generalize upd (upd (upd H1 r (.lst (bs.map V.int))) r2 (.lst [V.int 1, .int 5, .int 7, .int 11])) r (.lst ((nmL bs j sp i).map V.int)) = H6 at *
        have hz6 := s6 _ _ hz
        have hg : ∀ x ∈ nmL bs j sp i, 0 ≤ x ∧ x < 36 := fun x hx => by
          unfold nmL at hx
          rcases List.mem_or_eq_of_mem_set hx with hx | rfl
          · exact ob2 x hx
          · exact ⟨Int.emod_nonneg _ (by decide), Int.emod_lt_of_pos _ (by decide)⟩
        have lnm : (nmL bs j sp i).length = bs.length := by unfold nmL; rw [List.length_set]
        refine ⟨rfl, _, rfl, r, rfl, ⟨_, SqL.of hr6⟩, fun E hE => ?_⟩
        refine comp_by ((nmL bs j sp i).map V.int).length (fun m σ' H' => (∃ v, σ' = [v, some (.str fur)]) ∧ Same H6 H' ∧ H' E = some (.lst ((((nmL bs j sp i).take m).map fun x => (⟨#[sgF x]⟩ : Str)).map V.str))) ⟨⟨_, rfl⟩, same_upd hE, upd_same⟩ (fun m σ' H' hm p => ?_) (fun σ' H' p => ⟨?_, ?_⟩) (fun m σ' H' hm p x H7 y => ?_)
        · obtain ⟨_, sm, _⟩ := p
          exact ⟨_, ((nmL bs j sp i).map V.int)[m], SqL.of (sm _ _ hr6), List.getElem?_eq_getElem hm⟩
        · obtain ⟨_, sm, _⟩ := p
          exact ⟨_, SqL.of (sm _ _ hr6), Nat.le_refl _⟩
        · obtain ⟨_, s7, he⟩ := p
          rw [List.length_map, List.take_length] at he
          have e1 : ((nmL bs j sp i).map fun x => (⟨#[sgF x]⟩ : Str)) = ((nmL bs j sp i).map sgF).map fun d => (⟨#[d]⟩ : Str) := by rw [List.map_map]; rfl
          have lc : (catS ((nmL bs j sp i).map fun x => (⟨#[sgF x]⟩ : Str))).length = bs.length := by rw [← len_list, cat_sg, List.length_map, lnm]
          refine ⟨E, _, rfl, rfl, SqL.of he, by rw [e1, sum_ones, List.length_map]; omega, ?_⟩
          have hz7 := s7 _ _ hz6
          refine ⟨_, rfl, .inl ⟨rfl, _, SqL.of hz7⟩, _, rfl, by show 2 ≤ sizeLine; decide, fun l hl => ?_⟩
          have s8 := same_upd (o := HO.lst [V.str "", .str "z"]) hl
          have lz : (zS i).length ≤ 1 := by unfold zS; split <;> decide +kernel
          refine ⟨_, rfl, _, _, rfl, rfl, ⟨by decide, by decide⟩, _, _, _, _, rfl, rfl, SqL.of upd_same, z_at (by omega), _, _, rfl, rfl, Nat.le_trans (show _ + (zS i).length ≤ 1000 by rw [lc]; omega) (by decide), ?_⟩
          refine ⟨_, _, _, rfl, rfl, s8 _ _ hz7, by rw [List.length_map, List.length_map, List.length_range]; exact small1000 (by omega), ?_⟩
          refine ⟨_, _, _, rfl, (s3.trans (s6.trans (s7.trans s8))).set hq, ?_⟩
          rw [upd_same, List.range_succ, List.map_append, List.map_append]
          rfl
        · obtain ⟨⟨v, rfl⟩, sm, he⟩ := p
          obtain ⟨rfl, hx⟩ := y
          have hx' := hx _ (SqL.of (sm _ _ hr6))
          rw [List.getElem?_map] at hx'
          obtain ⟨z, hz', rfl⟩ := Option.map_eq_some_iff.mp hx'
          have g := hg z (List.mem_of_getElem? hz')
          rw [List.length_map] at hm
          refine ⟨_, rfl, _, rfl, _, _, _, rfl, rfl, lfur, (sgF_at g.1 g.2).1, ?_⟩
          refine ⟨_, he, by rw [List.length_map, List.length_map, List.length_take]; exact small1000 (by omega), ⟨_, rfl⟩, sm.set hE, ?_⟩
          rw [upd_same, List.take_succ, hz', List.map_append, List.map_append]
          rfl
      · rintro σ H1 ⟨v1, v2, v3, rfl, s3, hz⟩
        exact ⟨_, rfl, k q _ H1 (s2.trans s3) hz (by rw [List.length_map, List.length_range]) (nm_nodup jl h4 (by omega)) fun z hz' => by
          obtain ⟨i, _, rfl⟩ := List.mem_map.mp hz'
          exact nm_wd (by omega) (by omega) j1 ob2 f26⟩
    · obtain ⟨⟨v, rfl⟩, s1, bs, hb, lb, ob⟩ := p
      obtain ⟨rfl, rfl⟩ := y
      refine ⟨_, rfl, _, rfl, _, _, rfl, rfl, _, _, rfl, rfl, ⟨by omega, by omega⟩, _, rfl, _, _, rfl, rfl, .inl ⟨by decide, by decide⟩, _, _, rfl, rfl, _, _, rfl, rfl, (by show (0 : Int) < 36; decide), ?_⟩
      refine ⟨_, hb, by rw [List.length_map, lb]; exact small1000 (by omega), ⟨_, rfl⟩, s1.set hD, bs ++ [_], by rw [upd_same, List.map_append]; rfl, by rw [List.length_append, lb]; rfl, fun x hx => ?_⟩
      rcases List.mem_append.mp hx with hx | hx
      · exact ob x hx
      · rw [List.mem_singleton.mp hx]
        exact ⟨Int.emod_nonneg _ (by decide), Int.emod_lt_of_pos _ (by decide)⟩
end
end Wy
namespace Wy
open PySem L2
abbrev Fct := Str × Str × List Key
def vlD : Key → PyData
  | .inl i => .int i
  | .inr z => .str z
def VOk : Key → Prop
  | .inl _ => True
  | .inr z => Wd z
def FOk (F : Fct) : Prop := Wd F.1 ∧ Wd F.2.1 ∧ F.2.2.length ≤ 4 ∧ ∀ k ∈ F.2.2, VOk k
def FaV (K : PySem.W.Frag) (H : Hp) (x : V) (F : Fct) : Prop := ∃ q p, x = .ref q ∧ H q = some (.tup [.str F.1, .str F.2.1, .ref p]) ∧ SqT K H p (F.2.2.map kV)
theorem FaV.same {K : PySem.W.Frag} {H H' : Hp} {x : V} {F : Fct} (s : Same H H') (h : FaV K H x F) : FaV K H' x F := let ⟨q, p, e, h1, h2⟩ := h; ⟨q, p, e, s _ _ h1, s.seqT h2⟩
def facP (F : Fct) : PyData := .tuple [.str F.1, .str F.2.1, .tuple (F.2.2.map vlD)]
theorem dats_vl {K : PySem.W.Frag} {H : Hp} : ∀ {ks : List Key}, (∀ k ∈ ks, VOk k) → Dats K H (ks.map vlD) (ks.map kV)
  | [], _ => .nil
  | .inl i :: r, h => .cons (.int i) (dats_vl fun k hk => h k (List.mem_cons_of_mem _ hk))
  | .inr z :: r, h => .cons (.str z (h (.inr z) (List.mem_cons_self ..)).ok) (dats_vl fun k hk => h k (List.mem_cons_of_mem _ hk))
theorem FaV.dat {K : PySem.W.Frag} {H : Hp} {x : V} {F : Fct} (h : FaV K H x F) (g : FOk F) : Dat K H (facP F) x := by
  obtain ⟨q, p, rfl, h1, h2⟩ := h
  exact .tup (SqT.of h1) (.cons g.1.dat (.cons g.2.1.dat (.cons (.tup h2 (dats_vl g.2.2.2)) .nil)))
theorem val_ok {k : Key} (h : VOk k) : valD (vlD k) = true := by
  cases k with
  | inl i => rfl
  | inr z =>
    show (false || txtD small (.str z)) = true
    rw [Bool.false_or]
    exact h.txt
theorem fac_ok {F : Fct} (g : FOk F) : factD (facP F) = true := by
  show (txtD small (.str F.1) && (txtD small (.str F.2.1) && (decide ((F.2.2.map vlD).length ≤ 4) && (F.2.2.map vlD).all valD))) = true
  rw [g.1.txt, g.2.1.txt, decide_eq_true (by rw [List.length_map]; exact g.2.2.1), Bool.true_and, Bool.true_and, Bool.true_and, List.all_eq_true]
  intro d hd
  obtain ⟨k, hk, rfl⟩ := List.mem_map.mp hd
  exact val_ok (g.2.2.2 k hk)
theorem okD_vl (n : Nat) {k : Key} (h : VOk k) : okD n (vlD k) := by
  cases k with
  | inl i => cases n <;> trivial
  | inr z => exact h.okD n
theorem fac_okD {F : Fct} (g : FOk F) : okD 6 (facP F) := by
  refine ⟨by show 3 ≤ 10; decide, fun d hd => ?_⟩
  rcases List.mem_cons.mp hd with rfl | hd
  · exact g.1.okD 5
  · rcases List.mem_cons.mp hd with rfl | hd
    · exact g.2.1.okD 5
    · rw [List.mem_singleton.mp hd]
      refine ⟨by rw [List.length_map]; have := g.2.2.1; omega, fun e he => ?_⟩
      obtain ⟨k, hk, rfl⟩ := List.mem_map.mp he
      exact okD_vl 4 (g.2.2.2 k hk)
theorem sqT_at {K : PySem.W.Frag} {H : Hp} {t b : Addr} {zs xs : List V} {o : HO} (ht : H t = some (.lst zs)) (h : SqT K H b xs) : SqT K (upd H t o) b xs := by
  rcases h with (h | ⟨u, h⟩) | h
  · exact .inl (.inl (by rw [upd_ne (fun z => by rw [z, ht] at h; cases h)]; exact h))
  · exact .inl (.inr ⟨u, by rw [upd_ne (fun z => by rw [z, ht] at h; cases h)]; exact h⟩)
  · exact .inr h
theorem FaV.upd {K : PySem.W.Frag} {H : Hp} {D : Addr} {l : List V} {o : HO} {x : V} {F : Fct} (hD : H D = some (.lst l)) (h : FaV K H x F) : FaV K (upd H D o) x F := by
  obtain ⟨q, p, e, h1, h2⟩ := h
  refine ⟨q, p, e, ?_, ?_⟩
  · rw [upd_ne (fun z => by rw [z, hD] at h1; cases h1)]
    exact h1
  · exact sqT_at hD h2
section
variable {P : Program} {w : World} {K : PySem.W.Frag} {mg : Str → Option Value} {base : Heap}
theorem paired_snoc {α β : Type} {F : α → β → Prop} {x : α} {y : β} : ∀ {xs : List α} {ys : List β}, Paired F xs ys → F x y → Paired F (xs ++ [x]) (ys ++ [y])
  | _, _, .nil, h => .cons h .nil
  | _, _, .cons a b, h => .cons a (paired_snoc b h)
theorem cut_keys (L : List Key) (lo hi : Option Int) : ∃ ks : List Key, cutV (L.map kV) lo hi = ks.map kV ∧ (∀ k ∈ ks, k ∈ L) ∧ ks.length ≤ L.length := by
  refine ⟨(L.drop (HT.sIx L.length 0 lo)).take (HT.sIx L.length L.length hi - HT.sIx L.length 0 lo), ?_, fun k hk => List.mem_of_mem_drop (List.mem_of_mem_take hk), ?_⟩
  · unfold cutV
    rw [List.length_map, ← List.map_drop, ← List.map_take]
  · rw [List.length_take, List.length_drop]
    omega
def sp_lfac (K : PySem.W.Frag) : Sp := fun vs H Q _ => ∃ (a : Addr) (ns : List Int), vs = [.ref a] ∧ SqL K H a (ns.map V.int) ∧ ∀ q xs (Fs : List Fct) H', Same H H' → H q = none → H' q = some (.lst xs) → Paired (FaV K H') xs Fs → Fs.length ≤ 71 → (Fs.map (·.1)).Nodup → (∀ F ∈ Fs, FOk F) → Q (.ref q) H'
theorem ok__law_facts (T : Txt K mg) : Def P w K mg base 2 "_law_facts" ["_law_script"] (sp_lfac K) := by
  refine T.t__law_facts.ok sc__law_facts (fun vs H Q E h => ?_) fun f cdv A outer s H vs Q E hr h => ?_
  · obtain ⟨a, ns, rfl, _⟩ := h
    rfl
  · obtain ⟨a, ns, rfl, hA, k⟩ := h
    refine join_at 3 (fun σ H' => H' = H ∧ ∃ (c m : Int), σ = [some (.ref a), some (.int c), some (.int m), none, none, none, none, none] ∧ 0 ≤ m ∧ m ≤ 71) ⟨_, (pss_4
      (ps_set (i := 3) sc__law_facts.nd rfl (Or.inl rfl) (pe_def (ok__law_names T) hr rfl (pa_3 (pe_def (ok__law_cell_at T) hr rfl (pa_2 (pv 0) pe_int)) (pe_def (ok__law_cell_at T) hr rfl (pa_2 (pv 0) pe_int)) (pv 2))))
      (ps_set (i := 4) sc__law_facts.nd rfl (Or.inl rfl) (pe_lst pa_nil))
      (ps_for PassesOwn.never rfl (pi_range1 rfl T.b_range (pa_1 (pv 2))) (pg_name (i := 5) sc__law_facts.nd rfl (Or.inl rfl)) (pss_3
      (ps_set (i := 6) sc__law_facts.nd rfl (Or.inl rfl) (pe_op op_fdiv (pe_def (ok__law_cell_at T) hr rfl (pa_2 (pv 0) (pe_op op_add pe_int (pe_op op_mod (pv 5) pe_int)))) (pe_op op_add pe_int (pe_op op_fdiv (pv 5) pe_int))))
      (ps_set (i := 7) sc__law_facts.nd rfl (Or.inl rfl) (pe_slice (sl_tupA K) (pe_tup (pa_3 (pe_op op_mod (pv 6) (pe_op op_pow pe_int pe_int)) (pe_ix (ix_listK K) (pv 3) (pv 5) (fun _ _ => rfl)) (pe_op op_sub pe_int (pe_op op_mod (pv 6) pe_int)))) (po_some (pe_op op_mod (pv 6) pe_int)) po_none))
      (ps_expr (pe_bm PySem.F.plainAttrs_list PySem.F.slot_list_append PySem.F.type_list_append mt_append (pv 4) (pa_1 (pe_tup (pa_3 (pe_ix (ix_listK K) (pv 3) (pv 5) (fun _ _ => rfl)) (pe_ix (ix_listK K) (pv 3) (pe_op op_mod (pe_op op_fdiv (pv 6) pe_int) (pv 2)) (fun _ _ => rfl)) (pe_slice (sl_tupA K) (pv 7) po_none (po_some pe_int)))))))))
      (ps_ret (pv 4))), ?_⟩ (fun u hu hC => ⟨_, (psr_3
      (ps_set (i := 1) sc__law_facts.nd rfl (Or.inl rfl) (pe_def (ok__law_cell_at T) hr rfl (pa_2 (pv 0) pe_int)))
      (ps_set (i := 2) sc__law_facts.nd rfl (Or.inl rfl) (pe_op op_mod (pe_op op_fdiv (pv 1) pe_int) pe_int))
      (ps_if (pt_cmpR op_eq (pe_op op_mod (pv 1) pe_int) pe_int (nomark _)) (pss_one (ps_set (i := 2) sc__law_facts.nd rfl (Or.inl rfl) (pe_op op_mod (pe_op op_fdiv (pv 1) pe_int) pe_int))) pss_nil)
      hu), ?_⟩)
    · rintro σ H' ⟨rfl, c, m, rfl, m0, m1⟩
      refine ⟨_, rfl, a, ns, 1, rfl, hA, by decide, _, rfl, a, ns, 2, rfl, hA, by decide, _, rfl, _, _, m, rfl, m0, m1, fun q zs H1 s1 hq lz nd wd => ?_⟩
      refine ⟨by decide, fun fA hfA => ?_⟩
      have s2 := same_upd (o := HO.lst []) hfA
      have hA2 := (s1.trans s2).seq hA
      refine ⟨_, rfl, _, rfl, by omega, by omega, for_range (lo := 0) (n := m.toNat) (fun i σ H2 => Same H1 H2 ∧ ∃ (v5 v6 v7 : Option V) (xs : List V) (Fs : List Fct), σ = [some (.ref a), some (.int c), some (.int m), some (.ref q), some (.ref fA), v5, v6, v7] ∧ H2 fA = some (.lst xs) ∧ Paired (FaV K H2) xs Fs ∧ Fs.map (·.1) = zs.take i ∧ ∀ F ∈ Fs, FOk F) ⟨s2, _, _, _, [], [], rfl, upd_same, .nil, rfl, fun _ z => nomatch z⟩ ?_ ?_⟩
      · rintro i σ H2 hi ⟨sm, v5, v6, v7, xs, Fs, rfl, hx, px, en, gF⟩
        have hA3 := (s1.trans sm).seq hA
        have hi' : i < zs.length := by omega
        have hq2 := SqL.of (K := K) (sm _ _ hq)
        have ats : ∀ j : Nat, (h : j < zs.length) → atI (zs.map V.str) (j : Int) = some (V.str zs[j]) := fun j h => atI_nat (by rw [List.getElem?_map, List.getElem?_eq_getElem h]; rfl)
        have p1 : CPow 10 30 := ⟨by decide, by decide, by decide⟩
        have pm : (0 : Int) < 10 ^ (30 : Int).toNat := by decide +kernel
        refine ⟨_, rfl, _, rfl, _, _, rfl, rfl, (by show (0 : Int) < 7; decide), _, _, rfl, rfl, a, ns, _, rfl, hA3, by omega, _, rfl, _, _, rfl, rfl, ⟨by decide, by decide⟩, _, _, rfl, rfl, _, _, rfl, rfl, ⟨by omega, by omega⟩, ?_⟩
        show gName 6 (V.int (ns.getD (12 + (0 + (i : Int)) % 7).toNat 0 / (1 + (0 + (i : Int)) / 7))) _ _ _
        generalize ns.getD (12 + (0 + (i : Int)) % 7).toNat 0 / (1 + (0 + (i : Int)) / 7) = x
        have ai : atI (zs.map V.str) (0 + (i : Int)) = some (V.str zs[i]) := by rw [Int.zero_add]; exact ats i hi'
        refine ⟨_, rfl, _, _, rfl, rfl, p1, _, _, rfl, rfl, pm, _, rfl, _, rfl, _, _, _, _, rfl, rfl, hq2, ai, _, rfl, _, _, rfl, rfl, (by show (0 : Int) < 7; decide), _, _, rfl, rfl, by show 3 ≤ sizeLine; decide, fun t1 ht1 => ?_⟩
        have s3 := same_upd (o := HO.tup (([.inl (x % 10 ^ (30 : Int).toNat), .inr zs[i], .inl (0 - x % 7)] : List Key).map kV)) ht1
        refine ⟨_, rfl, _, _, rfl, rfl, (by show (0 : Int) < 3; decide), _, rfl, _, _, rfl, SqT.of (xs := ([.inl (x % 10 ^ (30 : Int).toNat), .inr zs[i], .inl (0 - x % 7)] : List Key).map kV) upd_same, fun p2 H3 s4 hp2 => ?_⟩
        obtain ⟨k1, ek1, mk1, lk1⟩ := cut_keys [.inl (x % 10 ^ (30 : Int).toNat), .inr zs[i], .inl (0 - x % 7)] (some (x % 3)) none
        have hp2' : SqT K H3 p2 (k1.map kV) := by rw [← ek1]; exact hp2
        have sA := s3.trans s4
        obtain ⟨e, hat, he⟩ := atI_in (xs := zs.map V.str) (i := x / 3 % m) (Int.emod_nonneg _ (by omega)) (by rw [List.length_map, lz, Int.toNat_of_nonneg m0]; exact Int.emod_lt_of_pos _ (by omega))
        obtain ⟨z2, hz2, rfl⟩ := List.mem_map.mp he
        have hq3 := sA.seq hq2
        have hx3 := sA _ _ hx
        have lx : xs.length = Fs.length := Paired.length px
        have lF : Fs.length ≤ i := by have := congrArg List.length en; rw [List.length_map, List.length_take] at this; omega
        refine ⟨_, rfl, .inl ⟨rfl, _, SqL.of hx3⟩, _, rfl, _, rfl, _, _, _, _, rfl, rfl, hq3, ai, _, rfl, _, rfl, _, _, rfl, rfl, ⟨by decide, by decide⟩, _, rfl, _, _, rfl, rfl, (by show 0 < m; omega), _, _, _, _, rfl, rfl, hq3, hat, _, rfl, _, rfl, _, _, rfl, hp2', fun p3 H4 s5 hp3 => ?_⟩
        obtain ⟨k2, ek2, mk2, lk2⟩ := cut_keys k1 none (some 2)
        rw [ek2] at hp3
        refine ⟨by show 3 ≤ sizeLine; decide, fun t2 ht2 => ?_⟩
        have s6 := same_upd (o := HO.tup [V.str zs[i], .str z2, .ref p3]) ht2
        have sB := sA.trans (s5.trans s6)
        have hx6 := sB _ _ hx
        have fv : FaV K (upd H4 t2 (.tup [V.str zs[i], .str z2, .ref p3])) (.ref t2) (zs[i], z2, k2) := ⟨t2, p3, rfl, upd_same, s6.seqT hp3⟩
        refine ⟨_, _, _, rfl, rfl, hx6, small1000 (by omega), (sm.trans sB).set hfA, _, _, _, xs ++ [.ref t2], Fs ++ [(zs[i], z2, k2)], rfl, upd_same, paired_snoc (L2.Paired.mapP px fun _ _ w => (w.same sB).upd hx6) (fv.upd hx6), ?_, fun F hF => ?_⟩
        · rw [List.map_append, en, List.take_succ, List.getElem?_eq_getElem hi']
          rfl
        · rcases List.mem_append.mp hF with hF | hF
          · exact gF F hF
          · rw [List.mem_singleton.mp hF]
            refine ⟨wd _ (List.getElem_mem hi'), wd _ hz2, by show k2.length ≤ 4; have : k1.length ≤ 3 := lk1; omega, fun k hk => ?_⟩
            have := mk1 k (mk2 k hk)
            simp only [List.mem_cons, List.not_mem_nil, or_false] at this
            rcases this with rfl | rfl | rfl
            · trivial
            · exact wd _ (List.getElem_mem hi')
            · trivial
      · rintro σ H2 ⟨sm, v5, v6, v7, xs, Fs, rfl, hx, px, en, gF⟩
        rw [List.take_of_length_le (by omega)] at en
        exact ⟨_, rfl, k fA xs Fs H2 (s1.trans sm) (s1.free hfA) hx px (by have := congrArg List.length en; rw [List.length_map] at this; omega) (by rw [en]; exact nd) gF⟩
    · refine ⟨_, rfl, a, ns, 0, rfl, hA, by decide, ?_⟩
      generalize hcc : ns.getD (0 : Int).toNat 0 = c
      have d0 := Int.emod_nonneg (c / 8) (show (8 : Int) ≠ 0 by decide)
      have d1 := Int.emod_lt_of_pos (c / 8) (show (0 : Int) < 8 by decide)
      have e0 := Int.emod_nonneg (c / 8) (show (71 : Int) ≠ 0 by decide)
      have e1 := Int.emod_lt_of_pos (c / 8) (show (0 : Int) < 71 by decide)
      refine ⟨_, rfl, _, _, rfl, rfl, ⟨by decide, by decide⟩, _, _, rfl, rfl, (by show (0 : Int) < 8; decide), ?_⟩
      refine ⟨_, rfl, _, _, rfl, rfl, (by show (0 : Int) < 8; decide), rfl, _, rfl, ite2 (fun _ => ?_) (fun _ => ?_)⟩
      · refine ⟨_, rfl, _, _, rfl, rfl, ⟨by decide, by decide⟩, _, _, rfl, rfl, (by show (0 : Int) < 71; decide), hC _ _ ⟨rfl, c, _, rfl, e0, by omega⟩⟩
      · exact hC _ _ ⟨rfl, c, _, rfl, d0, by omega⟩
end
end Wy
namespace Wy
open PySem L2
mutual
/-- no list within -/
def noL : PyData → Bool
  | .list _ => false
  | .tuple ds => noLs ds
  | _ => true
def noLs : List PyData → Bool
  | [] => true
  | d :: r => noL d && noLs r
end
section
variable {K : PySem.W.Frag} {H : Hp} {D : Addr} {l : List V} {o : HO}
mutual
theorem dat_at (hD : H D = some (.lst l)) : ∀ (d : PyData) (x : V), noL d = true → Dat K H d x → Dat K (upd H D o) d x
  | _, _, _, .non => .non
  | _, _, _, .bl b => .bl b
  | _, _, _, .int i => .int i
  | _, _, _, .str x h => .str x h
  | _, _, hn, .lst _ _ => by cases hn
  | _, _, hn, .tup a b => .tup (sqT_at hD a) (dats_at hD _ _ hn b)
theorem dats_at (hD : H D = some (.lst l)) : ∀ (ds : List PyData) (xs : List V), noLs ds = true → Dats K H ds xs → Dats K (upd H D o) ds xs
  | _, _, _, .nil => .nil
  | _, _, hn, .cons a b => by
    have hn : (noL _ && noLs _) = true := hn
    rw [Bool.and_eq_true] at hn
    exact .cons (dat_at hD _ _ hn.1 a) (dats_at hD _ _ hn.2 b)
end
end
abbrev Rul := PyData × List PyData × List PyData
def rulP (R : Rul) : PyData := .tuple [R.1, .tuple R.2.1, .tuple R.2.2]
def RuV (K : PySem.W.Frag) (H : Hp) (x : V) (R : Rul) : Prop := ∃ r h b c bx cx, x = .ref r ∧ H r = some (.tup [h, .ref b, .ref c]) ∧ Dat K H R.1 h ∧ SqT K H b bx ∧ Dats K H R.2.1 bx ∧ SqT K H c cx ∧ Dats K H R.2.2 cx
theorem RuV.same {K : PySem.W.Frag} {H H' : Hp} {x : V} {R : Rul} (s : Same H H') (q : RuV K H x R) : RuV K H' x R := let ⟨r, h, b, c, bx, cx, e, h1, h2, h3, h4, h5, h6⟩ := q; ⟨r, h, b, c, bx, cx, e, s _ _ h1, Dat.same s _ _ h2, s.seqT h3, Dats.same s _ _ h4, s.seqT h5, Dats.same s _ _ h6⟩
theorem RuV.dat {K : PySem.W.Frag} {H : Hp} {x : V} {R : Rul} (q : RuV K H x R) : Dat K H (rulP R) x := by
  obtain ⟨r, h, b, c, bx, cx, rfl, h1, h2, h3, h4, h5, h6⟩ := q
  exact .tup (SqT.of h1) (.cons h2 (.cons (.tup h3 h4) (.cons (.tup h5 h6) .nil)))
def newS : Str := "New"
def ROk (R : Rul) : Prop := ruleB (rulP R) = true ∧ okD 6 (rulP R) ∧ newS ∉ bodyVars R.2.1 ∧ 1 ≤ R.2.1.length ∧ R.2.1.length ≤ 2 ∧ R.2.2.length ≤ 2 ∧ noL R.1 = true ∧ noLs R.2.1 = true ∧ noLs R.2.2 = true
def markL : List Str := (List.range 26).flatMap fun i => (List.range 4).map fun j => (⟨((("XYZABCDEFGHIJKLMNOPQRSTUVW" : Str).cps.toList.drop i).take 1 ++ ("ab3" : Str).cps.toList.take j).toArray⟩ : Str)
theorem mark_ok : ∀ z ∈ markL, txtB capS z = true ∧ PyData.strOk z = true ∧ z.length ≤ 4 ∧ z ≠ newS := by decide +kernel
def hdD (z : Str) (n : Int) (j : Nat) : PyData := .tuple [.str "way", .tuple ([.str z, .int n, .str "w"].take j)]
def bdD (z : Str) (j : Nat) : List PyData := [.tuple [.str "edge", .tuple [.str z, .int 7]], .tuple [.str "t", .tuple [.str z, .str "Q", .str z]]].take j
def chD (z : Str) (n : Int) (j : Nat) : List PyData := [.tuple [.str "<", .str z, .int n], .tuple [.str "!=", .str "a", .str z]].take j
theorem rul_ok {z : Str} (hz : txtB capS z = true) (hl : z.length ≤ 4) (hn : z ≠ newS) (n m : Int) {i j k : Nat} (hi : i ≤ 3) (hj : j = 1 ∨ j = 2) (hk : k ≤ 2) : ROk (hdD z n i, bdD z j, chD z m k) := by
  have w1 : txtB small "way" = true := by decide +kernel
  have w2 : txtB small "edge" = true := by decide +kernel
  have w3 : txtB small "t" = true := by decide +kernel
  have w4 : txtB small "w" = true := by decide +kernel
  have w5 : txtB small "a" = true := by decide +kernel
  have c4 : txtB capS "w" = false := by decide +kernel
  have c5 : txtB capS "a" = false := by decide +kernel
  have hQ : txtB capS "Q" = true := by decide +kernel
  have hnQ : newS ≠ ("Q" : Str) := by decide +kernel
  have hn' : newS ≠ z := fun e => hn e.symm
  have g1 : signB (.str "<") = true := by decide +kernel
  have g2 : signB (.str "!=") = true := by decide +kernel
  have hz200 : z.length ≤ 200 := by omega
  have l1 : ("way" : Str).length ≤ 200 := by decide +kernel
  have l2 : ("edge" : Str).length ≤ 200 := by decide +kernel
  have l3 : ("t" : Str).length ≤ 200 := by decide +kernel
  have l4 : ("w" : Str).length ≤ 200 := by decide +kernel
  have l5 : ("a" : Str).length ≤ 200 := by decide +kernel
  have l6 : ("Q" : Str).length ≤ 200 := by decide +kernel
  have l7 : ("<" : Str).length ≤ 200 := by decide +kernel
  have l8 : ("!=" : Str).length ≤ 200 := by decide +kernel
  have hi' : i = 0 ∨ i = 1 ∨ i = 2 ∨ i = 3 := by omega
  have hk' : k = 0 ∨ k = 1 ∨ k = 2 := by omega
  have A : ruleB (rulP (hdD z n i, bdD z j, chD z m k)) = true := by
    rcases hi' with rfl | rfl | rfl | rfl <;> rcases hj with rfl | rfl <;> rcases hk' with rfl | rfl | rfl <;>
      simp [rulP, hdD, bdD, chD, ruleB, atomB, termsB, atomsB, upD, choicesB, choiceB, termB, valD, wholeD, txtD, headKnown, parts, bodyVars, atomVars, vnames, var?, knownB, chKnown, List.flatMap, hz, hQ, c4, c5, w1, w2, w3, w4, w5, g1, g2]
  have B : okD 6 (rulP (hdD z n i, bdD z j, chD z m k)) := by
    rcases hi' with rfl | rfl | rfl | rfl <;> rcases hj with rfl | rfl <;> rcases hk' with rfl | rfl | rfl <;>
      simp [rulP, hdD, bdD, chD, okD, hz200, l1, l2, l3, l4, l5, l6, l7, l8]
  have C : newS ∉ bodyVars (bdD z j) := by
    rcases hj with rfl | rfl <;> simp [bdD, bodyVars, atomVars, vnames, var?, List.flatMap, hz, hQ, hn', hnQ]
  refine ⟨A, B, C, ?_, ?_, ?_, ?_, ?_, ?_⟩
  · rcases hj with rfl | rfl <;> simp [bdD]
  · rcases hj with rfl | rfl <;> simp [bdD]
  · show (chD z m k).length ≤ 2
    unfold chD
    rw [List.length_take]
    show min k 2 ≤ 2
    omega
  · rcases hi' with rfl | rfl | rfl | rfl <;> rfl
  · rcases hj with rfl | rfl <;> rfl
  · rcases hk' with rfl | rfl | rfl <;> rfl
theorem dats_take {K : PySem.W.Frag} {H : Hp} : ∀ {ds : List PyData} {xs : List V} (n : Nat), Dats K H ds xs → Dats K H (ds.take n) (xs.take n)
  | _, _, 0, _ => .nil
  | _, _, _ + 1, .nil => .nil
  | _, _, n + 1, .cons a b => .cons a (dats_take n b)
theorem cut_take (xs : List V) {x : Int} (h : 0 ≤ x) : cutV xs none (some x) = xs.take x.toNat := by
  obtain ⟨n, rfl⟩ := Int.eq_ofNat_of_zero_le h
  rw [Int.toNat_natCast]
  unfold cutV
  rw [HT.sIx_none, List.drop_zero, Nat.sub_zero, HT.sIx_nat]
  by_cases q : n ≤ xs.length
  · rw [Nat.min_eq_left q]
  · rw [Nat.min_eq_right (by omega), List.take_length, List.take_of_length_le (by omega)]
def sgC : Str := "XYZABCDEFGHIJKLMNOPQRSTUVW"
theorem mark_text {x y : Int} (x0 : 0 ≤ x) (x1 : x < 26) (y0 : 0 ≤ y) (y1 : y < 4) : ∃ c, atI sgC.cps.toList x = some c ∧ ((⟨#[c]⟩ : Str) ++ cutS "ab3" none (some y)) ∈ markL := by
  obtain ⟨i, rfl⟩ := Int.eq_ofNat_of_zero_le x0
  obtain ⟨j, rfl⟩ := Int.eq_ofNat_of_zero_le y0
  have h : ∀ (i : Fin 26) (j : Fin 4), ∃ c, sgC.cps.toList[(i : Nat)]? = some c ∧ ((⟨#[c]⟩ : Str) ++ cutS "ab3" none (some ((j : Nat) : Int))) ∈ markL := by decide +kernel
  obtain ⟨c, h1, h2⟩ := h ⟨i, by omega⟩ ⟨j, by omega⟩
  exact ⟨c, atI_nat h1, h2⟩
end Wy
namespace Wy
open PySem L2
section
variable {P : Program} {w : World} {K : PySem.W.Frag} {mg : Str → Option Value} {base : Heap}
theorem RuV.upd {H : Hp} {D : Addr} {l : List V} {o : HO} {x : V} {R : Rul} (hD : H D = some (.lst l)) (g : ROk R) (h : RuV K H x R) : RuV K (upd H D o) x R := by
  obtain ⟨r, h, b, c, bx, cx, e, h1, h2, h3, h4, h5, h6⟩ := h
  exact ⟨r, h, b, c, bx, cx, e, by rw [upd_ne (fun z => by rw [z, hD] at h1; cases h1)]; exact h1, dat_at hD _ _ g.2.2.2.2.2.2.1 h2, sqT_at hD h3, dats_at hD _ _ g.2.2.2.2.2.2.2.1 h4, sqT_at hD h5, dats_at hD _ _ g.2.2.2.2.2.2.2.2 h6⟩
theorem rus_upd {H : Hp} {D : Addr} {l : List V} {o : HO} (hD : H D = some (.lst l)) : ∀ {xs : List V} {Rs : List Rul}, Paired (RuV K H) xs Rs → (∀ R ∈ Rs, ROk R) → Paired (RuV K (L2.upd H D o)) xs Rs
  | _, _, .nil, _ => .nil
  | _, _, .cons a b, h => .cons (a.upd hD (h _ (List.mem_cons_self ..))) (rus_upd hD b fun R hR => h R (List.mem_cons_of_mem _ hR))
def sp_lrul (K : PySem.W.Frag) : Sp := fun vs H Q _ => ∃ (a : Addr) (ns : List Int), vs = [.ref a] ∧ SqL K H a (ns.map V.int) ∧ ∀ q xs (Rs : List Rul) H', Same H H' → H q = none → H' q = some (.lst xs) → Paired (RuV K H') xs Rs → Rs.length ≤ 5 → (∀ R ∈ Rs, ROk R) → Q (.ref q) H'
theorem ok__law_rules (T : Txt K mg) : Def P w K mg base 2 "_law_rules" ["_law_script"] (sp_lrul K) := by
  refine T.t__law_rules.ok sc__law_rules (fun vs H Q E h => ?_) fun f cdv A outer s H vs Q E hr h => ?_
  · obtain ⟨a, ns, rfl, _⟩ := h
    rfl
  · obtain ⟨a, ns, rfl, hA, k⟩ := h
    refine ⟨_, (pss_3
      (ps_set (i := 1) sc__law_rules.nd rfl (Or.inl rfl) (pe_lst pa_nil))
      (ps_for PassesOwn.never rfl (pi_range1 rfl T.b_range (pa_1 (pe_op op_mod (pe_def (ok__law_cell_at T) hr rfl (pa_2 (pv 0) pe_int)) pe_int))) (pg_name (i := 2) sc__law_rules.nd rfl (Or.inl rfl)) (pss_5
      (ps_set (i := 3) sc__law_rules.nd rfl (Or.inl rfl) (pe_def (ok__law_cell_at T) hr rfl (pa_2 (pv 0) (pe_op op_add pe_int (pv 2)))))
      (ps_set (i := 4) sc__law_rules.nd rfl (Or.inl rfl) (pe_op op_add_str (pe_ix ix_str pe_str (pe_op op_mod (pv 3) pe_int) (fun _ _ => rfl)) (pe_slice sl_str pe_str po_none (po_some (pe_op op_mod (pe_op op_fdiv (pv 3) pe_int) pe_int)))))
      (ps_set (i := 5) sc__law_rules.nd rfl (Or.inl rfl) (pe_slice (sl_tupA K) (pe_tup (pa_2 (pe_tup (pa_2 pe_str (pe_tup (pa_2 (pv 4) pe_int)))) (pe_tup (pa_2 pe_str (pe_tup (pa_3 (pv 4) pe_str (pv 4))))))) po_none (po_some (pe_op op_add pe_int (pe_op op_mod (pe_op op_fdiv (pv 3) pe_int) pe_int)))))
      (ps_set (i := 6) sc__law_rules.nd rfl (Or.inl rfl) (pe_tup (pa_2 pe_str (pe_slice (sl_tupA K) (pe_tup (pa_3 (pv 4) (pe_op op_mod (pv 3) (pe_op op_pow pe_int pe_int)) pe_str)) po_none (po_some (pe_op op_mod (pe_op op_fdiv (pv 3) pe_int) pe_int))))))
      (ps_expr (pe_bm PySem.F.plainAttrs_list PySem.F.slot_list_append PySem.F.type_list_append mt_append (pv 1) (pa_1 (pe_tup (pa_3 (pv 6) (pv 5) (pe_slice (sl_tupA K) (pe_tup (pa_2 (pe_tup (pa_3 pe_str (pv 4) (pe_op op_sub pe_int (pe_op op_mod (pv 3) (pe_op op_pow pe_int pe_int))))) (pe_tup (pa_3 pe_str pe_str (pv 4))))) po_none (po_some (pe_op op_mod (pv 3) pe_int))))))))))
      (ps_ret (pv 1))), ?_⟩
    refine ⟨by decide, fun rA hrA => ?_⟩
    have s1 := same_upd (o := HO.lst []) hrA
    refine ⟨_, rfl, a, ns, 3, rfl, s1.seq hA, by decide, _, _, rfl, rfl, (by show (0 : Int) < 6; decide), ?_⟩
    have m0 := Int.emod_nonneg (ns.getD (3 : Int).toNat 0) (show (6 : Int) ≠ 0 by decide)
    have m1 := Int.emod_lt_of_pos (ns.getD (3 : Int).toNat 0) (show (0 : Int) < 6 by decide)
    refine ⟨_, rfl, by omega, by omega, for_range (lo := 0) (n := (ns.getD (3 : Int).toNat 0 % 6).toNat) (fun i σ H2 => Same H H2 ∧ ∃ (v2 v3 v4 v5 v6 : Option V) (xs : List V) (Rs : List Rul), σ = [some (.ref a), some (.ref rA), v2, v3, v4, v5, v6] ∧ H2 rA = some (.lst xs) ∧ Paired (RuV K H2) xs Rs ∧ Rs.length = i ∧ ∀ R ∈ Rs, ROk R) ⟨s1, _, _, _, _, _, [], [], rfl, upd_same, .nil, rfl, fun _ z => nomatch z⟩ ?_ ?_⟩
    · rintro i σ H2 hi ⟨sm, v2, v3, v4, v5, v6, xs, Rs, rfl, hx, px, lR, gR⟩
      refine ⟨_, rfl, _, rfl, _, _, rfl, rfl, a, ns, _, rfl, sm.seq hA, by omega, ?_⟩
      generalize ns.getD (19 + (0 + (i : Int))).toNat 0 = x
      have a0 := Int.emod_nonneg x (show (26 : Int) ≠ 0 by decide)
      have a1 := Int.emod_lt_of_pos x (show (0 : Int) < 26 by decide)
      have b0 := Int.emod_nonneg (x / 26) (show (4 : Int) ≠ 0 by decide)
      have b1 := Int.emod_lt_of_pos (x / 26) (show (0 : Int) < 4 by decide)
      obtain ⟨c, hc, hm⟩ := mark_text a0 a1 b0 b1
      obtain ⟨hz, zo, zl, zn⟩ := mark_ok _ hm
      refine ⟨_, rfl, _, _, rfl, rfl, (by show (0 : Int) < 26; decide), _, _, _, rfl, rfl, by decide, hc, ?_⟩
      refine ⟨_, rfl, _, _, rfl, rfl, ⟨by decide, by decide⟩, _, _, rfl, rfl, (by show (0 : Int) < 4; decide), _, rfl, _, rfl, by decide, _, _, rfl, rfl, ?_, ?_⟩
      · rw [← Str.length_append]
        exact Nat.le_trans zl (by decide)
      generalize (⟨#[c]⟩ : Str) ++ cutS "ab3" none (some (x / 26 % 4)) = z at *
      have p1 : CPow 10 30 := ⟨by decide, by decide, by decide⟩
      have pm : (0 : Int) < 10 ^ (30 : Int).toNat := by decide +kernel
      have p2 : CPow 10 9 := ⟨by decide, by decide, by decide⟩
      have pm2 : (0 : Int) < 10 ^ (9 : Int).toNat := by decide +kernel
      have so : ∀ s : Str, s = "way" ∨ s = "edge" ∨ s = "t" ∨ s = "w" ∨ s = "a" ∨ s = "Q" ∨ s = "<" ∨ s = "!=" → PyData.strOk s = true := fun s hs => by rcases hs with rfl | rfl | rfl | rfl | rfl | rfl | rfl | rfl <;> decide +kernel
      refine ⟨_, rfl, by show 2 ≤ sizeLine; decide, fun t1 ht1 => ?_⟩
      have s2 := same_upd (o := HO.tup [V.str z, .int 7]) ht1
      refine ⟨by show 2 ≤ sizeLine; decide, fun t2 ht2 => ?_⟩
      have s3 := same_upd (o := HO.tup [V.str "edge", .ref t1]) ht2
      refine ⟨_, rfl, _, rfl, by show 3 ≤ sizeLine; decide, fun t3 ht3 => ?_⟩
      have s4 := same_upd (o := HO.tup [V.str z, .str "Q", .str z]) ht3
      refine ⟨by show 2 ≤ sizeLine; decide, fun t4 ht4 => ?_⟩
      have s5 := same_upd (o := HO.tup [V.str "t", .ref t3]) ht4
      refine ⟨by show 2 ≤ sizeLine; decide, fun t5 ht5 => ?_⟩
      have s6 := same_upd (o := HO.tup [V.ref t2, .ref t4]) ht5
      have d0 := Int.emod_nonneg (x / 104) (show (2 : Int) ≠ 0 by decide)
      have d1 := Int.emod_lt_of_pos (x / 104) (show (0 : Int) < 2 by decide)
      have e0 := Int.emod_nonneg (x / 208) (show (4 : Int) ≠ 0 by decide)
      have e1 := Int.emod_lt_of_pos (x / 208) (show (0 : Int) < 4 by decide)
      have f0 := Int.emod_nonneg x (show (3 : Int) ≠ 0 by decide)
      have f1 := Int.emod_lt_of_pos x (show (0 : Int) < 3 by decide)
      refine ⟨_, rfl, _, _, rfl, rfl, ⟨by decide, by decide⟩, _, _, rfl, rfl, (by show (0 : Int) < 2; decide), _, _, rfl, rfl, _, rfl, _, _, rfl, SqT.of upd_same, fun p6 H6 s7 hp6 => ?_⟩
      rw [cut_take _ (by omega)] at hp6
      have sA := s2.trans (s3.trans (s4.trans (s5.trans (s6.trans s7))))
      have bd : Dats K H6 (bdD z (1 + x / 104 % 2).toNat) ([V.ref t2, .ref t4].take (1 + x / 104 % 2).toNat) := by
        refine dats_take _ (.cons (.tup (SqT.of ((s4.trans (s5.trans (s6.trans s7))) _ _ upd_same)) (.cons (.str _ (so _ (by simp))) (.cons (.tup (SqT.of ((s3.trans (s4.trans (s5.trans (s6.trans s7)))) _ _ upd_same)) (.cons (.str _ zo) (.cons (.int 7) .nil))) .nil))) (.cons (.tup (SqT.of ((s6.trans s7) _ _ upd_same)) (.cons (.str _ (so _ (by simp))) (.cons (.tup (SqT.of ((s5.trans (s6.trans s7)) _ _ upd_same)) (.cons (.str _ zo) (.cons (.str _ (so _ (by simp))) (.cons (.str _ zo) .nil)))) .nil))) .nil))
      refine ⟨_, rfl, _, rfl, _, _, rfl, rfl, p1, _, _, rfl, rfl, pm, by show 3 ≤ sizeLine; decide, fun t7 ht7 => ?_⟩
      have s8 := same_upd (o := HO.tup [V.str z, .int (x % 10 ^ (30 : Int).toNat), .str "w"]) ht7
      refine ⟨_, rfl, _, _, rfl, rfl, ⟨by decide, by decide⟩, _, _, rfl, rfl, (by show (0 : Int) < 4; decide), _, rfl, _, _, rfl, SqT.of upd_same, fun p8 H8 s9 hp8 => ?_⟩
      rw [cut_take _ e0] at hp8
      refine ⟨by show 2 ≤ sizeLine; decide, fun t9 ht9 => ?_⟩
      have s10 := same_upd (o := HO.tup [V.str "way", .ref p8]) ht9
      have hd : Dat K (L2.upd H8 t9 (.tup [V.str "way", .ref p8])) (hdD z (x % 10 ^ (30 : Int).toNat) (x / 208 % 4).toNat) (.ref t9) :=
        .tup (SqT.of upd_same) (.cons (.str _ (so _ (by simp))) (.cons (.tup (s10.seqT hp8) (dats_take _ (.cons (.str _ zo) (.cons (.int _) (.cons (.str _ (so _ (by simp))) .nil))))) .nil))
      have sB := s8.trans (s9.trans s10)
      have bd9 := Dats.same sB _ _ bd
      have hb9 := sB.seqT hp6
      have hx9 := (sA.trans sB) _ _ hx
      have px9 : Paired (RuV K (L2.upd H8 t9 (.tup [V.str "way", .ref p8]))) xs Rs := L2.Paired.mapP px fun _ _ q => q.same (sA.trans sB)
      have sm9 := sm.trans (sA.trans sB)
      generalize L2.upd H8 t9 (.tup [V.str "way", .ref p8]) = H9 at *
      refine ⟨_, rfl, .inl ⟨rfl, _, SqL.of hx9⟩, _, rfl, _, rfl, _, rfl, _, rfl, _, _, rfl, rfl, p2, _, _, rfl, rfl, pm2, _, _, rfl, rfl, by show 3 ≤ sizeLine; decide, fun u1 hu1 => ?_⟩
      have r1 := same_upd (o := HO.tup [V.str "<", .str z, .int (0 - x % 10 ^ (9 : Int).toNat)]) hu1
      refine ⟨_, rfl, by show 3 ≤ sizeLine; decide, fun u2 hu2 => ?_⟩
      have r2 := same_upd (o := HO.tup [V.str "!=", .str "a", .str z]) hu2
      refine ⟨by show 2 ≤ sizeLine; decide, fun u3 hu3 => ?_⟩
      have r3 := same_upd (o := HO.tup [V.ref u1, .ref u2]) hu3
      refine ⟨_, rfl, _, _, rfl, rfl, (by show (0 : Int) < 3; decide), _, rfl, _, _, rfl, SqT.of upd_same, fun p4 H4 r4 hp4 => ?_⟩
      rw [cut_take _ f0] at hp4
      have cd : Dats K H4 (chD z (0 - x % 10 ^ (9 : Int).toNat) (x % 3).toNat) ([V.ref u1, .ref u2].take (x % 3).toNat) :=
        dats_take _ (.cons (.tup (SqT.of ((r2.trans (r3.trans r4)) _ _ upd_same)) (.cons (.str _ (so _ (by simp))) (.cons (.str _ zo) (.cons (.int _) .nil)))) (.cons (.tup (SqT.of ((r3.trans r4) _ _ upd_same)) (.cons (.str _ (so _ (by simp))) (.cons (.str _ (so _ (by simp))) (.cons (.str _ zo) .nil)))) .nil))
      refine ⟨by show 3 ≤ sizeLine; decide, fun u5 hu5 => ?_⟩
      have r5 := same_upd (o := HO.tup [V.ref t9, .ref p6, .ref p4]) hu5
      have rA' := r1.trans (r2.trans (r3.trans (r4.trans r5)))
      have ok := rul_ok hz zl zn (x % 10 ^ (30 : Int).toNat) (0 - x % 10 ^ (9 : Int).toNat) (i := (x / 208 % 4).toNat) (j := (1 + x / 104 % 2).toNat) (k := (x % 3).toNat) (by omega) (by omega) (by omega)
      have rv : RuV K (L2.upd H4 u5 (.tup [V.ref t9, .ref p6, .ref p4])) (.ref u5) (hdD z (x % 10 ^ (30 : Int).toNat) (x / 208 % 4).toNat, bdD z (1 + x / 104 % 2).toNat, chD z (0 - x % 10 ^ (9 : Int).toNat) (x % 3).toNat) :=
        ⟨u5, .ref t9, p6, p4, _, _, rfl, upd_same, Dat.same rA' _ _ hd, rA'.seqT hb9, Dats.same rA' _ _ bd9, r5.seqT hp4, Dats.same r5 _ _ cd⟩
      have hx5 := rA' _ _ hx9
      have lx : xs.length = Rs.length := Paired.length px
      have gR' : ∀ R ∈ Rs ++ [(hdD z (x % 10 ^ (30 : Int).toNat) (x / 208 % 4).toNat, bdD z (1 + x / 104 % 2).toNat, chD z (0 - x % 10 ^ (9 : Int).toNat) (x % 3).toNat)], ROk R := fun R hR => by
        rcases List.mem_append.mp hR with hR | hR
        · exact gR R hR
        · rw [List.mem_singleton.mp hR]
          exact ok
      exact ⟨_, _, _, rfl, rfl, hx5, small1000 (by omega), (sm9.trans rA').set hrA, _, _, _, _, _, xs ++ [.ref u5], _, rfl, upd_same, rus_upd hx5 (paired_snoc (L2.Paired.mapP px9 fun _ _ q => q.same rA') rv) gR', by rw [List.length_append, lR]; rfl, gR'⟩
    · rintro σ H2 ⟨sm, v2, v3, v4, v5, v6, xs, Rs, rfl, hx, px, lR, gR⟩
      exact ⟨_, rfl, k rA xs Rs H2 sm hrA hx px (by omega) gR⟩
end
end Wy
namespace Wy
open PySem L2
def Kp (L : Addr → Prop) (H H' : Hp) : Prop := ∀ b o, H b = some o → ¬ L b → H' b = some o
def LL (L : Addr → Prop) (H : Hp) : Prop := ∀ b, L b → ∃ l, H b = some (.lst l)
theorem LL.trans {L : Addr → Prop} {H H' : Hp} (h : LL L H) (s : Same H H') : LL L H' := fun b hb => let ⟨l, e⟩ := h b hb; ⟨l, s _ _ e⟩
theorem Kp.refl (L : Addr → Prop) (H : Hp) : Kp L H H := fun _ _ e _ => e
theorem Kp.trans {L : Addr → Prop} {H H1 H2 : Hp} (a : Kp L H H1) (b : Kp L H1 H2) : Kp L H H2 := fun c o e n => b c o (a c o e n) n
theorem Kp.same {L : Addr → Prop} {H H' : Hp} (s : Same H H') : Kp L H H' := fun b o e _ => s b o e
theorem Kp.set {L : Addr → Prop} {H : Hp} {D : Addr} {o : HO} (h : L D) : Kp L H (L2.upd H D o) := fun b u e n => by rw [upd_ne (fun z => by rw [z] at n; exact n h)]; exact e
theorem LL.set {L : Addr → Prop} {H : Hp} {D : Addr} {l : List V} (h : LL L H) : LL L (L2.upd H D (.lst l)) := fun b hb => by
  by_cases e : b = D
  · rw [e]; exact ⟨l, upd_same⟩
  · rw [upd_ne e]; exact h b hb
def DS (K : PySem.W.Frag) (L : Addr → Prop) (H : Hp) (x : V) (d : PyData) : Prop := ∀ H', Kp L H H' → Dat K H' d x
theorem DS.keep {K : PySem.W.Frag} {L : Addr → Prop} {H H' : Hp} {x : V} {d : PyData} (h : DS K L H x d) (k : Kp L H H') : DS K L H' x d := fun H'' k' => h H'' (k.trans k')
theorem DS.dat {K : PySem.W.Frag} {L : Addr → Prop} {H : Hp} {x : V} {d : PyData} (h : DS K L H x d) : Dat K H d x := h H (Kp.refl _ _)
section
variable {K : PySem.W.Frag} {L : Addr → Prop} {H H' : Hp}
theorem sqT_kp (s : LL L H) (k : Kp L H H') {b : Addr} {xs : List V} (h : SqT K H b xs) : SqT K H' b xs := by
  have no : ∀ o, H b = some o → (∀ l, o ≠ .lst l) → H' b = some o := fun o e n => k b o e fun q => by
    obtain ⟨l, e'⟩ := s b q
    rw [e] at e'
    cases e'
    exact n l rfl
  rcases h with (h | ⟨u, h⟩) | h
  · exact .inl (.inl (no _ h fun l q => by cases q))
  · exact .inl (.inr ⟨u, no _ h fun l q => by cases q⟩)
  · exact .inr h
mutual
theorem dat_kp (s : LL L H) (k : Kp L H H') : ∀ (d : PyData) (x : V), noL d = true → Dat K H d x → Dat K H' d x
  | _, _, _, .non => .non
  | _, _, _, .bl b => .bl b
  | _, _, _, .int i => .int i
  | _, _, _, .str x h => .str x h
  | _, _, hn, .lst _ _ => by cases hn
  | _, _, hn, .tup a b => .tup (sqT_kp s k a) (dats_kp s k _ _ hn b)
theorem dats_kp (s : LL L H) (k : Kp L H H') : ∀ (ds : List PyData) (xs : List V), noLs ds = true → Dats K H ds xs → Dats K H' ds xs
  | _, _, _, .nil => .nil
  | _, _, hn, .cons a b => by
    have hn : (noL _ && noLs _) = true := hn
    rw [Bool.and_eq_true] at hn
    exact .cons (dat_kp s k _ _ hn.1 a) (dats_kp s k _ _ hn.2 b)
end
theorem ds_of (s : LL L H) {d : PyData} {x : V} (hn : noL d = true) (h : Dat K H d x) : DS K L H x d := fun _ k => dat_kp s k d x hn h
theorem ds_list {l : Addr} {xs : List V} {ds : List PyData} (s : LL L H) (hl : H l = some (.lst xs)) (hn : ¬ L l) (hs : noLs ds = true) (h : Dats K H ds xs) : DS K L H (.ref l) (.list ds) := fun _ k =>
  .lst (SqL.of (k l _ hl hn)) (dats_kp s k _ _ hs h)
theorem ds_tup {t : Addr} {xs : List V} {ds : List PyData} (s : LL L H) (ht : H t = some (.tup xs)) (h : Paired (DS K L H) xs ds) : DS K L H (.ref t) (.tuple ds) := fun H' k => by
  refine .tup (sqT_kp s k (SqT.of ht)) ?_
  clear ht
  induction h with
  | nil => exact .nil
  | cons a _ ih => exact .cons (a H' k) ih
theorem dss_dats : ∀ {xs : List V} {ds : List PyData}, Paired (DS K L H) xs ds → Dats K H ds xs
  | _, _, .nil => .nil
  | _, _, .cons a b => .cons a.dat (dss_dats b)
theorem LL.no {Hx : Hp} {l : Addr} (s : LL L H) (s' : Same H Hx) (e : Hx l = none) : ¬ L l := fun q => by
  obtain ⟨x, e'⟩ := s l q
  rw [s' _ _ e'] at e
  cases e
theorem noL_vl : ∀ ks : List Key, noLs (ks.map vlD) = true
  | [] => rfl
  | .inl _ :: r => noL_vl r
  | .inr _ :: r => noL_vl r
theorem noL_fac (F : Fct) : noL (facP F) = true := by
  show (true && (true && (noLs (F.2.2.map vlD) && true))) = true
  rw [noL_vl]
  rfl
end
end Wy
namespace Wy
open PySem L2
section
variable {P : Program} {w : World} {K : PySem.W.Frag} {mg : Str → Option Value} {base : Heap}
theorem tri_T {a b c : PyData} (h1 : okD 5 a) (h2 : okD 5 b) (h3 : okD 5 c) : okD 6 (.tuple [a, b, c]) := by
  refine ⟨by show 3 ≤ 10; decide, fun e he => ?_⟩
  simp only [List.mem_cons, List.not_mem_nil, or_false] at he
  rcases he with rfl | rfl | rfl
  · exact h1
  · exact h2
  · exact h3
theorem tri_L {a b c : PyData} (h1 : okD 5 a) (h2 : okD 5 b) (h3 : okD 5 c) : okD 6 (.list [a, b, c]) := by
  refine ⟨by show 3 ≤ 10; decide, fun e he => ?_⟩
  simp only [List.mem_cons, List.not_mem_nil, or_false] at he
  rcases he with rfl | rfl | rfl
  · exact h1
  · exact h2
  · exact h3
def sp_nofa (K : PySem.W.Frag) : Sp := fun vs H Q _ => ∃ (c : Int) (x : V) (F : Fct), vs = [.int c, x] ∧ FaV K H x F ∧ FOk F ∧ ∀ y d H', Same H H' → (∀ L, LL L H → DS K L H' y d) → factD d = false → okD 6 d → Q y H'
theorem ok__law_no_fact (T : Txt K mg) : Def P w K mg base 1 "_law_no_fact" ["_law_cell", "_law_fact"] (sp_nofa K) := by
  refine T.t__law_no_fact.ok sc__law_no_fact (fun vs H Q E h => ?_) fun f cdv A outer s H vs Q E hr h => ?_
  · obtain ⟨c, x, F, rfl, _⟩ := h
    rfl
  · obtain ⟨c, x, F, rfl, ⟨q, p, rfl, hq, hp⟩, g, k⟩ := h
    refine ⟨_, (pss_3
      (ps_set (i := 2) sc__law_no_fact.nd rfl (Or.inl rfl) (@pe_lst _ _ _ _ (@pa_5 _ _ _ _ _ _ _ _ _ _ _ pe_non (pe_callTy (call_listK K) rfl T.b_list bt_list (@pa_1 _ _ _ (pv 1) rfl)) (pe_slice (sl_tupA K) (pv 1) po_none (po_some pe_int)) (@pe_tup _ _ _ _ _ (@pa_3 _ _ _ _ _ _ _ (@pe_ix _ _ _ _ _ _ _ (ix_tupK K) (pv 1) pe_int (fun _ _ => rfl)) pe_str (@pe_ix _ _ _ _ _ _ _ (ix_tupK K) (pv 1) pe_int (fun _ _ => rfl)) rfl rfl rfl)) (@pe_tup _ _ _ _ _ (@pa_3 _ _ _ _ _ _ _ (@pe_ix _ _ _ _ _ _ _ (ix_tupK K) (pv 1) pe_int (fun _ _ => rfl)) (@pe_ix _ _ _ _ _ _ _ (ix_tupK K) (pv 1) pe_int (fun _ _ => rfl)) (pe_callTy (call_listK K) rfl T.b_list bt_list (@pa_1 _ _ _ (@pe_ix _ _ _ _ _ _ _ (ix_tupK K) (pv 1) pe_int (fun _ _ => rfl)) rfl)) rfl rfl rfl)) rfl rfl rfl rfl rfl)))
      (ps_set (i := 2) sc__law_no_fact.nd rfl (Or.inl rfl) (@pe_op _ _ _ _ _ _ _ _ op_cat (pv 2) (@pe_lst _ _ _ _ (@pa_4 _ _ _ _ _ _ _ _ _ (@pe_tup _ _ _ _ _ (@pa_3 _ _ _ _ _ _ _ (@pe_ix _ _ _ _ _ _ _ (ix_tupK K) (pv 1) pe_int (fun _ _ => rfl)) (@pe_ix _ _ _ _ _ _ _ (ix_tupK K) (pv 1) pe_int (fun _ _ => rfl)) (@pe_tup _ _ _ _ _ (@pa_1 _ _ _ pe_str rfl)) rfl rfl rfl)) (@pe_tup _ _ _ _ _ (@pa_3 _ _ _ _ _ _ _ pe_int (@pe_ix _ _ _ _ _ _ _ (ix_tupK K) (pv 1) pe_int (fun _ _ => rfl)) (@pe_ix _ _ _ _ _ _ _ (ix_tupK K) (pv 1) pe_int (fun _ _ => rfl)) rfl rfl rfl)) (@pe_tup _ _ _ _ _ (@pa_3 _ _ _ _ _ _ _ (@pe_ix _ _ _ _ _ _ _ (ix_tupK K) (pv 1) pe_int (fun _ _ => rfl)) (@pe_ix _ _ _ _ _ _ _ (ix_tupK K) (pv 1) pe_int (fun _ _ => rfl)) (@pe_tup _ _ _ _ _ (@pa_1 _ _ _ pe_bl rfl)) rfl rfl rfl)) (@pe_ix _ _ _ _ _ _ _ (ix_tupK K) (pv 1) pe_int (fun _ _ => rfl)) rfl rfl rfl rfl))))
      (@ps_ret _ _ _ _ (@pe_ix _ _ _ _ _ _ _ (ix_listK K) (pv 2) (@pe_op _ _ _ _ _ _ _ _ op_mod (pv 0) pe_int) (fun _ _ => rfl)))), ?_⟩
    have i0 : atI [V.str F.1, .str F.2.1, .ref p] 0 = some (V.str F.1) := atI_nat (j := 0) rfl
    have i1 : atI [V.str F.1, .str F.2.1, .ref p] 1 = some (V.str F.2.1) := atI_nat (j := 1) rfl
    have i2 : atI [V.str F.1, .str F.2.1, .ref p] 2 = some (V.ref p) := atI_nat (j := 2) rfl
    refine ⟨_, rfl, _, _, rfl, .inr (SqT.of hq), fun l1 hl1 => ?_⟩
    have s1 := same_upd (o := HO.lst [V.str F.1, .str F.2.1, .ref p]) hl1
    have c1 : L2.upd H l1 (.lst [V.str F.1, .str F.2.1, .ref p]) l1 = some (.lst [V.str F.1, .str F.2.1, .ref p]) := upd_same
    generalize L2.upd H l1 (.lst [V.str F.1, .str F.2.1, .ref p]) = H1 at *
    refine ⟨_, rfl, _, rfl, _, _, rfl, s1.seqT (SqT.of hq), fun p2 H2 s2 hp2 => ?_⟩
    have hq2 := (s1.trans s2) _ _ hq
    refine ⟨_, rfl, _, _, _, _, rfl, rfl, SqT.of hq2, i0, _, rfl, _, _, _, _, rfl, rfl, SqT.of hq2, i2, by show 3 ≤ sizeLine; decide, fun t3 ht3 => ?_⟩
    have s3 := same_upd (o := HO.tup [V.str F.1, .str "Edge", .ref p]) ht3
    have c3 : L2.upd H2 t3 (.tup [V.str F.1, .str "Edge", .ref p]) t3 = some (.tup [V.str F.1, .str "Edge", .ref p]) := upd_same
    generalize L2.upd H2 t3 (.tup [V.str F.1, .str "Edge", .ref p]) = H3 at *
    have hq3 := s3 _ _ hq2
    have hp3 := (s1.trans (s2.trans s3)).seqT hp
    refine ⟨_, rfl, _, _, _, _, rfl, rfl, SqT.of hq3, i0, _, rfl, _, _, _, _, rfl, rfl, SqT.of hq3, i1, _, rfl, _, _, _, _, rfl, rfl, SqT.of hq3, i2, _, _, rfl, .inr hp3, fun l4 hl4 => ?_⟩
    have s4 := same_upd (o := HO.lst (F.2.2.map kV)) hl4
    have c4 : L2.upd H3 l4 (.lst (F.2.2.map kV)) l4 = some (.lst (F.2.2.map kV)) := upd_same
    generalize L2.upd H3 l4 (.lst (F.2.2.map kV)) = H4 at *
    refine ⟨by show 3 ≤ sizeLine; decide, fun t5 ht5 => ?_⟩
    have s5 := same_upd (o := HO.tup [V.str F.1, .str F.2.1, .ref l4]) ht5
    have c5 : L2.upd H4 t5 (.tup [V.str F.1, .str F.2.1, .ref l4]) t5 = some (.tup [V.str F.1, .str F.2.1, .ref l4]) := upd_same
    generalize L2.upd H4 t5 (.tup [V.str F.1, .str F.2.1, .ref l4]) = H5 at *
    refine ⟨by show 5 ≤ sizeLine; decide, fun l6 hl6 => ?_⟩
    have s6 := same_upd (o := HO.lst [V.non, .ref l1, .ref p2, .ref t3, .ref t5]) hl6
    have c6 : L2.upd H5 l6 (.lst [V.non, .ref l1, .ref p2, .ref t3, .ref t5]) l6 = some (.lst [V.non, .ref l1, .ref p2, .ref t3, .ref t5]) := upd_same
    generalize L2.upd H5 l6 (.lst [V.non, .ref l1, .ref p2, .ref t3, .ref t5]) = H6 at *
    have hq6 := (s4.trans (s5.trans s6)) _ _ hq3
    refine ⟨_, rfl, _, rfl, _, _, _, _, rfl, rfl, SqT.of hq6, i0, _, rfl, _, _, _, _, rfl, rfl, SqT.of hq6, i1, by show 1 ≤ sizeLine; decide, fun t7 ht7 => ?_⟩
    have s7 := same_upd (o := HO.tup [V.str "X"]) ht7
    have c7 : L2.upd H6 t7 (.tup [V.str "X"]) t7 = some (.tup [V.str "X"]) := upd_same
    generalize L2.upd H6 t7 (.tup [V.str "X"]) = H7 at *
    refine ⟨by show 3 ≤ sizeLine; decide, fun t8 ht8 => ?_⟩
    have s8 := same_upd (o := HO.tup [V.str F.1, .str F.2.1, .ref t7]) ht8
    have c8 : L2.upd H7 t8 (.tup [V.str F.1, .str F.2.1, .ref t7]) t8 = some (.tup [V.str F.1, .str F.2.1, .ref t7]) := upd_same
    generalize L2.upd H7 t8 (.tup [V.str F.1, .str F.2.1, .ref t7]) = H8 at *
    have hq8 := (s7.trans s8) _ _ hq6
    refine ⟨_, rfl, _, _, _, _, rfl, rfl, SqT.of hq8, i1, _, rfl, _, _, _, _, rfl, rfl, SqT.of hq8, i2, by show 3 ≤ sizeLine; decide, fun t9 ht9 => ?_⟩
    have s9 := same_upd (o := HO.tup [V.int 1, .str F.2.1, .ref p]) ht9
    have c9 : L2.upd H8 t9 (.tup [V.int 1, .str F.2.1, .ref p]) t9 = some (.tup [V.int 1, .str F.2.1, .ref p]) := upd_same
    generalize L2.upd H8 t9 (.tup [V.int 1, .str F.2.1, .ref p]) = H9 at *
    have hq9 := s9 _ _ hq8
    refine ⟨_, rfl, _, _, _, _, rfl, rfl, SqT.of hq9, i0, _, rfl, _, _, _, _, rfl, rfl, SqT.of hq9, i1, by show 1 ≤ sizeLine; decide, fun t10 ht10 => ?_⟩
    have s10 := same_upd (o := HO.tup [V.bl true]) ht10
    have c10 : L2.upd H9 t10 (.tup [V.bl true]) t10 = some (.tup [V.bl true]) := upd_same
    generalize L2.upd H9 t10 (.tup [V.bl true]) = H10 at *
    refine ⟨by show 3 ≤ sizeLine; decide, fun t11 ht11 => ?_⟩
    have s11 := same_upd (o := HO.tup [V.str F.1, .str F.2.1, .ref t10]) ht11
    have c11 : L2.upd H10 t11 (.tup [V.str F.1, .str F.2.1, .ref t10]) t11 = some (.tup [V.str F.1, .str F.2.1, .ref t10]) := upd_same
    generalize L2.upd H10 t11 (.tup [V.str F.1, .str F.2.1, .ref t10]) = H11 at *
    have hq11 := (s10.trans s11) _ _ hq9
    refine ⟨_, rfl, _, _, _, _, rfl, rfl, SqT.of hq11, i0, by show 4 ≤ sizeLine; decide, fun l12 hl12 => ?_⟩
    have s12 := same_upd (o := HO.lst [V.ref t8, .ref t9, .ref t11, .str F.1]) hl12
    have c12 : L2.upd H11 l12 (.lst [V.ref t8, .ref t9, .ref t11, .str F.1]) l12 = some (.lst [V.ref t8, .ref t9, .ref t11, .str F.1]) := upd_same
    generalize L2.upd H11 l12 (.lst [V.ref t8, .ref t9, .ref t11, .str F.1]) = H12 at *
    have sX := s7.trans (s8.trans (s9.trans (s10.trans (s11.trans s12))))
    refine ⟨_, _, _, _, rfl, rfl, sX _ _ c6, c12, by show 9 ≤ sizeLine; decide, fun l13 hl13 => ?_⟩
    have s13 := same_upd (o := HO.lst ([V.non, .ref l1, .ref p2, .ref t3, .ref t5] ++ [V.ref t8, .ref t9, .ref t11, .str F.1])) hl13
    have c13 : L2.upd H12 l13 (.lst ([V.non, .ref l1, .ref p2, .ref t3, .ref t5] ++ [V.ref t8, .ref t9, .ref t11, .str F.1])) l13 = some (.lst ([V.non, .ref l1, .ref p2, .ref t3, .ref t5] ++ [V.ref t8, .ref t9, .ref t11, .str F.1])) := upd_same
    generalize L2.upd H12 l13 (.lst ([V.non, .ref l1, .ref p2, .ref t3, .ref t5] ++ [V.ref t8, .ref t9, .ref t11, .str F.1])) = H13 at *
    have z5 := s6.trans (sX.trans s13)
    have z4 := s5.trans z5
    have z3 := s4.trans z4
    have z2 := s3.trans z3
    have z1 := s2.trans z2
    have z0 := s1.trans z1
    obtain ⟨y, d, hat, hds, hf, ho⟩ : ∃ y d, atI ([V.non, .ref l1, .ref p2, .ref t3, .ref t5] ++ [V.ref t8, .ref t9, .ref t11, .str F.1]) (c % 9) = some y ∧ (∀ L, LL L H → DS K L H13 y d) ∧ factD d = false ∧ okD 6 d := by
      have m0 := Int.emod_nonneg c (show (9 : Int) ≠ 0 by decide)
      have m1 := Int.emod_lt_of_pos c (show (0 : Int) < 9 by decide)
      obtain ⟨n, hn⟩ := Int.eq_ofNat_of_zero_le m0
      rw [hn]
      have n9 : n < 9 := by omega
      have rD := dats_vl (K := K) (H := H13) g.2.2.2
      have rP : Dat K H13 (.tuple (F.2.2.map vlD)) (.ref p) := .tup (z0.seqT hp) rD
      have a0 : Dat K H13 (.str F.1) (.str F.1) := g.1.dat
      have a1 : Dat K H13 (.str F.2.1) (.str F.2.1) := g.2.1.dat
      have rN : noL (.tuple (F.2.2.map vlD)) = true := noL_vl _
      have o0 : okD 5 (.str F.1) := g.1.okD 5
      have o1 : okD 5 (.str F.2.1) := g.2.1.okD 5
      have oR : ∀ e ∈ F.2.2.map vlD, okD 4 e := fun e he => by
        obtain ⟨v, hv, rfl⟩ := List.mem_map.mp he
        exact okD_vl 4 (g.2.2.2 v hv)
      have lR : (F.2.2.map vlD).length ≤ 10 := by rw [List.length_map]; have := g.2.2.1; omega
      have sE : PyData.strOk "Edge" = true ∧ PyData.strOk "X" = true := by decide +kernel
      have lE : ("Edge" : Str).length ≤ 200 ∧ ("X" : Str).length ≤ 200 := by decide +kernel
      match n, n9 with
      | 0, _ => exact ⟨_, .none, atI_nat rfl, fun _ _ _ _ => .non, rfl, trivial⟩
      | 1, _ => exact ⟨_, .list [.str F.1, .str F.2.1, .tuple (F.2.2.map vlD)], atI_nat rfl, fun L s => ds_list (s.trans z0) (z1 _ _ c1) (s.no (Same.refl _) hl1) (show (true && (true && (noLs _ && true))) = true by rw [noL_vl]; rfl) (.cons a0 (.cons a1 (.cons rP .nil))), rfl, tri_L o0 o1 ⟨lR, oR⟩⟩
      | 2, _ =>
        refine ⟨_, .tuple [.str F.1, .str F.2.1], atI_nat rfl, fun L s => ds_of (s.trans z0) rfl (.tup (xs := [V.str F.1, .str F.2.1]) ?_ (.cons a0 (.cons a1 .nil))), rfl, ⟨by show 2 ≤ 10; decide, fun e he => ?_⟩⟩
        · have := z2.seqT hp2
          rw [cut_take _ (by decide)] at this
          exact this
        · rcases List.mem_cons.mp he with rfl | he
          · exact o0
          · rw [List.mem_singleton.mp he]
            exact o1
      | 3, _ => exact ⟨_, .tuple [.str F.1, .str "Edge", .tuple (F.2.2.map vlD)], atI_nat rfl, fun L s => ds_of (s.trans z0) (show (true && (true && (noLs _ && true))) = true by rw [noL_vl]; rfl) (.tup (SqT.of (z3 _ _ c3)) (.cons a0 (.cons (.str _ sE.1) (.cons rP .nil)))), by rw [factD, show txtD small (.str "Edge") = false by decide +kernel, Bool.false_and, Bool.and_false], tri_T o0 (strD_ok lE.1) ⟨lR, oR⟩⟩
      | 4, _ => exact ⟨_, .tuple [.str F.1, .str F.2.1, .list (F.2.2.map vlD)], atI_nat rfl, fun L s => ds_tup (s.trans z0) (z5 _ _ c5) (.cons (fun _ _ => g.1.dat) (.cons (fun _ _ => g.2.1.dat) (.cons (ds_list (s.trans z0) (z4 _ _ c4) (s.no (s1.trans (s2.trans s3)) hl4) (noL_vl _) rD) .nil))), by rw [factD, show rowD (.list (F.2.2.map vlD)) = false from rfl, Bool.and_false, Bool.and_false], tri_T o0 o1 ⟨lR, oR⟩⟩
      | 5, _ => exact ⟨_, .tuple [.str F.1, .str F.2.1, .tuple [.str "X"]], atI_nat rfl, fun L s => ds_of (s.trans z0) rfl (.tup (SqT.of ((s9.trans (s10.trans (s11.trans (s12.trans s13)))) _ _ c8)) (.cons a0 (.cons a1 (.cons (.tup (SqT.of ((s8.trans (s9.trans (s10.trans (s11.trans (s12.trans s13))))) _ _ c7)) (.cons (.str _ sE.2) .nil)) .nil)))), by rw [factD, show rowD (.tuple [.str "X"]) = false by decide +kernel, Bool.and_false, Bool.and_false], tri_T o0 o1 ⟨by show 1 ≤ 10; decide, fun e he => by rw [List.mem_singleton.mp he]; exact strD_ok lE.2⟩⟩
      | 6, _ => exact ⟨_, .tuple [.int 1, .str F.2.1, .tuple (F.2.2.map vlD)], atI_nat rfl, fun L s => ds_of (s.trans z0) (show (true && (true && (noLs _ && true))) = true by rw [noL_vl]; rfl) (.tup (SqT.of ((s10.trans (s11.trans (s12.trans s13))) _ _ c9)) (.cons (.int 1) (.cons a1 (.cons rP .nil)))), rfl, tri_T trivial o1 ⟨lR, oR⟩⟩
      | 7, _ => exact ⟨_, .tuple [.str F.1, .str F.2.1, .tuple [.bool true]], atI_nat rfl, fun L s => ds_of (s.trans z0) rfl (.tup (SqT.of ((s12.trans s13) _ _ c11)) (.cons a0 (.cons a1 (.cons (.tup (SqT.of ((s11.trans (s12.trans s13)) _ _ c10)) (.cons (.bl true) .nil)) .nil)))), by rw [factD, show rowD (.tuple [.bool true]) = false from rfl, Bool.and_false, Bool.and_false], tri_T o0 o1 ⟨by show 1 ≤ 10; decide, fun e he => by rw [List.mem_singleton.mp he]; trivial⟩⟩
      | 8, _ => exact ⟨_, .str F.1, atI_nat rfl, fun L s => ds_of (s.trans z0) rfl a0, rfl, g.1.okD 6⟩
    exact ⟨_, rfl, _, rfl, _, _, rfl, rfl, (by show (0 : Int) < 9; decide), _, _, _, _, rfl, rfl, SqL.of c13, hat, k y d H13 z0 hds hf ho⟩
end
end Wy
namespace Wy
open PySem L2
theorem rule_three (h : PyData) (bs cs : List PyData) : ruleB (.tuple [h, .tuple bs, .tuple cs]) = (atomB h && (atomsB (.tuple bs) && (choicesB (.tuple cs) && (headKnown (bodyVars bs) h && cs.all (chKnown (bodyVars bs)))))) := rfl
section
variable {P : Program} {w : World} {K : PySem.W.Frag} {mg : Str → Option Value} {base : Heap}
theorem dats_app {H : Hp} : ∀ {ds es : List PyData} {xs ys : List V}, Dats K H ds xs → Dats K H es ys → Dats K H (ds ++ es) (xs ++ ys)
  | _, _, _, _, .nil, h => h
  | _, _, _, _, .cons a b, h => .cons a (dats_app b h)
def sp_noru (K : PySem.W.Frag) : Sp := fun vs H Q _ => ∃ (c : Int) (x : V) (R : Rul), vs = [.int c, x] ∧ RuV K H x R ∧ ROk R ∧ ∀ y d H', Same H H' → (∀ L, LL L H → DS K L H' y d) → ruleB d = false → okD 6 d → Q y H'
theorem ok__law_no_rule (T : Txt K mg) : Def P w K mg base 1 "_law_no_rule" ["_law_cell", "_law_rule"] (sp_noru K) := by
  refine T.t__law_no_rule.ok sc__law_no_rule (fun vs H Q E h => ?_) fun f cdv A outer s H vs Q E hr h => ?_
  · obtain ⟨c, x, R, rfl, _⟩ := h
    rfl
  · obtain ⟨c, x, R, rfl, ⟨r, hv, b, cc, bx, cx, rfl, hr', hd, hb, hbd, hc, hcd⟩, g, k⟩ := h
    obtain ⟨gr, gok, gn, gl1, gl2, gc, n1, n2, n3⟩ := g
    have eb := dats_len hbd
    obtain ⟨x0, xr, d0, dr, ebx, ebd⟩ : ∃ x0 xr d0 dr, bx = x0 :: xr ∧ R.2.1 = d0 :: dr := by
      cases hbd' : R.2.1 with
      | nil => rw [hbd'] at gl1; exact absurd gl1 (by decide)
      | cons d0 dr =>
        cases bx with
        | nil => rw [hbd'] at eb; cases eb
        | cons x0 xr => exact ⟨x0, xr, d0, dr, rfl, rfl⟩
    refine ⟨_, (pss_4
      (ps_asg (pv 1) (pg_tup rfl (pgs_cons (pg_name (i := 2) sc__law_no_rule.nd rfl (Or.inl rfl)) (pgs_cons (pg_name (i := 3) sc__law_no_rule.nd rfl (Or.inl rfl)) (pgs_cons (pg_name (i := 4) sc__law_no_rule.nd rfl (Or.inl rfl)) pgs_nil)))))
      (ps_set (i := 5) sc__law_no_rule.nd rfl (Or.inl rfl) (@pe_lst _ _ _ _ (@pa_3 _ _ _ _ _ _ _ (@pe_tup _ _ _ _ _ (@pa_3 _ _ _ _ _ _ _ (@pe_tup _ _ _ _ _ (@pa_2 _ _ _ _ _ pe_str (@pe_tup _ _ _ _ _ (@pa_1 _ _ _ pe_str rfl)) rfl rfl)) (pv 3) (pv 4) rfl rfl rfl)) (@pe_tup _ _ _ _ _ (@pa_3 _ _ _ _ _ _ _ (pv 2) (pv 3) (@pe_tup _ _ _ _ _ (@pa_1 _ _ _ (@pe_tup _ _ _ _ _ (@pa_3 _ _ _ _ _ _ _ pe_str pe_str pe_int rfl rfl rfl)) rfl)) rfl rfl rfl)) (@pe_tup _ _ _ _ _ (@pa_3 _ _ _ _ _ _ _ (pv 2) (pe_callTy (call_listK K) rfl T.b_list bt_list (@pa_1 _ _ _ (pv 3) rfl)) (pv 4) rfl rfl rfl)) rfl rfl rfl)))
      (ps_set (i := 5) sc__law_no_rule.nd rfl (Or.inl rfl) (@pe_op _ _ _ _ _ _ _ _ op_cat (pv 5) (@pe_lst _ _ _ _ (@pa_4 _ _ _ _ _ _ _ _ _ (@pe_tup _ _ _ _ _ (@pa_3 _ _ _ _ _ _ _ (pv 2) (@pe_op _ _ _ _ _ _ _ _ (op_catA K) (pv 3) (@pe_op _ _ _ _ _ _ _ _ (op_mulT K) (pe_slice (sl_tupA K) (pv 3) po_none (po_some pe_int)) pe_int)) (pv 4) rfl rfl rfl)) (@pe_tup _ _ _ _ _ (@pa_2 _ _ _ _ _ (pv 2) (pv 3) rfl rfl)) pe_non (@pe_tup _ _ _ _ _ (@pa_3 _ _ _ _ _ _ _ (pv 2) (pv 3) (@pe_tup _ _ _ _ _ (@pa_1 _ _ _ (@pe_tup _ _ _ _ _ (@pa_3 _ _ _ _ _ _ _ pe_str pe_int pe_int rfl rfl rfl)) rfl)) rfl rfl rfl)) rfl rfl rfl rfl))))
      (@ps_ret _ _ _ _ (@pe_ix _ _ _ _ _ _ _ (ix_listK K) (pv 5) (@pe_op _ _ _ _ _ _ _ _ op_mod (pv 0) pe_int) (fun _ _ => rfl)))), ?_⟩
    refine ⟨_, rfl, r, _, rfl, SqT.of hr', rfl, _, _, rfl, _, _, rfl, _, _, rfl, rfl, ?_⟩
    refine ⟨by show 1 ≤ sizeLine; decide, fun t1 ht1 => ?_⟩
    have s1 := same_upd (o := HO.tup [V.str "New"]) ht1
    have c1 : L2.upd H t1 (.tup [V.str "New"]) t1 = some (.tup [V.str "New"]) := upd_same
    generalize L2.upd H t1 (.tup [V.str "New"]) = H1 at *
    refine ⟨by show 2 ≤ sizeLine; decide, fun t2 ht2 => ?_⟩
    have s2 := same_upd (o := HO.tup [V.str "way", .ref t1]) ht2
    have c2 : L2.upd H1 t2 (.tup [V.str "way", .ref t1]) t2 = some (.tup [V.str "way", .ref t1]) := upd_same
    generalize L2.upd H1 t2 (.tup [V.str "way", .ref t1]) = H2 at *
    refine ⟨_, rfl, _, rfl, by show 3 ≤ sizeLine; decide, fun t3 ht3 => ?_⟩
    have s3 := same_upd (o := HO.tup [V.ref t2, .ref b, .ref cc]) ht3
    have c3 : L2.upd H2 t3 (.tup [V.ref t2, .ref b, .ref cc]) t3 = some (.tup [V.ref t2, .ref b, .ref cc]) := upd_same
    generalize L2.upd H2 t3 (.tup [V.ref t2, .ref b, .ref cc]) = H3 at *
    refine ⟨_, rfl, _, rfl, by show 3 ≤ sizeLine; decide, fun t4 ht4 => ?_⟩
    have s4 := same_upd (o := HO.tup [V.str "<", .str "New", .int 1]) ht4
    have c4 : L2.upd H3 t4 (.tup [V.str "<", .str "New", .int 1]) t4 = some (.tup [V.str "<", .str "New", .int 1]) := upd_same
    generalize L2.upd H3 t4 (.tup [V.str "<", .str "New", .int 1]) = H4 at *
    refine ⟨by show 1 ≤ sizeLine; decide, fun t5 ht5 => ?_⟩
    have s5 := same_upd (o := HO.tup [V.ref t4]) ht5
    have c5 : L2.upd H4 t5 (.tup [V.ref t4]) t5 = some (.tup [V.ref t4]) := upd_same
    generalize L2.upd H4 t5 (.tup [V.ref t4]) = H5 at *
    refine ⟨by show 3 ≤ sizeLine; decide, fun t6 ht6 => ?_⟩
    have s6 := same_upd (o := HO.tup [hv, .ref b, .ref t5]) ht6
    have c6 : L2.upd H5 t6 (.tup [hv, .ref b, .ref t5]) t6 = some (.tup [hv, .ref b, .ref t5]) := upd_same
    generalize L2.upd H5 t6 (.tup [hv, .ref b, .ref t5]) = H6 at *
    have q6 := s1.trans (s2.trans (s3.trans (s4.trans (s5.trans s6))))
    refine ⟨_, rfl, _, rfl, _, _, rfl, .inr (q6.seqT hb), fun l7 hl7 => ?_⟩
    have s7 := same_upd (o := HO.lst bx) hl7
    have c7 : L2.upd H6 l7 (.lst bx) l7 = some (.lst bx) := upd_same
    generalize L2.upd H6 l7 (.lst bx) = H7 at *
    refine ⟨_, rfl, by show 3 ≤ sizeLine; decide, fun t8 ht8 => ?_⟩
    have s8 := same_upd (o := HO.tup [hv, .ref l7, .ref cc]) ht8
    have c8 : L2.upd H7 t8 (.tup [hv, .ref l7, .ref cc]) t8 = some (.tup [hv, .ref l7, .ref cc]) := upd_same
    generalize L2.upd H7 t8 (.tup [hv, .ref l7, .ref cc]) = H8 at *
    refine ⟨by show 3 ≤ sizeLine; decide, fun l9 hl9 => ?_⟩
    have s9 := same_upd (o := HO.lst [V.ref t3, .ref t6, .ref t8]) hl9
    have c9 : L2.upd H8 l9 (.lst [V.ref t3, .ref t6, .ref t8]) l9 = some (.lst [V.ref t3, .ref t6, .ref t8]) := upd_same
    generalize L2.upd H8 l9 (.lst [V.ref t3, .ref t6, .ref t8]) = H9 at *
    have q9 := q6.trans (s7.trans (s8.trans s9))
    refine ⟨_, rfl, _, rfl, _, rfl, _, rfl, _, rfl, _, _, rfl, q9.seqT hb, fun p10 H10 s10 hp10 => ?_⟩
    rw [cut_take _ (by decide), ebx] at hp10
    refine ⟨p10, 4, [x0], rfl, rfl, hp10, by simp, by decide, by decide, by simp, fun p11 hp11 => ?_⟩
    have s11 := same_upd (o := HO.tup (List.replicate (4 : Int).toNat [x0]).flatten) hp11
    have c11 : L2.upd H10 p11 (.tup (List.replicate (4 : Int).toNat [x0]).flatten) p11 = some (.tup [x0, x0, x0, x0]) := upd_same
    generalize L2.upd H10 p11 (.tup (List.replicate (4 : Int).toNat [x0]).flatten) = H11 at *
    have q11 := q9.trans (s10.trans s11)
    refine ⟨_, _, _, _, rfl, rfl, q11.seqT hb, SqT.of c11, Nat.le_trans (show bx.length + 4 ≤ 1000 by omega) (by decide), fun p12 H12 s12 hp12 => ?_⟩
    refine ⟨_, rfl, by show 3 ≤ sizeLine; decide, fun t13 ht13 => ?_⟩
    have s13 := same_upd (o := HO.tup [hv, .ref p12, .ref cc]) ht13
    have c13 : L2.upd H12 t13 (.tup [hv, .ref p12, .ref cc]) t13 = some (.tup [hv, .ref p12, .ref cc]) := upd_same
    generalize L2.upd H12 t13 (.tup [hv, .ref p12, .ref cc]) = H13 at *
    refine ⟨_, rfl, _, rfl, by show 2 ≤ sizeLine; decide, fun t14 ht14 => ?_⟩
    have s14 := same_upd (o := HO.tup [hv, .ref b]) ht14
    have c14 : L2.upd H13 t14 (.tup [hv, .ref b]) t14 = some (.tup [hv, .ref b]) := upd_same
    generalize L2.upd H13 t14 (.tup [hv, .ref b]) = H14 at *
    refine ⟨_, rfl, _, rfl, by show 3 ≤ sizeLine; decide, fun t15 ht15 => ?_⟩
    have s15 := same_upd (o := HO.tup [V.str "==", .int 1, .int 2]) ht15
    have c15 : L2.upd H14 t15 (.tup [V.str "==", .int 1, .int 2]) t15 = some (.tup [V.str "==", .int 1, .int 2]) := upd_same
    generalize L2.upd H14 t15 (.tup [V.str "==", .int 1, .int 2]) = H15 at *
    refine ⟨by show 1 ≤ sizeLine; decide, fun t16 ht16 => ?_⟩
    have s16 := same_upd (o := HO.tup [V.ref t15]) ht16
    have c16 : L2.upd H15 t16 (.tup [V.ref t15]) t16 = some (.tup [V.ref t15]) := upd_same
    generalize L2.upd H15 t16 (.tup [V.ref t15]) = H16 at *
    refine ⟨by show 3 ≤ sizeLine; decide, fun t17 ht17 => ?_⟩
    have s17 := same_upd (o := HO.tup [hv, .ref b, .ref t16]) ht17
    have c17 : L2.upd H16 t17 (.tup [hv, .ref b, .ref t16]) t17 = some (.tup [hv, .ref b, .ref t16]) := upd_same
    generalize L2.upd H16 t17 (.tup [hv, .ref b, .ref t16]) = H17 at *
    refine ⟨by show 4 ≤ sizeLine; decide, fun l18 hl18 => ?_⟩
    have s18 := same_upd (o := HO.lst [V.ref t13, .ref t14, .non, .ref t17]) hl18
    have c18 : L2.upd H17 l18 (.lst [V.ref t13, .ref t14, .non, .ref t17]) l18 = some (.lst [V.ref t13, .ref t14, .non, .ref t17]) := upd_same
    generalize L2.upd H17 l18 (.lst [V.ref t13, .ref t14, .non, .ref t17]) = H18 at *
    have sX := s10.trans (s11.trans (s12.trans (s13.trans (s14.trans (s15.trans (s16.trans (s17.trans s18)))))))
    refine ⟨_, _, _, _, rfl, rfl, sX _ _ c9, c18, by show 7 ≤ sizeLine; decide, fun l19 hl19 => ?_⟩
    have s19 := same_upd (o := HO.lst ([V.ref t3, .ref t6, .ref t8] ++ [V.ref t13, .ref t14, .non, .ref t17])) hl19
    have c19 : L2.upd H18 l19 (.lst ([V.ref t3, .ref t6, .ref t8] ++ [V.ref t13, .ref t14, .non, .ref t17])) l19 = some (.lst ([V.ref t3, .ref t6, .ref t8] ++ [V.ref t13, .ref t14, .non, .ref t17])) := upd_same
    generalize L2.upd H18 l19 (.lst ([V.ref t3, .ref t6, .ref t8] ++ [V.ref t13, .ref t14, .non, .ref t17])) = H19 at *
    have w17 := s18.trans s19
    have w16 := s17.trans w17
    have w15 := s16.trans w16
    have w14 := s15.trans w15
    have w13 := s14.trans w14
    have w12 := s13.trans w13
    have w9 := sX.trans s19
    have w8 := s9.trans w9
    have w7 := s8.trans w8
    have w6 := s7.trans w7
    have w5 := s6.trans w6
    have w4 := s5.trans w5
    have w3 := s4.trans w4
    have w2 := s3.trans w3
    have w1 := s2.trans w2
    have w0 := s1.trans w1
    obtain ⟨y, d, hat, hds, hf, ho⟩ : ∃ y d, atI ([V.ref t3, .ref t6, .ref t8] ++ [V.ref t13, .ref t14, .non, .ref t17]) (c % 7) = some y ∧ (∀ L, LL L H → DS K L H19 y d) ∧ ruleB d = false ∧ okD 6 d := by
      have m0 := Int.emod_nonneg c (show (7 : Int) ≠ 0 by decide)
      have m1 := Int.emod_lt_of_pos c (show (0 : Int) < 7 by decide)
      obtain ⟨n, hn⟩ := Int.eq_ofNat_of_zero_le m0
      rw [hn]
      have n9 : n < 7 := by omega
      have D1 : Dat K H19 R.1 hv := Dat.same w0 _ _ hd
      have D2 : Dat K H19 (.tuple R.2.1) (.ref b) := .tup (w0.seqT hb) (Dats.same w0 _ _ hbd)
      have D3 : Dat K H19 (.tuple R.2.2) (.ref cc) := .tup (w0.seqT hc) (Dats.same w0 _ _ hcd)
      have o1 : okD 5 R.1 := gok.2 _ (List.mem_cons_self ..)
      have o2 : okD 5 (.tuple R.2.1) := gok.2 _ (List.mem_cons_of_mem _ (List.mem_cons_self ..))
      have o3 : okD 5 (.tuple R.2.2) := gok.2 _ (List.mem_cons_of_mem _ (List.mem_cons_of_mem _ (List.mem_cons_self ..)))
      have so : PyData.strOk "New" = true ∧ PyData.strOk "way" = true ∧ PyData.strOk "<" = true ∧ PyData.strOk "==" = true := by decide +kernel
      have lo : ("New" : Str).length ≤ 200 ∧ ("way" : Str).length ≤ 200 ∧ ("<" : Str).length ≤ 200 ∧ ("==" : Str).length ≤ 200 := by decide +kernel
      have cN : txtB capS "New" = true := by decide +kernel
      have kN : decide (("New" : Str) ∈ bodyVars R.2.1) = false := decide_eq_false gn
      have one : ∀ {n : Nat} {e : PyData}, okD n e → okD (n + 1) (.tuple [e]) := fun {n e} h => ⟨by show 1 ≤ 10; decide, fun a ha => by rw [List.mem_singleton.mp ha]; exact h⟩
      have tri5 : ∀ {x y z : PyData}, okD 3 x → okD 3 y → okD 3 z → okD 4 (.tuple [x, y, z]) := fun {x y z} h1 h2 h3 => ⟨by show 3 ≤ 10; decide, fun e he => by
        simp only [List.mem_cons, List.not_mem_nil, or_false] at he
        rcases he with rfl | rfl | rfl
        · exact h1
        · exact h2
        · exact h3⟩
      have nl3 : ∀ {x y z : PyData}, noL x = true → noL y = true → noL z = true → noL (.tuple [x, y, z]) = true := fun {x y z} h1 h2 h3 => by
        show (noL x && (noL y && (noL z && true))) = true
        rw [h1, h2, h3]
        rfl
      match n, n9 with
      | 0, _ =>
        refine ⟨_, .tuple [.tuple [.str "way", .tuple [.str "New"]], .tuple R.2.1, .tuple R.2.2], atI_nat rfl, fun L s => ds_of (s.trans w0) (nl3 rfl n2 n3) (.tup (SqT.of (w3 _ _ c3)) (.cons (.tup (SqT.of (w2 _ _ c2)) (.cons (.str _ so.2.1) (.cons (.tup (SqT.of (w1 _ _ c1)) (.cons (.str _ so.1) .nil)) .nil))) (.cons D2 (.cons D3 .nil)))), ?_, tri_T ?_ o2 o3⟩
        · rw [rule_three, show headKnown (bodyVars R.2.1) (.tuple [.str "way", .tuple [.str "New"]]) = false by simp [headKnown, knownB, vnames, var?, List.flatMap, cN]; exact gn]
          simp
        · refine ⟨by show 2 ≤ 10; decide, fun e he => ?_⟩
          rcases List.mem_cons.mp he with rfl | he
          · exact strD_ok lo.2.1
          · rw [List.mem_singleton.mp he]
            exact one (strD_ok lo.1)
      | 1, _ =>
        refine ⟨_, .tuple [R.1, .tuple R.2.1, .tuple [.tuple [.str "<", .str "New", .int 1]]], atI_nat rfl, fun L s => ds_of (s.trans w0) (nl3 n1 n2 rfl) (.tup (SqT.of (w6 _ _ c6)) (.cons D1 (.cons D2 (.cons (.tup (SqT.of (w5 _ _ c5)) (.cons (.tup (SqT.of (w4 _ _ c4)) (.cons (.str _ so.2.2.1) (.cons (.str _ so.1) (.cons (.int 1) .nil)))) .nil)) .nil)))), ?_, tri_T o1 o2 (one (tri5 (strD_ok lo.2.2.1) (strD_ok lo.1) trivial))⟩
        rw [rule_three, show [PyData.tuple [.str "<", .str "New", .int 1]].all (chKnown (bodyVars R.2.1)) = false by simp [chKnown, knownB, vnames, var?, List.flatMap, cN]; exact gn]
        simp
      | 2, _ =>
        exact ⟨_, .tuple [R.1, .list R.2.1, .tuple R.2.2], atI_nat rfl, fun L s => ds_tup (s.trans w0) (w8 _ _ c8) (.cons (ds_of (s.trans w0) n1 D1) (.cons (ds_list (s.trans w0) (w7 _ _ c7) (s.no q6 hl7) n2 (Dats.same w0 _ _ hbd)) (.cons (ds_of (s.trans w0) n3 D3) .nil))), by
          show (atomB R.1 && (atomsB (.list R.2.1) && _)) = false
          rw [show atomsB (.list R.2.1) = false from rfl, Bool.false_and, Bool.and_false], tri_T o1 o2 o3⟩
      | 3, _ =>
        rw [ebd] at hbd o2 n2
        have hd0 : Dat K H19 d0 x0 := by
          rw [ebx] at hbd
          cases hbd with
          | cons a _ => exact Dat.same w0 _ _ a
        have n0 : noL d0 = true := by
          have : (noL d0 && noLs dr) = true := n2
          rw [Bool.and_eq_true] at this
          exact this.1
        have ns : ∀ (l : List PyData), noLs l = true → noLs (l ++ [d0, d0, d0, d0]) = true := fun l => by
          induction l with
          | nil => intro _; show (noL d0 && (noL d0 && (noL d0 && (noL d0 && true)))) = true; rw [n0]; rfl
          | cons e l ih =>
            intro h
            have h' : (noL e && noLs l) = true := h
            rw [Bool.and_eq_true] at h'
            show (noL e && noLs (l ++ [d0, d0, d0, d0])) = true
            rw [h'.1, ih h'.2]
            rfl
        have l5 : (d0 :: dr).length ≤ 2 := by rw [← ebd]; exact gl2
        refine ⟨_, .tuple [R.1, .tuple ((d0 :: dr) ++ [d0, d0, d0, d0]), .tuple R.2.2], atI_nat rfl, fun L s => ds_of (s.trans w0) (nl3 n1 (ns _ n2) n3) (.tup (SqT.of (w13 _ _ c13)) (.cons D1 (.cons (.tup (w12.seqT hp12) (dats_app (Dats.same w0 _ _ hbd) (.cons hd0 (.cons hd0 (.cons hd0 (.cons hd0 .nil)))))) (.cons D3 .nil)))), ?_, tri_T o1 ⟨?_, fun e he => ?_⟩ o3⟩
        · rw [rule_three, show atomsB (.tuple ((d0 :: dr) ++ [d0, d0, d0, d0])) = false by
            show (decide (((d0 :: dr) ++ [d0, d0, d0, d0]).length ≤ 3) && _) = false
            rw [decide_eq_false (by simp), Bool.false_and]]
          simp
        · rw [List.length_append]
          show _ + 4 ≤ 10
          omega
        · have h0 := o2.2 d0 (List.mem_cons_self ..)
          rcases List.mem_append.mp he with he | he
          · exact o2.2 e he
          · simp only [List.mem_cons, List.not_mem_nil, or_false, or_self] at he
            rw [he]
            exact h0
      | 4, _ =>
        refine ⟨_, .tuple [R.1, .tuple R.2.1], atI_nat rfl, fun L s => ds_of (s.trans w0) (show (noL R.1 && (noLs R.2.1 && true)) = true by rw [n1, n2]; rfl) (.tup (SqT.of (w14 _ _ c14)) (.cons D1 (.cons D2 .nil))), rfl, ⟨by show 2 ≤ 10; decide, fun e he => ?_⟩⟩
        rcases List.mem_cons.mp he with rfl | he
        · exact o1
        · rw [List.mem_singleton.mp he]
          exact o2
      | 5, _ => exact ⟨_, .none, atI_nat rfl, fun _ _ _ _ => .non, rfl, trivial⟩
      | 6, _ =>
        refine ⟨_, .tuple [R.1, .tuple R.2.1, .tuple [.tuple [.str "==", .int 1, .int 2]]], atI_nat rfl, fun L s => ds_of (s.trans w0) (nl3 n1 n2 rfl) (.tup (SqT.of (w17 _ _ c17)) (.cons D1 (.cons D2 (.cons (.tup (SqT.of (w16 _ _ c16)) (.cons (.tup (SqT.of (w15 _ _ c15)) (.cons (.str _ so.2.2.2) (.cons (.int 1) (.cons (.int 2) .nil)))) .nil)) .nil)))), ?_, tri_T o1 o2 (one (tri5 (strD_ok lo.2.2.2) trivial trivial))⟩
        rw [rule_three, show choicesB (.tuple [.tuple [.str "==", .int 1, .int 2]]) = false by decide +kernel]
        simp
    exact ⟨_, rfl, _, rfl, _, _, rfl, rfl, (by show (0 : Int) < 7; decide), _, _, _, _, rfl, rfl, SqL.of c19, hat, k y d H19 w0 hds hf ho⟩
end
end Wy
namespace Wy
open PySem L2
def oV : Option Nat → V
  | none => .non
  | some n => .int n
def dueN (a b c : Option Nat) (g : Bool) : Option Nat := match a, b with
  | some i, some j => if i ≤ j then some 0 else some 1
  | some _, none => some 0
  | none, some _ => some 1
  | none, none => match c with
    | some _ => some 2
    | none => if g = true then none else some 3
section
variable {P : Program} {w : World} {K : PySem.W.Frag} {mg : Str → Option Value} {base : Heap}
def sp_due (K : PySem.W.Frag) : Sp := fun vs H Q _ => ∃ (p : Addr) (g : Bool) (a b c : Option Nat), vs = [.ref p, .bl g] ∧ SqL K H p [oV a, oV b, oV c] ∧ ∀ H', Same H H' → match dueN a b c g with | none => Q (.bl true) H' | some n => ∀ q l, H' l = some (.lst ((kindsOf n).map V.bl)) → H' q = some (.tup [.ref l, .bl true]) → Q (.ref q) H'
theorem ok__law_due (T : Txt K mg) : Def P w K mg base 1 "_law_due" ["_law_places", "_law_rounds_good"] (sp_due K) := by
  refine T.t__law_due.ok sc__law_due (fun vs H Q E h => ?_) fun f cdv A outer s H vs Q E hr h => ?_
  · obtain ⟨p, g, a, b, c, rfl, _⟩ := h
    rfl
  · obtain ⟨p, g, a, b, c, rfl, hP, k⟩ := h
    refine join_at 3 (fun σ H' => ∃ (n : Nat) (l : Addr) (v0 v1 v2 v3 v4 : Option V), dueN a b c g = some n ∧ Same H H' ∧ σ = [v0, v1, v2, v3, v4, some (.ref l)] ∧ H' l = some (.lst ((kindsOf n).map V.bl))) ⟨_, (pss_one (ps_ret (pe_tup (pa_2 (pv 5) pe_bl)))), ?_⟩ (fun u hu hC => ⟨_, (psr_3
      (ps_asg (pv 0) (pg_lst rfl (pgs_cons (pg_name (i := 2) sc__law_due.nd rfl (Or.inl rfl)) (pgs_cons (pg_name (i := 3) sc__law_due.nd rfl (Or.inl rfl)) (pgs_cons (pg_name (i := 4) sc__law_due.nd rfl (Or.inl rfl)) pgs_nil)))))
      (ps_set (i := 5) sc__law_due.nd rfl (Or.inl rfl) (pe_lst (pa_7 pe_bl pe_bl pe_bl pe_bl pe_bl pe_bl pe_bl)))
      (ps_if (PW.pt (pw_and (pt_cmpR op_notN (pv 2) pe_non (nomark _)) (pw_and1 (PW.pt (pw_or (pt_cmpR op_isN (pv 3) pe_non (nomark _)) (pw_or1 (pt_cmpR op_le (pv 2) (pv 3) (nomark _)))))))) (pss_one (ps_asg pe_bl (pg_sub (pv 5) pe_int set_list))) (pss_one (ps_if (pt_cmpR op_notN (pv 3) pe_non (nomark _)) (pss_one (ps_asg pe_bl (pg_sub (pv 5) pe_int set_list))) (pss_one (ps_if (pt_cmpR op_notN (pv 4) pe_non (nomark _)) (pss_one (ps_asg pe_bl (pg_sub (pv 5) pe_int set_list))) (pss_one (ps_if (pt_not (pt_val (pv 1))) (pss_one (ps_asg pe_bl (pg_sub (pv 5) pe_int set_list))) (pss_one (ps_ret pe_bl)))))))))
      hu), ?_⟩)
    · rintro σ H' ⟨n, l, v0, v1, v2, v3, v4, hn, sm, rfl, hl⟩
      refine ⟨_, rfl, by show 2 ≤ sizeLine; decide, fun q hq => ?_⟩
      have s2 := same_upd (o := HO.tup [V.ref l, .bl true]) hq
      have := k _ (sm.trans s2)
      rw [hn] at this
      exact this q l (s2 _ _ hl) upd_same
    · refine ⟨_, rfl, p, _, rfl, hP, rfl, _, _, rfl, _, _, rfl, _, _, rfl, rfl, ?_⟩
      refine ⟨by show 7 ≤ sizeLine; decide, fun l hl => ?_⟩
      have s1 := same_upd (o := HO.lst [V.bl false, .bl false, .bl false, .bl false, .bl false, .bl false, .bl false]) hl
      have c1 : L2.upd H l (.lst [V.bl false, .bl false, .bl false, .bl false, .bl false, .bl false, .bl false]) l = some (.lst [V.bl false, .bl false, .bl false, .bl false, .bl false, .bl false, .bl false]) := upd_same
      have sl : ∀ o, Same H (L2.upd (L2.upd H l (.lst [V.bl false, .bl false, .bl false, .bl false, .bl false, .bl false, .bl false])) l o) := fun o => s1.set hl
      have ix : ∀ n : Nat, n < 7 → ixN 7 (n : Int) = some n := fun n h => by unfold ixN; rw [if_pos (by omega), if_pos (by omega)]; simp
      have put : ∀ n : Nat, n < 4 → (List.set [V.bl false, .bl false, .bl false, .bl false, .bl false, .bl false, .bl false] n (.bl true)) = (kindsOf n).map V.bl := fun n h => by
        match n, h with
        | 0, _ => rfl
        | 1, _ => rfl
        | 2, _ => rfl
        | 3, _ => rfl
      have f0 : dueN a b c g = some 0 → ∀ v0 v1 v2 v3 v4, u { nx := fun _ H' => Q .non H', rt := Q } [v0, v1, v2, v3, v4, some (.ref l)] (L2.upd (L2.upd H l (.lst [V.bl false, .bl false, .bl false, .bl false, .bl false, .bl false, .bl false])) l (.lst (List.set [V.bl false, .bl false, .bl false, .bl false, .bl false, .bl false, .bl false] 0 (.bl true)))) := fun e v0 v1 v2 v3 v4 => hC _ _ ⟨0, l, v0, v1, v2, v3, v4, e, sl _, rfl, by rw [upd_same, put 0 (by decide)]⟩
      have f1 : dueN a b c g = some 1 → ∀ v0 v1 v2 v3 v4, u { nx := fun _ H' => Q .non H', rt := Q } [v0, v1, v2, v3, v4, some (.ref l)] (L2.upd (L2.upd H l (.lst [V.bl false, .bl false, .bl false, .bl false, .bl false, .bl false, .bl false])) l (.lst (List.set [V.bl false, .bl false, .bl false, .bl false, .bl false, .bl false, .bl false] 1 (.bl true)))) := fun e v0 v1 v2 v3 v4 => hC _ _ ⟨1, l, v0, v1, v2, v3, v4, e, sl _, rfl, by rw [upd_same, put 1 (by decide)]⟩
      have f2 : dueN a b c g = some 2 → ∀ v0 v1 v2 v3 v4, u { nx := fun _ H' => Q .non H', rt := Q } [v0, v1, v2, v3, v4, some (.ref l)] (L2.upd (L2.upd H l (.lst [V.bl false, .bl false, .bl false, .bl false, .bl false, .bl false, .bl false])) l (.lst (List.set [V.bl false, .bl false, .bl false, .bl false, .bl false, .bl false, .bl false] 2 (.bl true)))) := fun e v0 v1 v2 v3 v4 => hC _ _ ⟨2, l, v0, v1, v2, v3, v4, e, sl _, rfl, by rw [upd_same, put 2 (by decide)]⟩
      have f3 : dueN a b c g = some 3 → ∀ v0 v1 v2 v3 v4, u { nx := fun _ H' => Q .non H', rt := Q } [v0, v1, v2, v3, v4, some (.ref l)] (L2.upd (L2.upd H l (.lst [V.bl false, .bl false, .bl false, .bl false, .bl false, .bl false, .bl false])) l (.lst (List.set [V.bl false, .bl false, .bl false, .bl false, .bl false, .bl false, .bl false] 3 (.bl true)))) := fun e v0 v1 v2 v3 v4 => hC _ _ ⟨3, l, v0, v1, v2, v3, v4, e, sl _, rfl, by rw [upd_same, put 3 (by decide)]⟩
      have x0 : ixN 7 (0 : Int) = some 0 := ix 0 (by decide)
      have x1 : ixN 7 (1 : Int) = some 1 := ix 1 (by decide)
      have x2 : ixN 7 (2 : Int) = some 2 := ix 2 (by decide)
      have x3 : ixN 7 (3 : Int) = some 3 := ix 3 (by decide)
      clear hC
      cases a with
      | some i =>
        refine ⟨_, rfl, rfl, _, rfl, iteTb rfl ?_⟩
        cases b with
        | none => exact ⟨_, rfl, rfl, _, rfl, iteTb rfl (iteTb rfl ⟨_, rfl, l, _, 0, 0, rfl, rfl, c1, x0, f0 rfl _ _ _ _ _⟩)⟩
        | some j =>
          refine ⟨_, rfl, rfl, _, rfl, iteFb rfl ⟨_, rfl, _, rfl, _, _, rfl, rfl, _, rfl, ite2 (fun h1 => ?_) (fun h1 => ?_)⟩⟩
          · have h1' : i ≤ j := by have : (i : Int) ≤ j := by simpa using h1
                                   omega
            exact ⟨_, rfl, l, _, 0, 0, rfl, rfl, c1, x0, f0 (by show (if i ≤ j then some 0 else some 1) = _; rw [if_pos h1']) _ _ _ _ _⟩
          · have h1' : ¬ i ≤ j := fun q => h1 (by show decide ((i : Int) ≤ j) = true; exact decide_eq_true (by omega))
            exact ⟨_, rfl, rfl, _, rfl, iteTb rfl ⟨_, rfl, l, _, 1, 1, rfl, rfl, c1, x1, f1 (by show (if i ≤ j then some 0 else some 1) = _; rw [if_neg h1']) _ _ _ _ _⟩⟩
      | none =>
        refine ⟨_, rfl, rfl, _, rfl, iteFb rfl (iteFb rfl ?_)⟩
        cases b with
        | some j => exact ⟨_, rfl, rfl, _, rfl, iteTb rfl ⟨_, rfl, l, _, 1, 1, rfl, rfl, c1, x1, f1 rfl _ _ _ _ _⟩⟩
        | none =>
          refine ⟨_, rfl, rfl, _, rfl, iteFb rfl ?_⟩
          cases c with
          | some m => exact ⟨_, rfl, rfl, _, rfl, iteTb rfl ⟨_, rfl, l, _, 2, 2, rfl, rfl, c1, x2, f2 rfl _ _ _ _ _⟩⟩
          | none =>
            refine ⟨_, rfl, rfl, _, rfl, iteFb rfl ?_⟩
            cases g with
            | false => exact ⟨_, rfl, _, rfl, iteTb rfl ⟨_, rfl, l, _, 3, 3, rfl, rfl, c1, x3, f3 rfl _ _ _ _ _⟩⟩
            | true => exact ⟨_, rfl, _, rfl, iteFb rfl (k _ s1)⟩
end
end Wy
namespace Wy
open PySem L2
theorem vet_skip : ∀ (Gs : List Fct) (us : List Str) (rest : List PyData), (us ++ Gs.map (·.1)).Nodup → (∀ G ∈ Gs, FOk G) → vetF us (Gs.map facP ++ rest) = vetF (us ++ Gs.map (·.1)) rest
  | [], us, rest, _, _ => by rw [List.map_nil, List.map_nil, List.nil_append, List.append_nil]
  | G :: Gs, us, rest, nd, ok => by
    have hn : G.1 ∉ us := fun q => by
      have := (List.nodup_append.mp nd).2.2 G.1 q G.1 (by simp)
      exact this rfl
    show vetF us (facP G :: (Gs.map facP ++ rest)) = _
    rw [vetF, if_pos (fac_ok (ok G (List.mem_cons_self ..))), show nmD (facP G) = G.1 from rfl, if_neg hn, vet_skip Gs (us ++ [G.1]) rest (by rw [List.append_assoc]; exact nd) fun F hF => ok F (List.mem_cons_of_mem _ hF), List.append_assoc]
    rfl
theorem vet_none {Fs : List Fct} (nd : (Fs.map (·.1)).Nodup) (ok : ∀ F ∈ Fs, FOk F) : vetF [] (Fs.map facP) = none := by
  have := vet_skip Fs [] [] (by rw [List.nil_append]; exact nd) ok
  rw [List.append_nil] at this
  rw [this]
  rfl
theorem nd_take {Fs : List Fct} (nd : (Fs.map (·.1)).Nodup) (i : Nat) : (([] : List Str) ++ (Fs.take i).map fun F => F.1).Nodup := by
  rw [List.nil_append, List.map_take]
  exact nd.sublist (List.take_sublist _ _)
theorem vet_at {Fs : List Fct} (nd : (Fs.map (·.1)).Nodup) (ok : ∀ F ∈ Fs, FOk F) {ds : List PyData} {i : Nat} {d : PyData} (h1 : ds.take i = (Fs.take i).map facP) (h2 : ds[i]? = some d) : vetF [] ds = vetF ((Fs.take i).map (·.1)) (d :: ds.drop (i + 1)) := by
  have e : ds = (Fs.take i).map facP ++ d :: ds.drop (i + 1) := by
    rw [← h1]
    obtain ⟨hl, hd⟩ := List.getElem?_eq_some_iff.mp h2
    rw [← hd, ← List.drop_eq_getElem_cons hl, List.take_append_drop]
  have := vet_skip (Fs.take i) [] (d :: ds.drop (i + 1)) (nd_take nd i) fun F hF => ok F (List.mem_of_mem_take hF)
  rw [List.nil_append] at this
  exact (congrArg (vetF []) e).trans this
theorem vet_no {Fs : List Fct} (nd : (Fs.map (·.1)).Nodup) (ok : ∀ F ∈ Fs, FOk F) {ds : List PyData} {i : Nat} {d : PyData} (h1 : ds.take i = (Fs.take i).map facP) (h2 : ds[i]? = some d) (hf : factD d = false) : vetF [] ds = some false := by
  rw [vet_at nd ok h1 h2, vetF, if_neg (by rw [hf]; exact Bool.false_ne_true)]
theorem vet_dup {Fs : List Fct} (nd : (Fs.map (·.1)).Nodup) (ok : ∀ F ∈ Fs, FOk F) {ds : List PyData} {i j : Nat} {F G : Fct} (h1 : ds.take i = (Fs.take i).map facP) (h2 : ds[i]? = some (facP F)) (hF : FOk F) (hj : j < i) (hG : Fs[j]? = some G) (e : F.1 = G.1) : vetF [] ds = some true := by
  rw [vet_at nd ok h1 h2, vetF, if_pos (fac_ok hF), if_pos]
  show F.1 ∈ (Fs.take i).map (·.1)
  rw [e]
  exact List.mem_map.mpr ⟨G, List.mem_of_getElem? (i := j) (by rw [List.getElem?_take, if_pos hj]; exact hG), rfl⟩
structure Spo (Fs : List Fct) (a b : Option Nat) (ds : List PyData) : Prop where
  len : ds.length = Fs.length
  at_ : ∀ i, (∀ n, a = some n → i < n) → (∀ n, b = some n → i < n) → ds[i]? = (Fs.map facP)[i]?
  na : ∀ n, a = some n → ∃ d, ds[n]? = some d ∧ factD d = false
  nb : ∀ n, b = some n → (∀ m, a = some m → m ≠ n) → ∃ F G j, ds[n]? = some (facP F) ∧ FOk F ∧ j < n ∧ Fs[j]? = some G ∧ F.1 = G.1
theorem Spo.take {Fs : List Fct} {a b : Option Nat} {ds : List PyData} (s : Spo Fs a b ds) {i : Nat} (ha : ∀ n, a = some n → i ≤ n) (hb : ∀ n, b = some n → i ≤ n) : ds.take i = (Fs.take i).map facP := by
  rw [List.map_take]
  apply List.ext_getElem?
  intro k
  rw [List.getElem?_take, List.getElem?_take]
  by_cases h : k < i
  · rw [if_pos h, if_pos h]
    exact s.at_ k (fun n e => Nat.lt_of_lt_of_le h (ha n e)) fun n e => Nat.lt_of_lt_of_le h (hb n e)
  · rw [if_neg h, if_neg h]
theorem Spo.vet {Fs : List Fct} {a b : Option Nat} {ds : List PyData} (s : Spo Fs a b ds) (nd : (Fs.map (·.1)).Nodup) (ok : ∀ F ∈ Fs, FOk F) : vetF [] ds = (match a, b with | some i, some j => if i ≤ j then some false else some true | some _, none => some false | none, some _ => some true | none, none => none) := by
  cases a with
  | some i =>
    obtain ⟨d, h2, hf⟩ := s.na i rfl
    cases b with
    | none => exact vet_no nd ok (s.take (fun n e => by cases e; exact Nat.le_refl _) fun n e => by cases e) h2 hf
    | some j =>
      by_cases q : i ≤ j
      · rw [vet_no nd ok (s.take (fun n e => by cases e; exact Nat.le_refl _) fun n e => by cases e; exact q) h2 hf]
        show _ = if i ≤ j then _ else _
        rw [if_pos q]
      · obtain ⟨F, G, k, h3, hF, hk, hG, e⟩ := s.nb j rfl fun m e => by cases e; omega
        rw [vet_dup nd ok (s.take (fun n e => by cases e; omega) fun n e => by cases e; exact Nat.le_refl _) h3 hF hk hG e]
        show _ = if i ≤ j then _ else _
        rw [if_neg q]
  | none =>
    cases b with
    | some j =>
      obtain ⟨F, G, k, h3, hF, hk, hG, e⟩ := s.nb j rfl fun m e => by cases e
      exact vet_dup nd ok (s.take (fun n e => by cases e) fun n e => by cases e; exact Nat.le_refl _) h3 hF hk hG e
    | none =>
      have : ds = Fs.map facP := List.ext_getElem? fun i => s.at_ i (fun n e => by cases e) fun n e => by cases e
      rw [this]
      exact vet_none nd ok
theorem vet_due {Fs : List Fct} {a b c : Option Nat} {ds rs : List PyData} {d : PyData} {g : Bool} (s : Spo Fs a b ds) (nd : (Fs.map (·.1)).Nodup) (ok : ∀ F ∈ Fs, FOk F) (hc : rs.all ruleB = c.isNone) (hg : roundB d = g) : vetA ds rs d = dueN a b c g := by
  unfold vetA dueN
  rw [s.vet nd ok, hc, hg]
  cases a with
  | some i =>
    cases b with
    | none => rfl
    | some j =>
      by_cases q : i ≤ j
      · simp [q]
      · simp [q]
  | none =>
    cases b with
    | some j => rfl
    | none =>
      cases c with
      | some m => rfl
      | none => rfl
end Wy
namespace Wy
open PySem L2
def LS (fA rA pA : Addr) : Addr → Prop := fun b => b = fA ∨ b = rA ∨ b = pA
structure Sit (K : PySem.W.Frag) (a fA rA pA mA mf mr : Addr) (ns : List Int) (Fs : List Fct) (Rs : List Rul) (ra : Int) (fx0 rx0 : List V) (oa ob oc : Option Nat) (ds rs : List PyData) (fx rx : List V) (H : Hp) : Prop where
  sc : SqL K H a (ns.map V.int)
  f : H fA = some (.lst fx)
  r : H rA = some (.lst rx)
  p : H pA = some (.lst [oV oa, oV ob, oV oc])
  m : H mA = some (.tup [.ref mf, .ref mr, .int ra])
  mf' : H mf = some (.lst fx0)
  mr' : H mr = some (.lst rx0)
  df : Paired (DS K (LS fA rA pA) H) fx ds
  dr : Paired (DS K (LS fA rA pA) H) rx rs
  d0f : Paired (DS K (LS fA rA pA) H) fx0 (Fs.map facP)
  d0r : Paired (DS K (LS fA rA pA) H) rx0 (Rs.map rulP)
section
variable {K : PySem.W.Frag} {a fA rA pA mA mf mr : Addr} {ns : List Int} {Fs : List Fct} {Rs : List Rul} {ra : Int} {fx0 rx0 : List V} {oa ob oc : Option Nat} {ds rs : List PyData} {fx rx : List V} {H H' Hb : Hp}
theorem Sit.ll (s : Sit K a fA rA pA mA mf mr ns Fs Rs ra fx0 rx0 oa ob oc ds rs fx rx H) : LL (LS fA rA pA) H := fun b hb => by
  rcases hb with rfl | rfl | rfl
  · exact ⟨_, s.f⟩
  · exact ⟨_, s.r⟩
  · exact ⟨_, s.p⟩
theorem dss_keep {L : Addr → Prop} (k : Kp L H H') : ∀ {xs : List V} {es : List PyData}, Paired (DS K L H) xs es → Paired (DS K L H') xs es
  | _, _, .nil => .nil
  | _, _, .cons a b => .cons (a.keep k) (dss_keep k b)
theorem Sit.same (s : Sit K a fA rA pA mA mf mr ns Fs Rs ra fx0 rx0 oa ob oc ds rs fx rx H) (e : Same H H') : Sit K a fA rA pA mA mf mr ns Fs Rs ra fx0 rx0 oa ob oc ds rs fx rx H' :=
  ⟨e.seq s.sc, e _ _ s.f, e _ _ s.r, e _ _ s.p, e _ _ s.m, e _ _ s.mf', e _ _ s.mr', dss_keep (.same e) s.df, dss_keep (.same e) s.dr, dss_keep (.same e) s.d0f, dss_keep (.same e) s.d0r⟩
structure Apart (K : PySem.W.Frag) (Hb : Hp) (a fA rA pA mf mr : Addr) (ns : List Int) : Prop where
  sc : SqL K Hb a (ns.map V.int)
  nf : Hb fA = none
  nr : Hb rA = none
  np : Hb pA = none
  fr : fA ≠ rA
  fp : fA ≠ pA
  rp : rA ≠ pA
  mf' : ¬ LS fA rA pA mf
  mr' : ¬ LS fA rA pA mr
theorem sq_other {D : Addr} {o : HO} {xs : List V} (h : SqL K H a xs) (h2 : SqL K Hb a xs) (hn : Hb D = none) : SqL K (L2.upd H D o) a xs := by
  rcases h2 with h2 | h2
  · have ne : a ≠ D := fun z => by
      subst z
      rcases h2 with h2 | ⟨u, h2⟩ <;> (rw [hn] at h2; cases h2)
    rcases h with (h | ⟨u, h⟩) | h
    · exact .inl (.inl (by rw [upd_ne ne]; exact h))
    · exact .inl (.inr ⟨u, by rw [upd_ne ne]; exact h⟩)
    · exact .inr h
  · exact .inr h2
theorem paired_set {α β : Type} {F : α → β → Prop} : ∀ {xs : List α} {as : List β} (i : Nat) {x : α} {y : β}, Paired F xs as → F x y → Paired F (xs.set i x) (as.set i y)
  | _, _, _, _, _, .nil, _ => .nil
  | _, _, 0, _, _, .cons _ b, h => .cons h b
  | _, _, i + 1, _, _, .cons a b, h => .cons a (paired_set i b h)
theorem Sit.setP (s : Sit K a fA rA pA mA mf mr ns Fs Rs ra fx0 rx0 oa ob oc ds rs fx rx H) (n : Apart K Hb a fA rA pA mf mr ns) (oa' ob' oc' : Option Nat) :
    Sit K a fA rA pA mA mf mr ns Fs Rs ra fx0 rx0 oa' ob' oc' ds rs fx rx (L2.upd H pA (.lst [oV oa', oV ob', oV oc'])) := by
  have k : Kp (LS fA rA pA) H (L2.upd H pA (.lst [oV oa', oV ob', oV oc'])) := .set (.inr (.inr rfl))
  refine ⟨sq_other s.sc n.sc n.np, by rw [upd_ne n.fp]; exact s.f, by rw [upd_ne n.rp]; exact s.r, upd_same, ?_, ?_, ?_, dss_keep k s.df, dss_keep k s.dr, dss_keep k s.d0f, dss_keep k s.d0r⟩
  · rw [upd_ne (fun z => by have := s.m; rw [z, s.p] at this; cases this)]; exact s.m
  · rw [upd_ne (fun z => n.mf' (.inr (.inr z)))]; exact s.mf'
  · rw [upd_ne (fun z => n.mr' (.inr (.inr z)))]; exact s.mr'
theorem Sit.setF (s : Sit K a fA rA pA mA mf mr ns Fs Rs ra fx0 rx0 oa ob oc ds rs fx rx H) (n : Apart K Hb a fA rA pA mf mr ns) (i : Nat) {y : V} {d : PyData} (hy : DS K (LS fA rA pA) H y d) :
    Sit K a fA rA pA mA mf mr ns Fs Rs ra fx0 rx0 oa ob oc (ds.set i d) rs (fx.set i y) rx (L2.upd H fA (.lst (fx.set i y))) := by
  have k : Kp (LS fA rA pA) H (L2.upd H fA (.lst (fx.set i y))) := .set (.inl rfl)
  refine ⟨sq_other s.sc n.sc n.nf, upd_same, by rw [upd_ne n.fr.symm]; exact s.r, by rw [upd_ne n.fp.symm]; exact s.p, ?_, ?_, ?_, dss_keep k (paired_set i s.df hy), dss_keep k s.dr, dss_keep k s.d0f, dss_keep k s.d0r⟩
  · rw [upd_ne (fun z => by have := s.m; rw [z, s.f] at this; cases this)]; exact s.m
  · rw [upd_ne (fun z => n.mf' (.inl z))]; exact s.mf'
  · rw [upd_ne (fun z => n.mr' (.inl z))]; exact s.mr'
theorem Sit.setR (s : Sit K a fA rA pA mA mf mr ns Fs Rs ra fx0 rx0 oa ob oc ds rs fx rx H) (n : Apart K Hb a fA rA pA mf mr ns) (i : Nat) {y : V} {d : PyData} (hy : DS K (LS fA rA pA) H y d) :
    Sit K a fA rA pA mA mf mr ns Fs Rs ra fx0 rx0 oa ob oc ds (rs.set i d) fx (rx.set i y) (L2.upd H rA (.lst (rx.set i y))) := by
  have k : Kp (LS fA rA pA) H (L2.upd H rA (.lst (rx.set i y))) := .set (.inr (.inl rfl))
  refine ⟨sq_other s.sc n.sc n.nr, by rw [upd_ne n.fr]; exact s.f, upd_same, by rw [upd_ne n.rp.symm]; exact s.p, ?_, ?_, ?_, dss_keep k s.df, dss_keep k (paired_set i s.dr hy), dss_keep k s.d0f, dss_keep k s.d0r⟩
  · rw [upd_ne (fun z => by have := s.m; rw [z, s.r] at this; cases this)]; exact s.m
  · rw [upd_ne (fun z => n.mf' (.inr (.inl z)))]; exact s.mf'
  · rw [upd_ne (fun z => n.mr' (.inr (.inl z)))]; exact s.mr'
end
end Wy
namespace Wy
open PySem L2
structure Bse (Fs : List Fct) (Rs : List Rul) (ra : Int) : Prop where
  nd : (Fs.map (·.1)).Nodup
  ok : ∀ F ∈ Fs, FOk F
  lf : Fs.length ≤ 71
  lr : Rs.length ≤ 5
  rok : ∀ R ∈ Rs, ROk R
  lo : 0 ≤ ra
  hi : ra ≤ 5
def Q7 (K : PySem.W.Frag) (Hb : Hp) (a : Addr) (ns : List Int) (σ : L2.St) (H' : Hp) : Prop := ∃ (fA rA pA mA mf mr : Addr) (Fs : List Fct) (Rs : List Rul) (ra : Int) (fx0 rx0 : List V) (ob : Option Nat) (Gs : List Fct) (fx rx : List V) (v6 v7 : Option V),
  σ = [some (.ref a), some (.ref fA), some (.ref rA), some (.int ra), some (.ref mA), some (.ref pA), v6, v7, none, none, none] ∧ Apart K Hb a fA rA pA mf mr ns ∧ Sit K a fA rA pA mA mf mr ns Fs Rs ra fx0 rx0 none ob none (Gs.map facP) (Rs.map rulP) fx rx H' ∧ Paired (FaV K H') fx Gs ∧ Paired (RuV K H') rx Rs ∧ Spo Fs none ob (Gs.map facP) ∧ (∀ G ∈ Gs, FOk G) ∧ Bse Fs Rs ra
def Q9 (K : PySem.W.Frag) (Hb : Hp) (a : Addr) (ns : List Int) (σ : L2.St) (H' : Hp) : Prop := ∃ (fA rA pA mA mf mr : Addr) (Fs : List Fct) (Rs : List Rul) (ra : Int) (fx0 rx0 : List V) (oa ob : Option Nat) (ds : List PyData) (fx rx : List V) (v6 v7 : Option V),
  σ = [some (.ref a), some (.ref fA), some (.ref rA), some (.int ra), some (.ref mA), some (.ref pA), v6, v7, none, none, none] ∧ Apart K Hb a fA rA pA mf mr ns ∧ Sit K a fA rA pA mA mf mr ns Fs Rs ra fx0 rx0 oa ob none ds (Rs.map rulP) fx rx H' ∧ Paired (RuV K H') rx Rs ∧ Spo Fs oa ob ds ∧ (∀ d ∈ ds, okD 6 d) ∧ Bse Fs Rs ra
def Q11 (K : PySem.W.Frag) (Hb : Hp) (a : Addr) (ns : List Int) (σ : L2.St) (H' : Hp) : Prop := ∃ (fA rA pA mA mf mr : Addr) (Fs : List Fct) (Rs : List Rul) (ra : Int) (fx0 rx0 : List V) (oa ob oc : Option Nat) (ds rs : List PyData) (fx rx : List V) (v6 v7 : Option V),
  σ = [some (.ref a), some (.ref fA), some (.ref rA), some (.int ra), some (.ref mA), some (.ref pA), v6, v7, none, none, none] ∧ Sit K a fA rA pA mA mf mr ns Fs Rs ra fx0 rx0 oa ob oc ds rs fx rx H' ∧ Spo Fs oa ob ds ∧ (∀ d ∈ ds, okD 6 d) ∧ rs.all ruleB = oc.isNone ∧ (∀ d ∈ rs, okD 6 d) ∧ rs.length = Rs.length ∧ Bse Fs Rs ra ∧ ∃ c : Int, v6 = some (.int c)
def Q12 (K : PySem.W.Frag) (Hb : Hp) (a : Addr) (ns : List Int) (σ : L2.St) (H' : Hp) : Prop := ∃ (fA rA pA mA mf mr : Addr) (Fs : List Fct) (Rs : List Rul) (ra : Int) (fx0 rx0 : List V) (oa ob oc : Option Nat) (ds rs : List PyData) (fx rx : List V) (v6 v7 : Option V) (x : V) (d : PyData),
  σ = [some (.ref a), some (.ref fA), some (.ref rA), some x, some (.ref mA), some (.ref pA), v6, v7, none, none, none] ∧ Sit K a fA rA pA mA mf mr ns Fs Rs ra fx0 rx0 oa ob oc ds rs fx rx H' ∧ Spo Fs oa ob ds ∧ (∀ d ∈ ds, okD 6 d) ∧ rs.all ruleB = oc.isNone ∧ (∀ d ∈ rs, okD 6 d) ∧ rs.length = Rs.length ∧ Bse Fs Rs ra ∧ Dat K H' d x ∧ roundB d = !decide (ns.getD 5 0 / 27 % 3 = 1)
theorem dep_all {n : Nat} (ih : ∀ d, okD n d → PyData.depth d ≤ n) : ∀ ds : List PyData, (∀ e ∈ ds, okD n e) → PyData.depthAll ds ≤ n
  | [], _ => Nat.zero_le _
  | d :: r, h => Nat.max_le.mpr ⟨ih d (h d (List.mem_cons_self ..)), dep_all ih r fun e he => h e (List.mem_cons_of_mem _ he)⟩
theorem dep_okD : ∀ (n : Nat) (d : PyData), okD n d → PyData.depth d ≤ n
  | n, d, h => by
    induction n generalizing d with
    | zero =>
      cases d with
      | list _ => exact h.elim
      | tuple _ => exact h.elim
      | dict _ => exact h.elim
      | _ => exact Nat.zero_le _
    | succ n ih =>
      cases d with
      | list ds => exact Nat.succ_le_succ (dep_all ih ds h.2)
      | tuple ds => exact Nat.succ_le_succ (dep_all ih ds h.2)
      | dict _ => exact h.elim
      | _ => exact Nat.zero_le _
theorem eqv_nil' (ds : List PyData) : PyData.eqv (.list ds) (.list []) = decide (ds = []) := by
  cases ds with
  | nil => decide
  | cons d r =>
    rw [decide_eq_false (by simp)]
    rfl
theorem dats_bl {K : PySem.W.Frag} {H : Hp} : ∀ bs : List Bool, Dats K H (bs.map .bool) (bs.map V.bl)
  | [] => .nil
  | b :: r => .cons (.bl b) (dats_bl r)
theorem facs_ds {K : PySem.W.Frag} {L : Addr → Prop} {H : Hp} (ll : LL L H) : ∀ {xs : List V} {Fs : List Fct}, Paired (FaV K H) xs Fs → (∀ F ∈ Fs, FOk F) → Paired (DS K L H) xs (Fs.map facP)
  | _, _, .nil, _ => .nil
  | _, _, .cons a b, h => .cons (ds_of ll (noL_fac _) (a.dat (h _ (List.mem_cons_self ..)))) (facs_ds ll b fun F hF => h F (List.mem_cons_of_mem _ hF))
theorem rul_noL {R : Rul} (g : ROk R) : noL (rulP R) = true := by
  show (noL R.1 && (noLs R.2.1 && (noLs R.2.2 && true))) = true
  rw [g.2.2.2.2.2.2.1, g.2.2.2.2.2.2.2.1, g.2.2.2.2.2.2.2.2]
  rfl
theorem ruls_ds {K : PySem.W.Frag} {L : Addr → Prop} {H : Hp} (ll : LL L H) : ∀ {xs : List V} {Rs : List Rul}, Paired (RuV K H) xs Rs → (∀ R ∈ Rs, ROk R) → Paired (DS K L H) xs (Rs.map rulP)
  | _, _, .nil, _ => .nil
  | _, _, .cons a b, h => .cons (ds_of ll (rul_noL (h _ (List.mem_cons_self ..))) a.dat) (ruls_ds ll b fun R hR => h R (List.mem_cons_of_mem _ hR))
def sp_law (K : PySem.W.Frag) : Sp := fun vs H Q _ => ∃ (a : Addr) (ns : List Int), vs = [.ref a] ∧ SqL K H a (ns.map V.int) ∧ ns.length ≤ 63 ∧ ∀ H', Q (.bl true) H'
theorem ok_law {l : PySem.W.OpenLaw} {w : World} {K : PySem.W.Frag} {mg : Str → Option Value} {fa : Addr} (T : Txt K mg) (hfa : mg "law" = some (.ref fa)) :
    ∃ fd : FuncData, (∀ (s : Shared) (v : Value), BindsTo s fd ⟨[v], []⟩ [("_law_script", v)]) ∧ ∀ base : Heap, K.In base → base.Ns mainGlobals mg → FnOk l.prog w K mg base CX0 11 fa fd ["_law_script"] (sp_law K) := by
  refine T.t_law.fin hfa sc_law (fun vs H Q E h => ?_) fun base f cdv A outer s H vs Q E hr h => ?_
  · obtain ⟨a, ns, rfl, _⟩ := h
    rfl
  · obtain ⟨a, ns, rfl, hA, hlen, k⟩ := h
    refine join_at 7 (Q7 K H a ns) ?_ (fun u hu hC => ⟨_, (psr_7
      (ps_set (i := 1) sc_law.nd rfl (Or.inl rfl) (pe_def (ok__law_facts T) hr rfl (pa_1 (pv 0))))
      (ps_set (i := 2) sc_law.nd rfl (Or.inl rfl) (pe_def (ok__law_rules T) hr rfl (pa_1 (pv 0))))
      (ps_set (i := 3) sc_law.nd rfl (Or.inl rfl) (pe_op op_mod (pe_def (ok__law_cell_at T) hr rfl (pa_2 (pv 0) pe_int)) pe_int))
      (ps_set (i := 4) sc_law.nd rfl (Or.inl rfl) (pe_tup (pa_3 (pe_callTy (call_listK K) rfl T.b_list bt_list (pa_1 (pv 1))) (pe_callTy (call_listK K) rfl T.b_list bt_list (pa_1 (pv 2))) (pv 3))))
      (ps_set (i := 5) sc_law.nd rfl (Or.inl rfl) (pe_lst (pa_3 pe_non pe_non pe_non)))
      (ps_set (i := 6) sc_law.nd rfl (Or.inl rfl) (pe_def (ok__law_cell_at T) hr rfl (pa_2 (pv 0) pe_int)))
      (ps_if (PW.pt (pw_and (pt_cmpR op_eq (pe_op op_mod (pe_def (ok__law_cell_at T) hr rfl (pa_2 (pv 0) pe_int)) pe_int) pe_int (nomark _)) (pw_and1 (pt_cmpR op_gt (pe_callB (call_lenK K) rfl T.b_len bt_len (pa_1 (pv 1))) pe_int (nomark _))))) (pss_3
      (ps_set (i := 7) sc_law.nd rfl (Or.inl rfl) (pe_op op_add pe_int (pe_op op_mod (pv 6) (pe_op op_sub (pe_callB (call_lenK K) rfl T.b_len bt_len (pa_1 (pv 1))) pe_int))))
      (ps_asg (pv 7) (pg_sub (pv 5) pe_int set_list))
      (ps_asg (pe_op (op_catTK K) (pe_tup (pa_1 (pe_ix (ix_tupK K) (pe_ix (ix_listK K) (pv 1) (pe_op op_mod (pe_op op_fdiv (pv 6) pe_int) (pv 7)) (fun _ _ => rfl)) pe_int (fun _ _ => rfl)))) (pe_slice (sl_tupK K) (pe_ix (ix_listK K) (pv 1) (pv 7) (fun _ _ => rfl)) (po_some pe_int) po_none)) (pg_sub (pv 1) (pv 7) set_list))) pss_nil)
      hu), ?_⟩)
    · refine join_more 2 (Q9 K H a ns) ?_ (fun u hu hC => ⟨_, (psr_2
      (ps_set (i := 6) sc_law.nd rfl (Or.inl rfl) (pe_def (ok__law_cell_at T) hr rfl (pa_2 (pv 0) pe_int)))
      (ps_if (PW.pt (pw_and (pt_cmpR op_eq (pe_op op_mod (pe_op op_fdiv (pe_def (ok__law_cell_at T) hr rfl (pa_2 (pv 0) pe_int)) pe_int) pe_int) pe_int (nomark _)) (pw_and1 (pt_cmpR (op_neD hr.units K) (pv 1) (pe_lst pa_nil) (nomark _))))) (pss_2
      (ps_asg (pe_op op_mod (pv 6) (pe_callB (call_lenK K) rfl T.b_len bt_len (pa_1 (pv 1)))) (pg_sub (pv 5) pe_int set_list))
      (ps_asg (pe_def (ok__law_no_fact T) hr rfl (pa_2 (pe_op op_fdiv (pv 6) pe_int) (pe_ix (ix_listK K) (pv 1) (pe_ix (ix_listK K) (pv 5) pe_int (fun _ _ => rfl)) (fun _ _ => rfl)))) (pg_sub (pv 1) (pe_ix (ix_listK K) (pv 5) pe_int (fun _ _ => rfl)) set_list))) pss_nil)
      hu), ?_⟩)
      · refine join_more 2 (Q11 K H a ns) ?_ (fun u hu hC => ⟨_, (psr_2
      (ps_set (i := 6) sc_law.nd rfl (Or.inl rfl) (pe_def (ok__law_cell_at T) hr rfl (pa_2 (pv 0) pe_int)))
      (ps_if (PW.pt (pw_and (pt_cmpR op_eq (pe_op op_mod (pe_op op_fdiv (pe_def (ok__law_cell_at T) hr rfl (pa_2 (pv 0) pe_int)) pe_int) pe_int) pe_int (nomark _)) (pw_and1 (pt_cmpR (op_neD hr.units K) (pv 2) (pe_lst pa_nil) (nomark _))))) (pss_2
      (ps_asg (pe_op op_mod (pv 6) (pe_callB (call_lenK K) rfl T.b_len bt_len (pa_1 (pv 2)))) (pg_sub (pv 5) pe_int set_list))
      (ps_asg (pe_def (ok__law_no_rule T) hr rfl (pa_2 (pe_op op_fdiv (pv 6) pe_int) (pe_ix (ix_listK K) (pv 2) (pe_ix (ix_listK K) (pv 5) pe_int (fun _ _ => rfl)) (fun _ _ => rfl)))) (pg_sub (pv 2) (pe_ix (ix_listK K) (pv 5) pe_int (fun _ _ => rfl)) set_list))) pss_nil)
      hu), ?_⟩)
        · refine join_more 1 (Q12 K H a ns) ⟨_, (pss_6
      (ps_set (i := 8) sc_law.nd rfl (Or.inl rfl) (pe_tup (pa_2 (pe_callTy (call_listK K) rfl T.b_list bt_list (pa_1 (pv 1))) (pe_callTy (call_listK K) rfl T.b_list bt_list (pa_1 (pv 2))))))
      (ps_set (i := 9) sc_law.nd rfl (Or.inl rfl) (pe_def (ok__law_outcome T) hr rfl (pa_3 (pe_ix (ix_tupK K) (pv 8) pe_int (fun _ _ => rfl)) (pe_ix (ix_tupK K) (pv 8) pe_int (fun _ _ => rfl)) (pv 3))))
      (ps_if (PW.pt (pw_or (pt_cmpR (op_neD hr.units K) (pe_ix (ix_tupK K) (pv 8) pe_int (fun _ _ => rfl)) (pv 1) (nomark _)) (pw_or1 (pt_cmpR (op_neD hr.units K) (pe_ix (ix_tupK K) (pv 8) pe_int (fun _ _ => rfl)) (pv 2) (nomark _))))) (pss_one (ps_ret pe_bl)) pss_nil)
      (ps_set (i := 10) sc_law.nd rfl (Or.inl rfl) (pe_def (ok__law_due T) hr rfl (pa_2 (pv 5) (pe_cmpR op_ne (pe_op op_mod (pe_op op_fdiv (pe_def (ok__law_cell_at T) hr rfl (pa_2 (pv 0) pe_int)) pe_int) pe_int) pe_int (nomark _)))))
      (ps_if (PW.pt (pw_or (PW.pt (pw_and (pt_cmp (pc_isT (pv 10))) (pw_and1 (pt_cmp (pc_notT (pv 9)))))) (pw_or1 (PW.pt (pw_and (pt_cmp (pc_notT (pv 10))) (pw_and1 (pt_cmpR (op_neD hr.units K) (pv 9) (pv 10) (nomark _)))))))) (pss_one (ps_ret pe_bl)) pss_nil)
      (ps_ret (pe_cmp (pc_isT (pe_def (ok__law_outcome T) hr rfl (pa_3 (pe_ix (ix_tupK K) (pv 4) pe_int (fun _ _ => rfl)) (pe_ix (ix_tupK K) (pv 4) pe_int (fun _ _ => rfl)) (pe_ix (ix_tupK K) (pv 4) pe_int (fun _ _ => rfl)))))))), ?_⟩ (fun u hu hC => ⟨_, (psr_1
      (ps_if (pt_cmpR op_eq (pe_op op_mod (pe_op op_fdiv (pe_def (ok__law_cell_at T) hr rfl (pa_2 (pv 0) pe_int)) pe_int) pe_int) pe_int (nomark _)) (pss_one (ps_set (i := 3) sc_law.nd rfl (Or.inl rfl) (pe_ix (ix_listK K) (pe_lst (pa_8 pe_int (pe_un un_neg pe_int) pe_bl pe_bl pe_non pe_str (pe_tup (pa_1 pe_int)) (pe_op op_add pe_int (pe_op op_mod (pv 6) (pe_op op_pow pe_int pe_int))))) (pe_op op_mod (pe_def (ok__law_cell_at T) hr rfl (pa_2 (pv 0) pe_int)) pe_int) (fun _ _ => rfl)))) pss_nil)
      hu), ?_⟩)
          · rintro σ H' ⟨fA, rA, pA, mA, mf, mr, Fs, Rs, ra, fx0, rx0, oa, ob, oc, ds, rs, fx, rx, v6, v7, x, d, rfl, S, sp, okd, hal, okr, lrs, B, hx, hg⟩
            have g0 := vet_due (g := !decide (ns.getD 5 0 / 27 % 3 = 1)) sp B.nd B.ok hal hg
            have lds := sp.len
            have lF := B.lf
            have lR := B.lr
            refine ⟨_, rfl, _, _, rfl, .inl (SqL.of S.f), fun h1 hh1 => ?_⟩
            have s1 := same_upd (o := HO.lst fx) hh1
            have c1 : L2.upd H' h1 (.lst fx) h1 = some (.lst fx) := upd_same
            generalize L2.upd H' h1 (.lst fx) = H1 at *
            refine ⟨_, rfl, _, _, rfl, .inl (SqL.of (s1 _ _ S.r)), fun h2 hh2 => ?_⟩
            have s2 := same_upd (o := HO.lst rx) hh2
            have c2 : L2.upd H1 h2 (.lst rx) h2 = some (.lst rx) := upd_same
            generalize L2.upd H1 h2 (.lst rx) = H2 at *
            refine ⟨by show 2 ≤ sizeLine; decide, fun hA' hhA => ?_⟩
            have s3 := same_upd (o := HO.tup [V.ref h1, .ref h2]) hhA
            have c3 : L2.upd H2 hA' (.tup [V.ref h1, .ref h2]) hA' = some (.tup [V.ref h1, .ref h2]) := upd_same
            generalize L2.upd H2 hA' (.tup [V.ref h1, .ref h2]) = H3 at *
            have q3 := s1.trans (s2.trans s3)
            have S3 := S.same q3
            have i0 : atI [V.ref h1, .ref h2] 0 = some (V.ref h1) := atI_nat (j := 0) rfl
            have i1 : atI [V.ref h1, .ref h2] 1 = some (V.ref h2) := atI_nat (j := 1) rfl
            have cf := (s2.trans s3) _ _ c1
            have cr := s3 _ _ c2
            refine ⟨_, rfl, _, _, _, _, rfl, rfl, SqT.of c3, i0, _, rfl, _, _, _, _, rfl, rfl, SqT.of c3, i1, _, rfl, h1, h2, x, fx, rx, ds, rs, d, rfl, SqL.of cf, dss_dats S3.df, okd, by omega, SqL.of cr, dss_dats S3.dr, okr, by omega, Dat.same q3 _ _ hx, fun H4 s4 => ?_⟩
            have S4 := S3.same s4
            have c3' := s4 _ _ c3
            have Df : Dat K H4 (.list ds) (.ref fA) := .lst (SqL.of S4.f) (dss_dats S4.df)
            have Df1 : Dat K H4 (.list ds) (.ref h1) := .lst (SqL.of (s4 _ _ cf)) (dss_dats S4.df)
            have Dr : Dat K H4 (.list rs) (.ref rA) := .lst (SqL.of S4.r) (dss_dats S4.dr)
            have Dr1 : Dat K H4 (.list rs) (.ref h2) := .lst (SqL.of (s4 _ _ cr)) (dss_dats S4.dr)
            have dpf : PyData.depth (.list ds) ≤ 60 := Nat.le_trans (Nat.succ_le_succ (dep_all (dep_okD 6) _ okd)) (by decide)
            have dpr : PyData.depth (.list rs) ≤ 60 := Nat.le_trans (Nat.succ_le_succ (dep_all (dep_okD 6) _ okr)) (by decide)
            have ef : (!PyData.eqv (.list ds) (.list ds)) = false := by rw [PySem.SeqAt.eqv_refl _ (Dat.lay _ _ Df)]; rfl
            have er : (!PyData.eqv (.list rs) (.list rs)) = false := by rw [PySem.SeqAt.eqv_refl _ (Dat.lay _ _ Dr)]; rfl
            have last : vetA (Fs.map facP) (Rs.map rulP) (.int ra) = none := by
              have := vet_due (a := none) (b := none) (c := none) (g := true) (ds := Fs.map facP) (rs := Rs.map rulP) (d := .int ra) ⟨by rw [List.length_map], fun i _ _ => rfl, (fun n e => by cases e), fun n e => by cases e⟩ B.nd B.ok (List.all_eq_true.mpr fun d hd => by
                obtain ⟨R, hR, rfl⟩ := List.mem_map.mp hd
                exact (B.rok R hR).1) (by show (decide (0 ≤ ra) && decide (ra ≤ 5)) = true; rw [decide_eq_true B.lo, decide_eq_true B.hi]; rfl)
              rw [this]
              rfl
            have ok0 : ∀ d ∈ Fs.map facP, okD 6 d := fun d hd => by
              obtain ⟨G, hG, rfl⟩ := List.mem_map.mp hd
              exact fac_okD (B.ok G hG)
            have ok1 : ∀ d ∈ Rs.map rulP, okD 6 d := fun d hd => by
              obtain ⟨R, hR, rfl⟩ := List.mem_map.mp hd
              exact (B.rok R hR).2.1
            have j0 : atI [V.ref mf, .ref mr, .int ra] 0 = some (V.ref mf) := atI_nat (j := 0) rfl
            have j1 : atI [V.ref mf, .ref mr, .int ra] 1 = some (V.ref mr) := atI_nat (j := 1) rfl
            have j2 : atI [V.ref mf, .ref mr, .int ra] 2 = some (V.int ra) := atI_nat (j := 2) rfl
            rw [g0]
            cases hdue : dueN oa ob oc (!decide (ns.getD 5 0 / 27 % 3 = 1)) with
            | none =>
              show _
              refine ⟨_, rfl, _, _, _, _, rfl, rfl, SqT.of c3', i0, _, rfl, .list ds, .list ds, Df1, Df, dpf, _, rfl, iteFb ef ?_⟩
              refine ⟨_, rfl, _, _, _, _, rfl, rfl, SqT.of c3', i1, _, rfl, .list rs, .list rs, Dr1, Dr, dpr, _, rfl, iteFb er ?_⟩
              refine ⟨_, rfl, _, rfl, a, ns, 5, rfl, S4.sc, by decide, _, _, rfl, rfl, ⟨by decide, by decide⟩, _, _, rfl, rfl, (by show (0 : Int) < 3; decide), rfl, pA, _, oa, ob, oc, rfl, SqL.of S4.p, fun H5 s5 => ?_⟩
              rw [show (!decide (V.int (ns.getD (5 : Int).toNat 0 / 27 % 3) = V.int 1)) = !decide (ns.getD 5 0 / 27 % 3 = 1) by rw [dI]; rfl, hdue]
              have S5 := S4.same s5
              refine ⟨_, rfl, .inl ⟨_, rfl⟩, _, rfl, iteTb rfl ⟨_, rfl, .inl ⟨_, rfl⟩, _, rfl, iteFb rfl ?_⟩⟩
              refine ⟨_, rfl, .inl ⟨_, rfl⟩, _, rfl, iteFb rfl (iteFb rfl ?_)⟩
              refine ⟨_, rfl, _, _, _, _, rfl, rfl, SqT.of S5.m, j0, _, rfl, _, _, _, _, rfl, rfl, SqT.of S5.m, j1, _, rfl, _, _, _, _, rfl, rfl, SqT.of S5.m, j2, mf, mr, .int ra, fx0, rx0, Fs.map facP, Rs.map rulP, .int ra, rfl, SqL.of S5.mf', dss_dats S5.d0f, ok0, by rw [List.length_map]; omega, SqL.of S5.mr', dss_dats S5.d0r, ok1, by rw [List.length_map]; omega, .int ra, fun H6 s6 => ?_⟩
              rw [last]
              exact ⟨.inl ⟨_, rfl⟩, k H6⟩
            | some n =>
              intro q l hl hq
              refine ⟨_, rfl, _, _, _, _, rfl, rfl, SqT.of c3', i0, _, rfl, .list ds, .list ds, Df1, Df, dpf, _, rfl, iteFb ef ?_⟩
              refine ⟨_, rfl, _, _, _, _, rfl, rfl, SqT.of c3', i1, _, rfl, .list rs, .list rs, Dr1, Dr, dpr, _, rfl, iteFb er ?_⟩
              refine ⟨_, rfl, _, rfl, a, ns, 5, rfl, S4.sc, by decide, _, _, rfl, rfl, ⟨by decide, by decide⟩, _, _, rfl, rfl, (by show (0 : Int) < 3; decide), rfl, pA, _, oa, ob, oc, rfl, SqL.of S4.p, fun H5 s5 => ?_⟩
              rw [show (!decide (V.int (ns.getD (5 : Int).toNat 0 / 27 % 3) = V.int 1)) = !decide (ns.getD 5 0 / 27 % 3 = 1) by rw [dI]; rfl, hdue]
              intro q2 l2 hl2 hq2
              have S5 := S4.same s5
              have dk : ∀ {u v : Addr}, H5 u = some (.lst ((kindsOf n).map V.bl)) → H5 v = some (.tup [.ref u, .bl true]) → Dat K H5 (.tuple [.list ((kindsOf n).map .bool), .bool true]) (.ref v) := fun {u v} h1 h2 => .tup (SqT.of h2) (.cons (.lst (SqL.of h1) (dats_bl _)) (.cons (.bl true) .nil))
              have D1 := dk (s5 _ _ hl) (s5 _ _ hq)
              have D2 := dk hl2 hq2
              refine ⟨_, rfl, .inr ⟨_, rfl⟩, _, rfl, iteFb rfl (iteFb rfl ?_)⟩
              refine ⟨_, rfl, .inr ⟨_, rfl⟩, _, rfl, iteTb rfl ⟨_, rfl, _, rfl, _, _, D1, D2, ?_, _, rfl, iteFb (by rw [PySem.SeqAt.eqv_refl _ (Dat.lay _ _ D1)]; rfl) ?_⟩⟩
              · have : okD 2 (.tuple [.list ((kindsOf n).map .bool), .bool true]) := ⟨by show 2 ≤ 10; decide, fun e he => by
                  rcases List.mem_cons.mp he with rfl | he
                  · refine ⟨by rw [List.length_map]; show ((List.range 7).map _).length ≤ 10; rw [List.length_map, List.length_range]; decide, fun x hx => ?_⟩
                    obtain ⟨b, _, rfl⟩ := List.mem_map.mp hx
                    trivial
                  · rw [List.mem_singleton.mp he]
                    trivial⟩
                exact Nat.le_trans (dep_okD 2 _ this) (by decide)
              refine ⟨_, rfl, _, _, _, _, rfl, rfl, SqT.of S5.m, j0, _, rfl, _, _, _, _, rfl, rfl, SqT.of S5.m, j1, _, rfl, _, _, _, _, rfl, rfl, SqT.of S5.m, j2, mf, mr, .int ra, fx0, rx0, Fs.map facP, Rs.map rulP, .int ra, rfl, SqL.of S5.mf', dss_dats S5.d0f, ok0, by rw [List.length_map]; omega, SqL.of S5.mr', dss_dats S5.d0r, ok1, by rw [List.length_map]; omega, .int ra, fun H6 s6 => ?_⟩
              rw [last]
              exact ⟨.inl ⟨_, rfl⟩, k H6⟩
          · rintro σ H' ⟨fA, rA, pA, mA, mf, mr, Fs, Rs, ra, fx0, rx0, oa, ob, oc, ds, rs, fx, rx, v6, v7, rfl, S, sp, okd, hal, okr, lrs, B, c, rfl⟩
            refine ⟨_, rfl, a, ns, 5, rfl, S.sc, by decide, _, _, rfl, rfl, ⟨by decide, by decide⟩, _, _, rfl, rfl, (by show (0 : Int) < 3; decide), rfl, _, rfl, ite2 (fun h => ?_) (fun h => ?_)⟩
            · have h' : ns.getD 5 0 / 27 % 3 = 1 := by
                have := of_decide_eq_true (show decide (V.int (ns.getD 5 0 / 27 % 3) = V.int 1) = true from h)
                injection this
              have p1 : CPow 10 30 := ⟨by decide, by decide, by decide⟩
              have pm : (0 : Int) < 10 ^ (30 : Int).toNat := by decide +kernel
              have fin : ∀ {H'' : Hp} (x : V) (e : PyData), Same H' H'' → Dat K H'' e x → roundB e = false → Q12 K H a ns [some (.ref a), some (.ref fA), some (.ref rA), some x, some (.ref mA), some (.ref pA), some (.int c), v7, none, none, none] H'' := fun {H''} x e s hx hr => ⟨fA, rA, pA, mA, mf, mr, Fs, Rs, ra, fx0, rx0, oa, ob, oc, ds, rs, fx, rx, _, v7, x, e, rfl, S.same s, sp, okd, hal, okr, lrs, B, hx, by rw [hr, decide_eq_true h']; rfl⟩
              refine ⟨_, rfl, by show 1 ≤ sizeLine; decide, fun t1 ht1 => ?_⟩
              have s1 := same_upd (o := HO.tup [V.int 2]) ht1
              have c1 : L2.upd H' t1 (.tup [V.int 2]) t1 = some (.tup [V.int 2]) := upd_same
              generalize L2.upd H' t1 (.tup [V.int 2]) = H1 at *
              refine ⟨_, rfl, _, _, rfl, rfl, p1, _, _, rfl, rfl, pm, _, _, rfl, rfl, by show 8 ≤ sizeLine; decide, fun l2 hl2 => ?_⟩
              have s2 := same_upd (o := HO.lst [V.int 6, .int (-1), .bl true, .bl false, .non, .str "3", .ref t1, .int (6 + c % 10 ^ (30 : Int).toNat)]) hl2
              obtain ⟨y, e, hat, hy, hr0⟩ : ∃ y e, atI [V.int 6, .int (-1), .bl true, .bl false, .non, .str "3", .ref t1, .int (6 + c % 10 ^ (30 : Int).toNat)] (ns.getD (9 : Int).toNat 0 % 8) = some y ∧ Dat K (L2.upd H1 l2 (.lst [V.int 6, .int (-1), .bl true, .bl false, .non, .str "3", .ref t1, .int (6 + c % 10 ^ (30 : Int).toNat)])) e y ∧ roundB e = false := by
                have m0 := Int.emod_nonneg (ns.getD (9 : Int).toNat 0) (show (8 : Int) ≠ 0 by decide)
                have m1 := Int.emod_lt_of_pos (ns.getD (9 : Int).toNat 0) (show (0 : Int) < 8 by decide)
                obtain ⟨n, hn⟩ := Int.eq_ofNat_of_zero_le m0
                rw [hn]
                have n8 : n < 8 := by omega
                have d0 := Int.emod_nonneg c (show ((10 : Int) ^ (30 : Int).toNat) ≠ 0 by decide +kernel)
                match n, n8 with
                | 0, _ => exact ⟨_, .int 6, atI_nat rfl, .int 6, rfl⟩
                | 1, _ => exact ⟨_, .int (-1), atI_nat rfl, .int (-1), rfl⟩
                | 2, _ => exact ⟨_, .bool true, atI_nat rfl, .bl true, rfl⟩
                | 3, _ => exact ⟨_, .bool false, atI_nat rfl, .bl false, rfl⟩
                | 4, _ => exact ⟨_, .none, atI_nat rfl, .non, rfl⟩
                | 5, _ => exact ⟨_, .str "3", atI_nat rfl, .str _ (by decide +kernel), rfl⟩
                | 6, _ => exact ⟨_, .tuple [.int 2], atI_nat rfl, .tup (SqT.of (s2 _ _ c1)) (.cons (.int 2) .nil), rfl⟩
                | 7, _ => exact ⟨_, .int _, atI_nat rfl, .int _, by show (decide _ && decide (6 + c % 10 ^ (30 : Int).toNat ≤ 5)) = false; rw [decide_eq_false (p := 6 + c % 10 ^ (30 : Int).toNat ≤ 5) (by omega), Bool.and_false]⟩
              exact ⟨_, rfl, a, ns, 9, rfl, (s1.trans s2).seq S.sc, by decide, _, _, rfl, rfl, (by show (0 : Int) < 8; decide), _, _, _, _, rfl, rfl, SqL.of upd_same, hat, hC _ _ (fin y e (s1.trans s2) hy hr0)⟩
            · refine hC _ _ ⟨fA, rA, pA, mA, mf, mr, Fs, Rs, ra, fx0, rx0, oa, ob, oc, ds, rs, fx, rx, _, v7, .int ra, .int ra, rfl, S, sp, okd, hal, okr, lrs, B, .int ra, ?_⟩
              have h' : ¬ ns.getD 5 0 / 27 % 3 = 1 := fun q => h (by show decide (V.int (ns.getD 5 0 / 27 % 3) = V.int 1) = true; rw [q]; exact decide_eq_true rfl)
              show (decide (0 ≤ ra) && decide (ra ≤ 5)) = _
              rw [decide_eq_true B.lo, decide_eq_true B.hi, decide_eq_false h']
              rfl
        · rintro σ H' ⟨fA, rA, pA, mA, mf, mr, Fs, Rs, ra, fx0, rx0, oa, ob, ds, fx, rx, v6, v7, rfl, ap, S, pr, sp, okd, B⟩
          have okr : ∀ d ∈ Rs.map rulP, okD 6 d := fun d hd => by
            obtain ⟨R, hR, rfl⟩ := List.mem_map.mp hd
            exact (B.rok R hR).2.1
          have alr : (Rs.map rulP).all ruleB = true := List.all_eq_true.mpr fun d hd => by
            obtain ⟨R, hR, rfl⟩ := List.mem_map.mp hd
            exact (B.rok R hR).1
          have lx : rx.length = Rs.length := Paired.length pr
          refine ⟨_, rfl, a, ns, 8, rfl, S.sc, by decide, ?_⟩
          generalize ns.getD (8 : Int).toNat 0 = c
          have out : ∀ {H''} v7, Same H' H'' → Q11 K H a ns [some (.ref a), some (.ref fA), some (.ref rA), some (.int ra), some (.ref mA), some (.ref pA), some (.int c), v7, none, none, none] H'' := fun {H''} v7 e => ⟨fA, rA, pA, mA, mf, mr, Fs, Rs, ra, fx0, rx0, oa, ob, none, ds, Rs.map rulP, fx, rx, _, v7, rfl, S.same e, sp, okd, alr, okr, by rw [List.length_map], B, c, rfl⟩
          refine ⟨_, rfl, a, ns, 5, rfl, S.sc, by decide, _, _, rfl, rfl, ⟨by decide, by decide⟩, _, _, rfl, rfl, (by show (0 : Int) < 3; decide), rfl, _, rfl, ite2 (fun _ => ?_) (fun _ => iteFb rfl (hC _ _ (out _ (Same.refl _))))⟩
          refine ⟨_, rfl, by decide, fun z hz => ?_⟩
          have s1 := same_upd (o := HO.lst []) hz
          refine ⟨.list (Rs.map rulP), .list [], .lst (SqL.of (s1 _ _ S.r)) (Dats.same s1 _ _ (dss_dats S.dr)), .lst (SqL.of upd_same) .nil, Nat.le_trans (Nat.succ_le_succ (dep_all (dep_okD 6) _ okr)) (by decide), ?_⟩
          rw [eqv_nil']
          by_cases hnil : Rs.map rulP = []
          · rw [decide_eq_true hnil]
            exact ⟨_, rfl, iteFb rfl (hC _ _ (out _ s1))⟩
          rw [decide_eq_false hnil]
          refine ⟨_, rfl, iteTb rfl ?_⟩
          have gp : 0 < Rs.length := by
            cases Rs with
            | nil => exact absurd rfl hnil
            | cons _ _ => exact Nat.succ_pos _
          have S1 := S.same s1
          have pr1 : Paired (RuV K (L2.upd H' z (.lst []))) rx Rs := L2.Paired.mapP pr fun _ _ q => q.same s1
          generalize L2.upd H' z (.lst []) = H1 at *
          have n0 := Int.emod_nonneg c (show (rx.length : Int) ≠ 0 by omega)
          have n1 := Int.emod_lt_of_pos c (show (0 : Int) < (rx.length : Int) by omega)
          refine ⟨_, rfl, _, rfl, _, _, rfl, .inl ⟨_, SqL.of S1.r, rfl⟩, _, _, rfl, rfl, by omega, _, rfl, pA, _, 2, 2, rfl, rfl, S1.p, (by unfold ixN; rw [if_pos (by decide), if_pos (by show (2 : Int) < 3; decide)]; rfl), ?_⟩
          obtain ⟨n, hn⟩ := Int.eq_ofNat_of_zero_le n0
          rw [show ([oV oa, oV ob, oV none] : List V).set 2 ((fun i j => V.int (i % j)) c (rx.length : Int)) = [oV oa, oV ob, oV (some n)] by show [oV oa, oV ob, V.int (c % (rx.length : Int))] = _; rw [hn]; rfl]
          have nl : n < rx.length := by omega
          have S2 := S1.setP ap oa ob (some n)
          have pr2 : Paired (RuV K (L2.upd H1 pA (.lst [oV oa, oV ob, oV (some n)]))) rx Rs := rus_upd S1.p pr1 B.rok
          generalize L2.upd H1 pA (.lst [oV oa, oV ob, oV (some n)]) = H2 at *
          obtain ⟨R, hR, rv⟩ := paired_at pr2 (List.getElem?_eq_getElem nl)
          have at2 : atI [oV oa, oV ob, oV (some n)] 2 = some (V.int (n : Int)) := atI_nat (j := 2) rfl
          have atn : atI rx (n : Int) = some rx[n] := atI_nat (List.getElem?_eq_getElem nl)
          refine ⟨_, rfl, _, _, rfl, rfl, ⟨by decide, by decide⟩, _, rfl, _, rfl, _, _, _, _, rfl, rfl, SqL.of S2.p, at2, _, _, _, _, rfl, rfl, SqL.of S2.r, atn, _, _, R, rfl, rv, B.rok R (List.mem_of_getElem? hR), fun y d H3 s3 hds hf ho => ?_⟩
          have S3 := S2.same s3
          refine ⟨_, rfl, _, rfl, _, _, _, _, rfl, rfl, SqL.of S3.p, at2, rA, _, (n : Int), n, rfl, rfl, S3.r, (by unfold ixN; rw [if_pos (by omega), if_pos (by omega)]; simp), ?_⟩
          have S4 := S3.setR ap n (hds _ S2.ll)
          refine hC _ _ ⟨fA, rA, pA, mA, mf, mr, Fs, Rs, ra, fx0, rx0, oa, ob, some n, ds, (Rs.map rulP).set n d, fx, rx.set n y, _, _, rfl, S4, sp, okd, ?_, fun e he => ?_, by rw [List.length_set, List.length_map], B, c, rfl⟩
          · refine Bool.eq_false_iff.mpr fun q => ?_
            have := List.all_eq_true.mp q d (List.mem_of_getElem? (i := n) (by rw [List.getElem?_set_self (by rw [List.length_map]; omega)]))
            rw [hf] at this
            cases this
          · rcases List.mem_or_eq_of_mem_set he with he | rfl
            · exact okr e he
            · exact ho
      · rintro σ H' ⟨fA, rA, pA, mA, mf, mr, Fs, Rs, ra, fx0, rx0, ob, Gs, fx, rx, v6, v7, rfl, ap, S, pf, pr, sp, okG, B⟩
        have okd : ∀ d ∈ Gs.map facP, okD 6 d := fun d hd => by
          obtain ⟨G, hG, rfl⟩ := List.mem_map.mp hd
          exact fac_okD (okG G hG)
        have lx : fx.length = Gs.length := Paired.length pf
        have lG : Gs.length = Fs.length := by have := sp.len; rwa [List.length_map] at this
        have out : ∀ {H''} v6 v7, Same H' H'' → Q9 K H a ns [some (.ref a), some (.ref fA), some (.ref rA), some (.int ra), some (.ref mA), some (.ref pA), v6, v7, none, none, none] H'' := fun {H''} v6 v7 e => ⟨fA, rA, pA, mA, mf, mr, Fs, Rs, ra, fx0, rx0, none, ob, Gs.map facP, fx, rx, v6, v7, rfl, ap, S.same e, L2.Paired.mapP pr fun _ _ q => q.same e, sp, okd, B⟩
        refine ⟨_, rfl, a, ns, 7, rfl, S.sc, by decide, ?_⟩
        generalize ns.getD (7 : Int).toNat 0 = c
        refine ⟨_, rfl, a, ns, 5, rfl, S.sc, by decide, _, _, rfl, rfl, ⟨by decide, by decide⟩, _, _, rfl, rfl, (by show (0 : Int) < 3; decide), rfl, _, rfl, ite2 (fun _ => ?_) (fun _ => iteFb rfl (hC _ _ (out _ _ (Same.refl _))))⟩
        refine ⟨_, rfl, by decide, fun z hz => ?_⟩
        have s1 := same_upd (o := HO.lst []) hz
        refine ⟨.list (Gs.map facP), .list [], .lst (SqL.of (s1 _ _ S.f)) (Dats.same s1 _ _ (dss_dats S.df)), .lst (SqL.of upd_same) .nil, Nat.le_trans (Nat.succ_le_succ (dep_all (dep_okD 6) _ okd)) (by decide), ?_⟩
        rw [eqv_nil']
        by_cases hnil : Gs.map facP = []
        · rw [decide_eq_true hnil]
          exact ⟨_, rfl, iteFb rfl (hC _ _ (out _ _ s1))⟩
        rw [decide_eq_false hnil]
        refine ⟨_, rfl, iteTb rfl ?_⟩
        have gp : 0 < Gs.length := by
          cases Gs with
          | nil => exact absurd rfl hnil
          | cons _ _ => exact Nat.succ_pos _
        have S1 := S.same s1
        have pf1 : Paired (FaV K (L2.upd H' z (.lst []))) fx Gs := L2.Paired.mapP pf fun _ _ q => q.same s1
        have pr1 : Paired (RuV K (L2.upd H' z (.lst []))) rx Rs := L2.Paired.mapP pr fun _ _ q => q.same s1
        generalize L2.upd H' z (.lst []) = H1 at *
        have n0 := Int.emod_nonneg c (show (fx.length : Int) ≠ 0 by omega)
        have n1 := Int.emod_lt_of_pos c (show (0 : Int) < (fx.length : Int) by omega)
        refine ⟨_, rfl, _, rfl, _, _, rfl, .inl ⟨_, SqL.of S1.f, rfl⟩, _, _, rfl, rfl, by omega, _, rfl, pA, _, 0, 0, rfl, rfl, S1.p, (by unfold ixN; rw [if_pos (by decide), if_pos (by show (0 : Int) < 3; decide)]; rfl), ?_⟩
        obtain ⟨n, hn⟩ := Int.eq_ofNat_of_zero_le n0
        rw [show ([oV none, oV ob, oV none] : List V).set 0 ((fun i j => V.int (i % j)) c (fx.length : Int)) = [oV (some n), oV ob, oV none] by show [V.int (c % (fx.length : Int)), oV ob, oV none] = _; rw [hn]; rfl]
        have nl : n < fx.length := by omega
        have S2 := S1.setP ap (some n) ob none
        have pf2 : Paired (FaV K (L2.upd H1 pA (.lst [oV (some n), oV ob, oV none]))) fx Gs := L2.Paired.mapP pf1 fun _ _ q => q.upd S1.p
        have pr2 : Paired (RuV K (L2.upd H1 pA (.lst [oV (some n), oV ob, oV none]))) rx Rs := rus_upd S1.p pr1 B.rok
        generalize L2.upd H1 pA (.lst [oV (some n), oV ob, oV none]) = H2 at *
        obtain ⟨G, hG, fv⟩ := paired_at pf2 (List.getElem?_eq_getElem nl)
        have at0 : atI [oV (some n), oV ob, oV none] 0 = some (V.int (n : Int)) := atI_nat (j := 0) rfl
        have atn : atI fx (n : Int) = some fx[n] := atI_nat (List.getElem?_eq_getElem nl)
        refine ⟨_, rfl, _, _, rfl, rfl, ⟨by decide, by decide⟩, _, rfl, _, rfl, _, _, _, _, rfl, rfl, SqL.of S2.p, at0, _, _, _, _, rfl, rfl, SqL.of S2.f, atn, _, _, G, rfl, fv, okG G (List.mem_of_getElem? hG), fun y d H3 s3 hds hf ho => ?_⟩
        have S3 := S2.same s3
        refine ⟨_, rfl, _, rfl, _, _, _, _, rfl, rfl, SqL.of S3.p, at0, fA, _, (n : Int), n, rfl, rfl, S3.f, (by unfold ixN; rw [if_pos (by omega), if_pos (by omega)]; simp), ?_⟩
        have S4 := S3.setF ap n (hds _ S2.ll)
        refine hC _ _ ⟨fA, rA, pA, mA, mf, mr, Fs, Rs, ra, fx0, rx0, some n, ob, (Gs.map facP).set n d, fx.set n y, rx, _, _, rfl, ap, S4, rus_upd S3.f (L2.Paired.mapP pr2 fun _ _ q => q.same s3) B.rok, ⟨by rw [List.length_set]; exact sp.len, fun i ha hb => ?_, fun m e => ?_, fun m e hne => ?_⟩, fun e he => ?_, B⟩
        · rw [List.getElem?_set_ne (by have := ha n rfl; omega)]
          exact sp.at_ i (fun m e => by cases e) hb
        · cases e
          exact ⟨d, by rw [List.getElem?_set_self (by rw [List.length_map]; omega)], hf⟩
        · obtain ⟨F, G', j, h1, h2⟩ := sp.nb m e fun _ e => by cases e
          exact ⟨F, G', j, by rw [List.getElem?_set_ne (hne n rfl)]; exact h1, h2⟩
        · rcases List.mem_or_eq_of_mem_set he with he | rfl
          · exact okd e he
          · exact ho
    · refine ⟨_, rfl, a, ns, rfl, hA, fun fA fx Fs H1 s1 nfA hf pf lf nd gF => ?_⟩
      refine ⟨_, rfl, a, ns, rfl, s1.seq hA, fun rA rx Rs H2 s2 nrA hr1 pr lr gR => ?_⟩
      have hA2 := (s1.trans s2).seq hA
      have m0 := Int.emod_nonneg (ns.getD (4 : Int).toNat 0) (show (6 : Int) ≠ 0 by decide)
      have m1 := Int.emod_lt_of_pos (ns.getD (4 : Int).toNat 0) (show (0 : Int) < 6 by decide)
      refine ⟨_, rfl, a, ns, 4, rfl, hA2, by decide, _, _, rfl, rfl, (by show (0 : Int) < 6; decide), ?_⟩
      show gName 3 (V.int (ns.getD (4 : Int).toNat 0 % 6)) _ _ _
      generalize ns.getD (4 : Int).toNat 0 % 6 = ra at *
      have hf2 := s2 _ _ hf
      refine ⟨_, rfl, _, _, rfl, .inl (SqL.of hf2), fun mf hmf => ?_⟩
      have s3 := same_upd (o := HO.lst fx) hmf
      have cmf : L2.upd H2 mf (.lst fx) mf = some (.lst fx) := upd_same
      generalize L2.upd H2 mf (.lst fx) = H3 at *
      refine ⟨_, rfl, _, _, rfl, .inl (SqL.of (s3 _ _ hr1)), fun mr hmr => ?_⟩
      have s4 := same_upd (o := HO.lst rx) hmr
      have cmr : L2.upd H3 mr (.lst rx) mr = some (.lst rx) := upd_same
      generalize L2.upd H3 mr (.lst rx) = H4 at *
      refine ⟨_, rfl, by show 3 ≤ sizeLine; decide, fun mA hmA => ?_⟩
      have s5 := same_upd (o := HO.tup [V.ref mf, .ref mr, .int ra]) hmA
      have cmA : L2.upd H4 mA (.tup [V.ref mf, .ref mr, .int ra]) mA = some (.tup [V.ref mf, .ref mr, .int ra]) := upd_same
      generalize L2.upd H4 mA (.tup [V.ref mf, .ref mr, .int ra]) = H5 at *
      refine ⟨by show 3 ≤ sizeLine; decide, fun pA hpA => ?_⟩
      have s6 := same_upd (o := HO.lst [V.non, .non, .non]) hpA
      have cpA : L2.upd H5 pA (.lst [V.non, .non, .non]) pA = some (.lst [oV none, oV none, oV none]) := upd_same
      generalize L2.upd H5 pA (.lst [V.non, .non, .non]) = H6 at *
      have q25 := s3.trans (s4.trans s5)
      have q26 := q25.trans s6
      have hf6 := q26 _ _ hf2
      have hr6 := q26 _ _ hr1
      have hA6 := q26.seq hA2
      have ne_of : ∀ {Hx : Hp} {b c : Addr} {o : HO}, Hx b = none → Hx c = some o → c ≠ b := fun h1 h2 z => by rw [z, h1] at h2; cases h2
      have fr : fA ≠ rA := ne_of nrA hf
      have fp : fA ≠ pA := ne_of hpA (q25 _ _ hf2)
      have rp : rA ≠ pA := ne_of hpA (q25 _ _ hr1)
      have ap : Apart K H a fA rA pA mf mr ns := ⟨hA, nfA, s1.free nrA, (s1.trans (s2.trans q25)).free hpA, fr, fp, rp, fun z => by
          rcases z with z | z | z
          · exact ne_of hmf hf2 z.symm
          · exact ne_of hmf hr1 z.symm
          · exact ne_of hpA ((s4.trans s5) _ _ cmf) z, fun z => by
          rcases z with z | z | z
          · exact ne_of hmr (s3 _ _ hf2) z.symm
          · exact ne_of hmr (s3 _ _ hr1) z.symm
          · exact ne_of hpA (s5 _ _ cmr) z⟩
      have pf6 : Paired (FaV K H6) fx Fs := L2.Paired.mapP pf fun _ _ q => q.same (s2.trans q26)
      have pr6 : Paired (RuV K H6) rx Rs := L2.Paired.mapP pr fun _ _ q => q.same q26
      have ll : LL (LS fA rA pA) H6 := fun b hb => by
        rcases hb with rfl | rfl | rfl
        · exact ⟨_, hf6⟩
        · exact ⟨_, hr6⟩
        · exact ⟨_, cpA⟩
      have dF := facs_ds ll pf6 gF
      have dR := ruls_ds ll pr6 gR
      have S : Sit K a fA rA pA mA mf mr ns Fs Rs ra fx rx none none none (Fs.map facP) (Rs.map rulP) fx rx H6 := ⟨hA6, hf6, hr6, cpA, s6 _ _ cmA, (s4.trans (s5.trans s6)) _ _ cmf, (s5.trans s6) _ _ cmr, dF, dR, dF, dR⟩
      have B : Bse Fs Rs ra := ⟨nd, gF, lf, lr, gR, m0, by omega⟩
      have sp0 : Spo Fs none none (Fs.map facP) := ⟨by rw [List.length_map], fun i _ _ => rfl, (fun n e => by cases e), fun n e => by cases e⟩
      have out : ∀ v6 v7, Q7 K H a ns [some (.ref a), some (.ref fA), some (.ref rA), some (.int ra), some (.ref mA), some (.ref pA), v6, v7, none, none, none] H6 := fun v6 v7 => ⟨fA, rA, pA, mA, mf, mr, Fs, Rs, ra, fx, rx, none, Fs, fx, rx, v6, v7, rfl, ap, S, pf6, pr6, sp0, gF, B⟩
      have lx : fx.length = Fs.length := Paired.length pf6
      refine ⟨_, rfl, a, ns, 6, rfl, hA6, by decide, ?_⟩
      generalize ns.getD (6 : Int).toNat 0 = c
      refine ⟨_, rfl, a, ns, 5, rfl, hA6, by decide, _, _, rfl, rfl, (by show (0 : Int) < 3; decide), rfl, _, rfl, ite2 (fun _ => ?_) (fun _ => iteFb rfl (hC _ _ (out _ _)))⟩
      refine ⟨_, rfl, _, _, rfl, .inl ⟨_, SqL.of hf6, rfl⟩, _, _, rfl, rfl, _, rfl, ite2 (fun h1 => ?_) (fun _ => hC _ _ (out _ _))⟩
      have l2 : 2 ≤ fx.length := by have := of_decide_eq_true (show decide ((1 : Int) < (fx.length : Int)) = true from h1); omega
      have c0 := Int.emod_nonneg c (show ((fx.length : Int) - 1) ≠ 0 by omega)
      have c1 := Int.emod_lt_of_pos c (show (0 : Int) < (fx.length : Int) - 1 by omega)
      refine ⟨_, rfl, _, rfl, _, _, rfl, .inl ⟨_, SqL.of hf6, rfl⟩, _, _, rfl, rfl, _, _, rfl, rfl, by omega, _, _, rfl, rfl, ?_⟩
      show gName 7 (V.int (1 + c % ((fx.length : Int) - 1))) _ _ _
      obtain ⟨n, hn⟩ := Int.eq_ofNat_of_zero_le (show 0 ≤ 1 + c % ((fx.length : Int) - 1) by omega)
      rw [hn]
      have n1 : 1 ≤ n := by omega
      have nl : n < fx.length := by omega
      refine ⟨_, rfl, _, rfl, pA, _, 1, 1, rfl, rfl, cpA, (by unfold ixN; rw [if_pos (by decide), if_pos (by decide)]; rfl), ?_⟩
      have S7 := S.setP ap none (some n) none
      have e7 : ([V.non, .non, .non] : List V).set 1 (.int (n : Int)) = [oV none, oV (some n), oV none] := rfl
      rw [show ([oV none, oV none, oV none] : List V).set 1 (V.int (n : Int)) = [oV none, oV (some n), oV none] from rfl]
      have pf7 : Paired (FaV K (L2.upd H6 pA (.lst [oV none, oV (some n), oV none]))) fx Fs := L2.Paired.mapP pf6 fun _ _ q => q.upd cpA
      have pr7 : Paired (RuV K (L2.upd H6 pA (.lst [oV none, oV (some n), oV none]))) rx Rs := rus_upd cpA pr6 gR
      generalize L2.upd H6 pA (.lst [oV none, oV (some n), oV none]) = H7 at *
      have j0 := Int.emod_nonneg (c / 70) (show (n : Int) ≠ 0 by omega)
      have j1 := Int.emod_lt_of_pos (c / 70) (show (0 : Int) < (n : Int) by omega)
      obtain ⟨j, hj⟩ := Int.eq_ofNat_of_zero_le j0
      have jl : j < n := by omega
      have jf : j < Fs.length := by omega
      have nf : n < Fs.length := by omega
      obtain ⟨G, hG, gq, gp, gx, hgq, hgp⟩ := paired_at pf7 (List.getElem?_eq_getElem (show j < fx.length by omega))
      obtain ⟨F, hF, fq, fp', fxe, hfq, hfp⟩ := paired_at pf7 (List.getElem?_eq_getElem nl)
      have atj : atI fx (c / 70 % (n : Int)) = some (V.ref gq) := by rw [hj, ← gx]; exact atI_nat (List.getElem?_eq_getElem (by omega))
      have atn : atI fx (n : Int) = some (V.ref fq) := by rw [← fxe]; exact atI_nat (List.getElem?_eq_getElem nl)
      have okG := gF G (List.mem_of_getElem? hG)
      have okF := gF F (List.mem_of_getElem? hF)
      refine ⟨_, rfl, _, rfl, _, _, rfl, rfl, ⟨by decide, by decide⟩, _, rfl, _, _, rfl, rfl, (by show (0 : Int) < (n : Int); omega), _, _, _, _, rfl, rfl, SqL.of S7.f, atj, _, _, _, _, rfl, rfl, SqT.of hgq, atI_nat (j := 0) rfl, by show 1 ≤ sizeLine; decide, fun t1 ht1 => ?_⟩
      have r1 := same_upd (o := HO.tup [V.str G.1]) ht1
      have d1 : L2.upd H7 t1 (.tup [V.str G.1]) t1 = some (.tup [V.str G.1]) := upd_same
      generalize L2.upd H7 t1 (.tup [V.str G.1]) = H8 at *
      refine ⟨_, rfl, _, rfl, _, _, _, _, rfl, rfl, SqL.of (r1 _ _ S7.f), atn, _, rfl, _, _, rfl, SqT.of (r1 _ _ hfq), (by show ¬ (HT.sIx 3 0 (some 1) = 0 ∧ HT.sIx 3 3 none = 3); decide), fun t2 ht2 => ?_⟩
      have e2 : cutV [V.str F.1, .str F.2.1, .ref fp'] (some 1) none = [V.str F.2.1, .ref fp'] := rfl
      rw [e2]
      have r2 := same_upd (o := HO.tup [V.str F.2.1, .ref fp']) ht2
      have d2 : L2.upd H8 t2 (.tup [V.str F.2.1, .ref fp']) t2 = some (.tup [V.str F.2.1, .ref fp']) := upd_same
      generalize L2.upd H8 t2 (.tup [V.str F.2.1, .ref fp']) = H9 at *
      refine ⟨_, _, _, _, rfl, rfl, SqT.of (r2 _ _ d1), SqT.of d2, by simp, by show 3 ≤ sizeLine; decide, (fun e => by cases e), fun _ t3 ht3 => ?_⟩
      have r3 := same_upd (o := HO.tup ([V.str G.1] ++ [V.str F.2.1, .ref fp'])) ht3
      have d3 : L2.upd H9 t3 (.tup ([V.str G.1] ++ [V.str F.2.1, .ref fp'])) t3 = some (.tup [V.str G.1, .str F.2.1, .ref fp']) := upd_same
      generalize L2.upd H9 t3 (.tup ([V.str G.1] ++ [V.str F.2.1, .ref fp'])) = H10 at *
      have rr := r1.trans (r2.trans r3)
      have S10 := S7.same rr
      refine ⟨_, rfl, _, rfl, fA, _, (n : Int), n, rfl, rfl, S10.f, (by unfold ixN; rw [if_pos (by omega), if_pos (by omega)]; simp), ?_⟩
      have okX : FOk (G.1, F.2.1, F.2.2) := ⟨okG.1, okF.2.1, okF.2.2.1, okF.2.2.2⟩
      have fv : FaV K H10 (.ref t3) (G.1, F.2.1, F.2.2) := ⟨t3, fp', rfl, d3, rr.seqT hfp⟩
      have S11 := S10.setF ap n (ds_of S10.ll (noL_fac _) (fv.dat okX))
      refine hC _ _ ⟨fA, rA, pA, mA, mf, mr, Fs, Rs, ra, fx, rx, some n, Fs.set n (G.1, F.2.1, F.2.2), fx.set n (.ref t3), rx, _, _, rfl, ap, by rw [List.map_set]; exact S11, ?_, rus_upd S10.f (L2.Paired.mapP pr7 fun _ _ q => q.same rr) gR, ?_, fun X hX => ?_, B⟩
      · exact paired_set n (L2.Paired.mapP pf7 fun _ _ q => (q.same rr).upd S10.f) (fv.upd S10.f)
      · rw [List.map_set]
        refine ⟨by rw [List.length_set, List.length_map], fun i _ hb => ?_, (fun m e => by cases e), fun m e _ => ?_⟩
        · rw [List.getElem?_set_ne (by have := hb n rfl; omega)]
        · cases e
          exact ⟨(G.1, F.2.1, F.2.2), G, j, by rw [List.getElem?_set_self (by rw [List.length_map]; exact nf)], okX, jl, hG, rfl⟩
      · rcases List.mem_or_eq_of_mem_set hX with hX | rfl
        · exact gF X hX
        · exact okX
theorem txt_mk {K : PySem.W.Frag} {h : Heap} {mg : Str → Option Value} (X : K.In h) (G : h.Ns mainGlobals mg) {y0 : Tok} {y1 : Tok} {y2 : Tok} {y3 : Tok} {y4 : Tok} {y5 : Tok} {y6 : Tok} {y7 : Tok} {y8 y9 y10 : Tok} {y11 : Addr} {y12 : Option Addr} {y13 : Nat} {y14 : Array (Option Value)}
    (y15 : PySem.W.nsIn K mainGlobals "ValueError" = some none)
    (y16 : PySem.W.nsIn K mainGlobals "all" = some none)
    (y17 : PySem.W.nsIn K mainGlobals "bool" = some none)
    (y18 : PySem.W.nsIn K mainGlobals "int" = some none)
    (y19 : PySem.W.nsIn K mainGlobals "isinstance" = some none)
    (y20 : PySem.W.nsIn K mainGlobals "len" = some none)
    (y21 : PySem.W.nsIn K mainGlobals "list" = some none)
    (y22 : PySem.W.nsIn K mainGlobals "range" = some none)
    (y23 : PySem.W.nsIn K mainGlobals "str" = some none)
    (y24 : PySem.W.nsIn K mainGlobals "tuple" = some none)
    (y25 : PySem.W.nsIn K mainGlobals "SMALL_LETTERS" = some (some (.str "abcdefghijklmnopqrstuvwxyz" y0)))
    (y26 : PySem.W.nsIn K mainGlobals "CAPITAL_LETTERS" = some (some (.str "ABCDEFGHIJKLMNOPQRSTUVWXYZ" y1)))
    (y27 : PySem.W.nsIn K mainGlobals "FURTHER_SIGNS" = some (some (.str "abcdefghijklmnopqrstuvwxyz0123456789" y2)))
    (y28 : PySem.W.nsIn K mainGlobals "MOST_SIGNS" = some (some (.int 12 y3)))
    (y29 : PySem.W.nsIn K mainGlobals "MOST_VALUES" = some (some (.int 4 y4)))
    (y30 : PySem.W.nsIn K mainGlobals "MOST_ATOMS" = some (some (.int 3 y5)))
    (y31 : PySem.W.nsIn K mainGlobals "MOST_CHOICES" = some (some (.int 3 y6)))
    (y32 : PySem.W.nsIn K mainGlobals "MOST_ROUNDS" = some (some (.int 5 y7)))
    (y33 : PySem.W.nsIn K mainGlobals "SIGNS" = some (some (.ref y11)))
    (y34 : K.lookup y11 = some ⟨.type "tuple", y12, .seq #[.str "=" y8, .str "!=" y9, .str "<" y10] y13, y14⟩)
    (y35 : FiK K "is_whole" s_is_whole)
    (y36 : FiK K "is_text_begun_by" s_is_text_begun_by)
    (y37 : FiK K "is_word" s_is_word)
    (y38 : FiK K "is_var" s_is_var)
    (y39 : FiK K "is_value" s_is_value)
    (y40 : FiK K "is_row" s_is_row)
    (y41 : FiK K "is_tuple_of_up_to" s_is_tuple_of_up_to)
    (y42 : FiK K "is_tuple_of_just" s_is_tuple_of_just)
    (y43 : FiK K "is_fact" s_is_fact)
    (y44 : FiK K "is_term" s_is_term)
    (y45 : FiK K "are_terms" s_are_terms)
    (y46 : FiK K "is_atom" s_is_atom)
    (y47 : FiK K "are_atoms" s_are_atoms)
    (y48 : FiK K "is_choice" s_is_choice)
    (y49 : FiK K "are_choices" s_are_choices)
    (y50 : FiK K "variables_in" s_variables_in)
    (y51 : FiK K "variables_of_body" s_variables_of_body)
    (y52 : FiK K "are_known" s_are_known)
    (y53 : FiK K "is_rule" s_is_rule)
    (y54 : FiK K "vet_facts" s_vet_facts)
    (y55 : FiK K "vet" s_vet)
    (y56 : FiK K "_law_cell_at" s__law_cell_at)
    (y57 : FiK K "_law_names" s__law_names)
    (y58 : FiK K "_law_facts" s__law_facts)
    (y59 : FiK K "_law_rules" s__law_rules)
    (y60 : FiK K "_law_no_fact" s__law_no_fact)
    (y61 : FiK K "_law_no_rule" s__law_no_rule)
    (y62 : FiK K "_law_outcome" s__law_outcome)
    (y63 : FiK K "_law_due" s__law_due)
    (y64 : FiK K "law" s_law)
    (y65 : XiK K "NoFact")
    (y66 : XiK K "NoName")
    (y67 : XiK K "NoRounds")
    (y68 : XiK K "NoRule")
    (y69 : XiK K "NoText")
    (y70 : XiK K "NoWorth")
    (y71 : XiK K "TooMuch")
    (y72 : XiK K "WhyError")
    (y73 : PiK K "NoFact" "NoFact" true)
    (y74 : PiK K "NoFact" "NoName" false)
    (y75 : PiK K "NoFact" "NoRounds" false)
    (y76 : PiK K "NoFact" "NoRule" false)
    (y77 : PiK K "NoFact" "NoText" false)
    (y78 : PiK K "NoFact" "NoWorth" false)
    (y79 : PiK K "NoFact" "TooMuch" false)
    (y80 : PiK K "NoFact" "WhyError" true)
    (y81 : PiK K "NoName" "NoFact" false)
    (y82 : PiK K "NoName" "NoName" true)
    (y83 : PiK K "NoName" "NoRounds" false)
    (y84 : PiK K "NoName" "NoRule" false)
    (y85 : PiK K "NoName" "NoText" false)
    (y86 : PiK K "NoName" "NoWorth" false)
    (y87 : PiK K "NoName" "TooMuch" false)
    (y88 : PiK K "NoName" "WhyError" true)
    (y89 : PiK K "NoRule" "NoFact" false)
    (y90 : PiK K "NoRule" "NoName" false)
    (y91 : PiK K "NoRule" "NoRounds" false)
    (y92 : PiK K "NoRule" "NoRule" true)
    (y93 : PiK K "NoRule" "NoText" false)
    (y94 : PiK K "NoRule" "NoWorth" false)
    (y95 : PiK K "NoRule" "TooMuch" false)
    (y96 : PiK K "NoRule" "WhyError" true)
    (y97 : PiK K "NoRounds" "NoFact" false)
    (y98 : PiK K "NoRounds" "NoName" false)
    (y99 : PiK K "NoRounds" "NoRounds" true)
    (y100 : PiK K "NoRounds" "NoRule" false)
    (y101 : PiK K "NoRounds" "NoText" false)
    (y102 : PiK K "NoRounds" "NoWorth" false)
    (y103 : PiK K "NoRounds" "TooMuch" false)
    (y104 : PiK K "NoRounds" "WhyError" true) : Txt K mg :=
  ⟨PySem.W.mg_none_of X G y15,
    PySem.W.mg_none_of X G y16,
    PySem.W.mg_none_of X G y17,
    PySem.W.mg_none_of X G y18,
    PySem.W.mg_none_of X G y19,
    PySem.W.mg_none_of X G y20,
    PySem.W.mg_none_of X G y21,
    PySem.W.mg_none_of X G y22,
    PySem.W.mg_none_of X G y23,
    PySem.W.mg_none_of X G y24,
    ⟨_, PySem.W.mg_of X G y25⟩,
    ⟨_, PySem.W.mg_of X G y26⟩,
    ⟨_, PySem.W.mg_of X G y27⟩,
    ⟨_, PySem.W.mg_of X G y28⟩,
    ⟨_, PySem.W.mg_of X G y29⟩,
    ⟨_, PySem.W.mg_of X G y30⟩,
    ⟨_, PySem.W.mg_of X G y31⟩,
    ⟨_, PySem.W.mg_of X G y32⟩,
    (by rw [cA_of (PySem.W.mg_of X G y33)]; exact PySem.W.mg_of X G y33),
    (by rw [cA_of (PySem.W.mg_of X G y33)]; exact tupC_mk y34 (by show 3 ≤ sizeLine; decide) (.cons ⟨_, rfl⟩ (.cons ⟨_, rfl⟩ (.cons ⟨_, rfl⟩ .nil)))),
    y35.top X G (fun _ _ _ _ _ _ => us1 fun _ => rfl),
    y36.top X G (fun _ _ _ _ _ _ => us2 fun _ _ => rfl),
    y37.top X G (fun _ _ _ _ _ _ => us1 fun _ => rfl),
    y38.top X G (fun _ _ _ _ _ _ => us1 fun _ => rfl),
    y39.top X G (fun _ _ _ _ _ _ => us1 fun _ => rfl),
    y40.top X G (fun _ _ _ _ _ _ => us1 fun _ => rfl),
    y41.top X G (fun _ _ _ _ _ _ => us2 fun _ _ => rfl),
    y42.top X G (fun _ _ _ _ _ _ => us2 fun _ _ => rfl),
    y43.top X G (fun _ _ _ _ _ _ => us1 fun _ => rfl),
    y44.top X G (fun _ _ _ _ _ _ => us1 fun _ => rfl),
    y45.top X G (fun _ _ _ _ _ _ => us1 fun _ => rfl),
    y46.top X G (fun _ _ _ _ _ _ => us1 fun _ => rfl),
    y47.top X G (fun _ _ _ _ _ _ => us1 fun _ => rfl),
    y48.top X G (fun _ _ _ _ _ _ => us1 fun _ => rfl),
    y49.top X G (fun _ _ _ _ _ _ => us1 fun _ => rfl),
    y50.top X G (fun _ _ _ _ _ _ => us1 fun _ => rfl),
    y51.top X G (fun _ _ _ _ _ _ => us1 fun _ => rfl),
    y52.top X G (fun _ _ _ _ _ _ => us2 fun _ _ => rfl),
    y53.top X G (fun _ _ _ _ _ _ => us1 fun _ => rfl),
    y54.top X G (fun _ _ _ _ _ _ => us1 fun _ => rfl),
    y55.top X G (fun _ _ _ _ _ _ => us3 fun _ _ _ => rfl),
    y56.top X G (fun _ _ _ _ _ _ => us2 fun _ _ => rfl),
    y57.top X G (fun _ _ _ _ _ _ => us3 fun _ _ _ => rfl),
    y58.top X G (fun _ _ _ _ _ _ => us1 fun _ => rfl),
    y59.top X G (fun _ _ _ _ _ _ => us1 fun _ => rfl),
    y60.top X G (fun _ _ _ _ _ _ => us2 fun _ _ => rfl),
    y61.top X G (fun _ _ _ _ _ _ => us2 fun _ _ => rfl),
    y62.top X G (fun _ _ _ _ _ _ => us3 fun _ _ _ => rfl),
    y63.top X G (fun _ _ _ _ _ _ => us2 fun _ _ => rfl),
    y64.top X G (fun _ _ _ _ _ _ => us1 fun _ => rfl),
    y65.g X G,
    y65.at' X G,
    y66.g X G,
    y66.at' X G,
    y67.g X G,
    y67.at' X G,
    y68.g X G,
    y68.at' X G,
    y69.g X G,
    y69.at' X G,
    y70.g X G,
    y70.at' X G,
    y71.g X G,
    y71.at' X G,
    y72.g X G,
    y72.at' X G,
    y73.at' X G,
    y74.at' X G,
    y75.at' X G,
    y76.at' X G,
    y77.at' X G,
    y78.at' X G,
    y79.at' X G,
    y80.at' X G,
    y81.at' X G,
    y82.at' X G,
    y83.at' X G,
    y84.at' X G,
    y85.at' X G,
    y86.at' X G,
    y87.at' X G,
    y88.at' X G,
    y89.at' X G,
    y90.at' X G,
    y91.at' X G,
    y92.at' X G,
    y93.at' X G,
    y94.at' X G,
    y95.at' X G,
    y96.at' X G,
    y97.at' X G,
    y98.at' X G,
    y99.at' X G,
    y100.at' X G,
    y101.at' X G,
    y102.at' X G,
    y103.at' X G,
    y104.at' X G⟩
end Wy
open PySem PySem.W PyProof.Rows
namespace PySem.W.Fast
end PySem.W.Fast
namespace PySem.W.Fast
def tw2463730829382448040:=0
def tw830819846013315421:=0
def tw2084061073046632334:=0
def tw9248208973304026944:=0
def tw9662133720112960448:=0
def tw14127583068283310653:=0
def tw11297981704048937959:=0
def tw5202375254671719027:=0
def tw15552729154696266210:=0
def tw2371310936723671543:=0
def tw5804011964921048241:=0
def tw14703762201511265349:=0
def tw3139072388427278:=0
def tw10770488596069891690:=0
def tw12533217303360005982:=0
def tw17681238042394710057:=0
def tw213372683321839615:=0
def tw3576566958319866888:=0
def tw17890192992685454721:=0
def tw3340568889606190918:=0
def tw14274858342980945176:=0
def tw18056776666526671622:=0
def tw4505866457581544820:=0
def tw279879114098938990:=0
def tw7317660614617027686:=0
def tw4696073535063064442:=0
def tw11747009018479778511:=0
def tw16946161070656502473:=0
def tw16154039012193011889:=0
def tw109252564898908279:=0
def tw362631297751311710:=0
def tw879172403986893615:=0
def tw982342268001924209:=0
def tw5974333988238066571:=0
def tw6905267279292983423:=0
def tw1048308368479214643:=0
def tw10628356831487042511:=0
def tw8697824890391019219:=0
def tw3937754445366066331:=0
def tw16611110283917059999:=0
def tw5400027273715666684:=0
def tw1512214710219596389:=0
def tw17919512648823048505:=0
def tw4275284190603120384:=0
def tw11040144136441124854:=0
def tw14697822792403631104:=0
def tw2173202154919413488:=0
def tw14806533006636606021:=0
def tw8558021829126748293:=0
def tw6191435194027136697:=0
def tw15494222654686040189:=0
def tw10693670846043068196:=0
def tw4592569109937507407:=0
def tw15303342276475006627:=0
def tw17815829310687824512:=0
def tw13570659345095538060:=0
def tw13698611283499780807:=0
def tw7228255568490891567:=0
def tw1979295180748295146:=0
def tw10628564648385843044:=0
def tw13777169980747061024:=0
def tw2748741235153333820:=0
def tw2580031547019837906:=0
def tw11455605168001762884:=0
def tw9145163557747437972:=0
def tw4374831651212362942:=0
def tw8802209586545306913:=0
def tw8572809234596366016:=0
def tw3951360368358931484:=0
def tw6798767568725035529:=0
def tw8131801225448313397:=0
def tw17710936008237333473:=0
def tw2551119471090323201:=0
def tw36788418762206559:=0
def tw14177551113875661763:=0
def tw6832104445720407729:=0
def tw4959723283119301038:=0
def tw9945516483373313591:=0
def tw5846227121735206783:=0
def tw14897369392452252794:=0
def tw13717049446227813532:=0
def tw10688453719270121357:=0
def tw12602474804196962317:=0
def tw10281628162070414067:=0
def tw7839780454175959398:=0
def tw16435039164108784077:=0
def tw10478207193849544055:=0
def tw14103290524751260574:=0
def tw3594984911559898567:=0
def tw16033739214573166702:=0
def tw12450835150422878458:=0
def tw18108266737227982458:=0
def tw7371219262267950515:=0
def tw17527631174412970728:=0
def tw5712664159672914794:=0
def tw2523602219564290119:=0
def tw17508470924988373408:=0
def tw16791730691055300462:=0
def tw582541791421356990:=0
def tw6971899784636358757:=0
def tw1462404451152908112:=0
def tw17485368926780242999:=0
def tw5982759994061257568:=0
def tw12001723952773049792:=0
def tw7287486348853076148:=0
def tw11521468959983531335:=0
def tw1330598553948923977:=0
def tw6305401859038163464:=0
def tw1873556397621673023:=0
def tw7814004269048197942:=0
def tw17588962711299948412:=0
def tw16374824492702536675:=0
def tw17085090661629543262:=0
def tw776173233281797756:=0
def tw8891190013904378252:=0
def tw10377203780452161798:=0
def tw12503386018940950793:=0
def tw3761051004186982958:=0
def tw11065887461692242769:=0
def tw16039817130549429883:=0
def tw8877982736834055747:=0
def tw7976988108997229289:=0
def tw12498463925578713134:=0
def tw7076942471779240516:=0
def tw2736582451769129461:=0
def tw7791170391017285611:=0
def tw3114628043768198755:=0
def tw13437623332881099008:=0
end PySem.W.Fast
set_option maxRecDepth 100000 in
set_option maxHeartbeats 0 in
theorem PySem.Challenge.cw_whyrows_k47_vetted_holds : PySem.Challenge.rw_whyrows_k47_vetted.Holds := by
  w_on; o_law; k_head; (case hw => w_witness2)
  k_fill
  refine L2.walk_ofK (l := PySem.Challenge.rw_whyrows_k47_vetted) (n := 63) (k := 11) (x := "_law_script") (CX := L2.CX0) (sp := Wy.sp_law) rfl (by decide) rfl ⟨rfl, by decide, by decide⟩ (fun w h Y => PySem.W.kIn_of Y) ?F ?S ?C
  case F =>
    intro w mg fa h KX G hmg
    have T : Wy.Txt (L2.KOf KX) mg := by
      dsimp only [L2.KOf]
      refine' Wy.txt_mk KX G ?_ ?_ ?_ ?_ ?_ ?_ ?_ ?_ ?_ ?_ ?_ ?_ ?_ ?_ ?_ ?_ ?_ ?_ ?_ ?_ ?_ ?_ ?_ ?_ ?_ ?_ ?_ ?_ ?_ ?_ ?_ ?_ ?_ ?_ ?_ ?_ ?_ ?_ ?_ ?_ ?_ ?_ ?_ ?_ ?_ ?_ ?_ ?_ ?_ ?_ ?_ ?_ ?_ ?_ ?_ ?_ ?_ ?_ ?_ ?_ ?_ ?_ ?_ ?_ ?_ ?_ ?_ ?_ ?_ ?_ ?_ ?_ ?_ ?_ ?_ ?_ ?_ ?_ ?_ ?_ ?_ ?_ ?_ ?_ ?_ ?_ ?_ ?_ ?_ ?_
      all_goals first | (refine' L2.fiK ?_ ?_ ?_ ?_; all_goals first | k_is | skip) | (refine' L2.miK ?_ ?_ ?_ ?_ ?_ ?_; all_goals first | k_is | skip) | (refine' L2.ciK ?_ ?_ ?_ ?_ ?_ ?_ ?_; all_goals first | k_is | skip) | (refine' L2.aiK ?_ ?_; all_goals first | k_is | skip) | (refine' L2.xiK ?_ ?_ ?_ ?_ ?_ ?_ ?_ ?_ ?_ ?_; all_goals first | k_is | k_exc | skip) | (refine' L2.piK ?_ ?_ ?_; all_goals first | k_is | skip) | k_is | skip
    exact Wy.ok_law T hmg
  case S => exact fun K H a ns hl hO hS => ⟨a, ns, rfl, hS, hl, fun _ => rfl⟩
  case C => exact fun _ _ _ _ z => z
