import PyProof.Rows.All
import Wide.All
import OpenK.AllK
import Wide.FinOn
import Lean
import PyProof.EqAt
import PyProof.EqKinds
import PyProof.TupleCall
import PyProof.P3Eq
import PyProof.P3In
import PyProof.NeData
import PyProof.Rows.SortShell
import PyProof.SumWalkG
import PyProof.Rows.SeqMore3
import PyProof.FitsBits
import PyProof.MinMaxWalk
import PyProof.WalkInts
import PyProof.Rows.CallKwBuiltin
import KE.KMinKey
import PyProof.AttrMissHeap
import KE.KDictOf
import KE.KIsAll
import PyProof.Rows.StrJoin2
import PyProof.ZipIter
import PyProof.Draws
import PyProof.Rows.ZipGen
import PyProof.Rows.StrFit
import PyProof.AutoSeq1
import KE.KSortKey
import KE.KSortTup
import PySem.Challenge.RW_whyrows_k41_what_is_a_rule
set_option Elab.async false
set_option linter.all false
set_option maxRecDepth 100000
set_option maxHeartbeats 4000000
namespace Tim
open PySem PyProof.Rows
def kx (rk : Keyed → Int) (xs : Array Keyed) (i : Nat) : Int := match xs[i]? with
  | some p => rk p
  | none => 0
def Up (rk : Keyed → Int) (xs : Array Keyed) (lo hi : Nat) : Prop := ∀ i j, lo ≤ i → i ≤ j → j < hi → kx rk xs i ≤ kx rk xs j
theorem kx_of {rk : Keyed → Int} {xs : Array Keyed} {i : Nat} {p : Keyed} (h : xs[i]? = some p) : kx rk xs i = rk p := by unfold kx; rw [h]
theorem kx_same {rk : Keyed → Int} {xs ys : Array Keyed} {i j : Nat} (h : xs[i]? = ys[j]?) : kx rk xs i = kx rk ys j := by unfold kx; rw [h]
structure Mv (lo hi : Nat) (st st' : SortSt) : Prop where
  perm : (arrOf st').Perm (arrOf st)
  out : ∀ k, k < lo ∨ hi ≤ k → (arrOf st')[k]? = (arrOf st)[k]?
  kind : kindOf st' = kindOf st
  pend : pendingOf st' = pendingOf st
  failed : failedOf st' = failedOf st
theorem Mv.refl (lo hi : Nat) (st : SortSt) : Mv lo hi st st := ⟨Array.Perm.refl _, fun _ _ => rfl, rfl, rfl, rfl⟩
theorem Mv.trans {lo hi : Nat} {a b c : SortSt} (h : Mv lo hi a b) (k : Mv lo hi b c) : Mv lo hi a c :=
  ⟨k.perm.trans h.perm, fun i hi => (k.out i hi).trans (h.out i hi), k.kind.trans h.kind, k.pend.trans h.pend, k.failed.trans h.failed⟩
theorem Mv.size {lo hi : Nat} {a b : SortSt} (h : Mv lo hi a b) : (arrOf b).size = (arrOf a).size := h.perm.size_eq
structure Sane (kd : SortKind) (S : Keyed → Prop) (n : Nat) (st : SortSt) : Prop where
  size : (arrOf st).size = n
  all : ∀ p ∈ (arrOf st).toList, S p
  kind : kindOf st = kd
  failed : failedOf st = none
theorem Mv.sane {lo hi : Nat} {a b : SortSt} {kd : SortKind} {S : Keyed → Prop} {n : Nat} (h : Mv lo hi a b) (k : Sane kd S n a) : Sane kd S n b :=
  ⟨h.size.trans k.size, fun p hp => k.all p ((Array.perm_iff_toList_perm.mp h.perm).mem_iff.mp hp), h.kind.trans k.kind, h.failed.trans k.failed⟩
theorem Sane.at {kd : SortKind} {S : Keyed → Prop} {n : Nat} {st : SortSt} (rk : Keyed → Int) (k : Sane kd S n st) {i : Nat} (hi : i < n) : ∃ p, (arrOf st)[i]? = some p ∧ S p ∧ kx rk (arrOf st) i = rk p := by
  have hi' : i < (arrOf st).size := by rw [k.size]; exact hi
  have e : (arrOf st)[i]? = some (arrOf st)[i] := getElem?_pos _ i hi'
  exact ⟨_, e, k.all _ (by simp), kx_of e⟩
section
variable {M : Model} {A : Around} {E : Value → Shared → Prop} {s : Shared} {kd : SortKind} {S : Keyed → Prop} {rk : Keyed → Int} {n : Nat}
end
end Tim
namespace Tim
section
variable {α : Type} {rk : α → Int} {as bs out : List α} {ia ib : Nat}
def Asc (rk : α → Int) (l : List α) : Prop := l.Pairwise fun p q => rk p ≤ rk q
structure Jn (rk : α → Int) (as bs out : List α) (ia ib : Nat) : Prop where
  perm : out.Perm (as.take ia ++ bs.take ib)
  asc : Asc rk out
  la : ∀ p ∈ out, ∀ q ∈ as.drop ia, rk p ≤ rk q
  lb : ∀ p ∈ out, ∀ q ∈ bs.drop ib, rk p ≤ rk q
theorem Jn.start : Jn rk as bs [] 0 0 := ⟨by simp, List.Pairwise.nil, (fun _ z => nomatch z), (fun _ z => nomatch z)⟩
theorem asc_drop (h : Asc rk as) (i : Nat) : Asc rk (as.drop i) := List.Pairwise.sublist (List.drop_sublist i as) h
theorem Jn.done (h : Jn rk as bs out ia ib) (ha : Asc rk as) (hb : Asc rk bs) (hx : ∀ p ∈ as.drop ia, ∀ q ∈ bs.drop ib, rk p ≤ rk q) :
    (out ++ as.drop ia ++ bs.drop ib).Perm (as ++ bs) ∧ Asc rk (out ++ as.drop ia ++ bs.drop ib) := by
  constructor
  · refine ((h.perm.append_right _).append_right _).trans ?_
    have e1 : as = as.take ia ++ as.drop ia := (List.take_append_drop ..).symm
    have e2 : bs = bs.take ib ++ bs.drop ib := (List.take_append_drop ..).symm
    refine List.Perm.trans ?_ (List.Perm.of_eq (show (as.take ia ++ as.drop ia) ++ (bs.take ib ++ bs.drop ib) = as ++ bs by rw [← e1, ← e2]))
    simp only [List.append_assoc]
    refine List.Perm.append_left _ ?_
    rw [← List.append_assoc, ← List.append_assoc]
    exact List.Perm.append_right _ List.perm_append_comm
  · refine List.pairwise_append.mpr ⟨List.pairwise_append.mpr ⟨h.asc, asc_drop ha _, h.la⟩, asc_drop hb _, fun p hp q hq => ?_⟩
    rcases List.mem_append.mp hp with hp | hp
    · exact h.lb p hp q hq
    · exact hx p hp q hq
end
end Tim
namespace Tim
open PySem PyProof.Rows
section
variable {M : Model} {A : Around} {E : Value → Shared → Prop} {s : Shared} {kd : SortKind} {S : Keyed → Prop} {rk : Keyed → Int}
end
end Tim
namespace Tim
open PySem PyProof.Rows
abbrev setGal (st : SortSt) (g : Nat) : SortSt := SortSt.mk' (kindOf st) (arrOf st) (pendingOf st) g (failedOf st)
structure Gl (st st' : SortSt) : Prop where
  arr : arrOf st' = arrOf st
  kind : kindOf st' = kindOf st
  pend : pendingOf st' = pendingOf st
  failed : failedOf st' = failedOf st
theorem Gl.refl (st : SortSt) : Gl st st := ⟨rfl, rfl, rfl, rfl⟩
theorem Gl.set {st st' : SortSt} (h : Gl st st') (g : Nat) : Gl st (setGal st' g) := ⟨h.arr, h.kind, h.pend, h.failed⟩
section
variable {rk : Keyed → Int} {a b o : Array Keyed} {x y : Nat}
end
structure Mg (S : Keyed → Prop) (rk : Keyed → Int) (a b : Array Keyed) : Prop where
  sa : ∀ p ∈ a.toList, S p
  sb : ∀ p ∈ b.toList, S p
  aa : Asc rk a.toList
  ab : Asc rk b.toList
  na : 0 < a.size
  nb : 0 < b.size
  top : ∃ z, a[a.size - 1]? = some z ∧ ∀ p ∈ b.toList, rk p < rk z
  bot : ∃ z, b[0]? = some z ∧ ∀ p ∈ a.toList, rk z < rk p
section
variable {S : Keyed → Prop} {rk : Keyed → Int} {a b o : Array Keyed} {x y : Nat}
end
section
variable {M : Model} {A : Around} {E : Value → Shared → Prop} {s : Shared} {kd : SortKind} {S : Keyed → Prop} {rk : Keyed → Int} {a b : Array Keyed} {st : SortSt}
structure Go (rk : Keyed → Int) (a b o : Array Keyed) (x y : Nat) : Prop where
  jn : Jn rk a.toList b.toList o.toList x y
  hx : x + 1 < a.size
  hy : y < b.size
end
end Tim
namespace Tim
open PySem PyProof.Rows
section
variable {rk : Keyed → Int} {a b o : Array Keyed} {x y : Nat}
def JH (rk : Keyed → Int) (a b o : Array Keyed) (x y : Nat) : Prop := Jn (fun p => - rk p) a.toList.reverse b.toList.reverse o.toList (a.size - x) (b.size - y) ∧ x ≤ a.size ∧ y ≤ b.size
end
section
variable {S : Keyed → Prop} {rk : Keyed → Int} {a b o : Array Keyed} {x y : Nat}
end
section
variable {M : Model} {A : Around} {E : Value → Shared → Prop} {s : Shared} {kd : SortKind} {S : Keyed → Prop} {rk : Keyed → Int} {a b : Array Keyed} {st : SortSt}
structure GoH (rk : Keyed → Int) (a b o : Array Keyed) (x y : Nat) : Prop where
  jn : JH rk a b o x y
  hx : 1 ≤ x
  hy : 2 ≤ y
end
end Tim
namespace Tim
open PySem PyProof.Rows
def Runs (rk : Keyed → Int) (xs : Array Keyed) : Nat → List (Nat × Nat × Nat) → Nat → Prop
  | u, [], v => u = v
  | u, r :: l, v => r.1 = u ∧ 1 ≤ r.2.1 ∧ Up rk xs u (u + r.2.1) ∧ Runs rk xs (u + r.2.1) l v
section
variable {rk : Keyed → Int} {xs ys : Array Keyed}
theorem Runs.split : ∀ {l1 l2 : List (Nat × Nat × Nat)} {u v : Nat}, Runs rk xs u (l1 ++ l2) v ↔ ∃ w, Runs rk xs u l1 w ∧ Runs rk xs w l2 v
  | [], l2, u, v => ⟨fun h => ⟨u, rfl, h⟩, fun ⟨w, e, h⟩ => by cases e; exact h⟩
  | r :: l1, l2, u, v => by
    constructor
    · rintro ⟨a, b, c, d⟩
      obtain ⟨w, h1, h2⟩ := Runs.split.mp d
      exact ⟨w, ⟨a, b, c, h1⟩, h2⟩
    · rintro ⟨w, ⟨a, b, c, d⟩, h2⟩
      exact ⟨a, b, c, Runs.split.mpr ⟨w, d, h2⟩⟩
theorem Runs.le : ∀ {l : List (Nat × Nat × Nat)} {u v : Nat}, Runs rk xs u l v → u + l.length ≤ v
  | [], u, v, h => by cases h; simp
  | r :: l, u, v, ⟨_, b, _, d⟩ => by
    have := Runs.le d
    rw [List.length_cons]
    omega
theorem Up.same {lo hi : Nat} (h : Up rk xs lo hi) (e : ∀ k, lo ≤ k → k < hi → ys[k]? = xs[k]?) : Up rk ys lo hi := fun i j a b c => by
  rw [kx_same (e i a (by omega)), kx_same (e j (by omega) c)]
  exact h i j a b c
theorem Runs.same : ∀ {l : List (Nat × Nat × Nat)} {u v : Nat}, Runs rk xs u l v → (∀ k, u ≤ k → k < v → ys[k]? = xs[k]?) → Runs rk ys u l v
  | [], u, v, h, _ => h
  | r :: l, u, v, ⟨a, b, c, d⟩, e => by
    have := Runs.le d
    exact ⟨a, b, c.same fun k h1 h2 => e k h1 (by omega), d.same fun k h1 h2 => e k (by omega) h2⟩
end
section
variable {M : Model} {A : Around} {E : Value → Shared → Prop} {s : Shared} {kd : SortKind} {S : Keyed → Prop} {rk : Keyed → Int} {n : Nat}
structure Merged (rk : Keyed → Int) (lo hi : Nat) (p : Array (Nat × Nat × Nat)) (st st' : SortSt) : Prop where
  perm : (arrOf st').Perm (arrOf st)
  out : ∀ k, k < lo ∨ hi ≤ k → (arrOf st')[k]? = (arrOf st)[k]?
  kind : kindOf st' = kindOf st
  failed : failedOf st' = failedOf st
  pend : pendingOf st' = p
  up : Up rk (arrOf st') lo hi
end
end Tim
namespace Tim
open PySem PyProof.Rows
section
variable {M : Model} {A : Around} {E : Value → Shared → Prop} {s : Shared} {kd : SortKind} {S : Keyed → Prop} {rk : Keyed → Int} {n : Nat}
structure Sr (rk : Keyed → Int) (kd : SortKind) (S : Keyed → Prop) (n : Nat) (st : SortSt) (lo : Nat) (st' : SortSt) : Prop where
  perm : (arrOf st').Perm (arrOf st)
  sane : Sane kd S n st'
  runs : Runs rk (arrOf st') 0 (pendingOf st').toList lo
end
end Tim
namespace Tim
open PySem PyProof.Rows
section
variable {α : Type}
end
structure Sorted (rk : Value → Int) (vs out : List Value) : Prop where
  perm : out.Perm vs
  asc : out.Pairwise fun x y => rk x ≤ rk y
section
variable {prog : Program} {w : World} {A : Around} {E : Value → Shared → Prop} {s : Shared}
end
end Tim
namespace Tim
structure STO {α : Type} (lt : α → α → Bool) : Prop where
  irr : ∀ a, lt a a = false
  tr : ∀ a b c, lt a b = true → lt b c = true → lt a c = true
  tri : ∀ a b, lt a b = false → lt b a = false → a = b
section
variable {α β : Type}
theorem STO.map {lt : α → α → Bool} (h : STO lt) (f : β → α) (inj : ∀ a b, f a = f b → a = b) : STO fun a b => lt (f a) (f b) :=
  ⟨fun a => h.irr _, fun a b c => h.tr _ _ _, fun a b x y => inj a b (h.tri _ _ x y)⟩
end
end Tim
namespace L2
open PySem PySem.Spec PyProof.Rows
abbrev Key := Sum Int Str
def keyIs : Key → Value → Bool
  | .inl k, v => Value.isInt k v
  | .inr x, v => Value.isStrOf x v
def keyH (w : World) : Key → Int
  | .inl k => hashInt k
  | .inr x => hashStr w x
theorem keyIs_shape : ∀ {k : Key} {v : Value}, keyIs k v = true → (∃ i t, k = Sum.inl i ∧ v = Value.int i t) ∨ (∃ x t, k = Sum.inr x ∧ v = Value.str x t)
  | .inl i, v, h => by
    obtain ⟨t, e⟩ := Value.isInt_shape (k := i) (v := v) h
    exact .inl ⟨i, t, rfl, e⟩
  | .inr x, v, h => by
    obtain ⟨t, e⟩ := Value.isStrOf_shape (x := x) (v := v) h
    exact .inr ⟨x, t, rfl, e⟩
theorem key_ll (a b : Int) : decide ((Sum.inl a : Key) = Sum.inl b) = (a == b) := by
  by_cases e : a = b
  · subst e; simp
  · have h : ¬ (Sum.inl a : Key) = Sum.inl b := fun q => e (Sum.inl.inj q)
    rw [decide_eq_false h]
    exact (beq_eq_false_iff_ne.mpr e).symm
theorem key_rr (a b : Str) : decide ((Sum.inr a : Key) = Sum.inr b) = decide (a = b) := by
  by_cases e : a = b
  · subst e; simp
  · have h : ¬ (Sum.inr a : Key) = Sum.inr b := fun q => e (Sum.inr.inj q)
    rw [decide_eq_false h, decide_eq_false e]
theorem key_lr (a : Int) (b : Str) : decide ((Sum.inl a : Key) = Sum.inr b) = false := decide_eq_false (fun q => nomatch q)
theorem key_rl (a : Str) (b : Int) : decide ((Sum.inr a : Key) = Sum.inl b) = false := decide_eq_false (fun q => nomatch q)
def mixKind (prog : Program) (w : World) : PySem.KeyKind prog w Key where
  is := keyIs
  hash := keyH w
  inj := fun v a b ha hb => by
    rcases keyIs_shape ha with ⟨i, t, rfl, rfl⟩ | ⟨x, t, rfl, rfl⟩
    · rcases keyIs_shape hb with ⟨j, u, rfl, e⟩ | ⟨y, u, rfl, e⟩
      · injection e with e1 _; rw [e1]
      · exact nomatch e
    · rcases keyIs_shape hb with ⟨j, u, rfl, e⟩ | ⟨y, u, rfl, e⟩
      · exact nomatch e
      · injection e with e1 _; rw [e1]
  byValue := fun k v h => by
    rcases keyIs_shape h with ⟨i, t, rfl, rfl⟩ | ⟨x, t, rfl, rfl⟩ <;> rfl
  pyHash := fun hv h => by
    rcases keyIs_shape hv with ⟨i, t, rfl, rfl⟩ | ⟨x, t, rfl, rfl⟩
    · exact wpAny_pyHash_int h
    · exact wpAny_pyHash_str h
  eqBool := fun hu hv h => by
    rcases keyIs_shape hu with ⟨i, t, rfl, rfl⟩ | ⟨x, t, rfl, rfl⟩
    · rcases keyIs_shape hv with ⟨j, u, rfl, rfl⟩ | ⟨y, u, rfl, rfl⟩
      · rw [key_ll] at h; exact wpAny_eqBool_int h
      · rw [key_lr] at h; exact SeqAt.EqAt.int_str i t y u _ _ _ _ h
    · rcases keyIs_shape hv with ⟨j, u, rfl, rfl⟩ | ⟨y, u, rfl, rfl⟩
      · rw [key_rl] at h; exact SeqAt.EqAt.str_int x t j u _ _ _ _ h
      · rw [key_rr] at h; exact wpAny_eqBool_str h
  «strs» := fun k x t v h => by
    rcases keyIs_shape h with ⟨i, u, rfl, e⟩ | ⟨y, u, rfl, e⟩
    · exact nomatch e
    · injection e with e1 _
      subst e1
      cases v <;> rfl
end L2
namespace L2
open PySem PySem.Spec PyProof.Rows
inductive V where
  | non | bl (b : Bool) | int (i : Int) | str (x : Str) | byt (b : Array UInt8) | flt (b : UInt64) | ref (a : Addr) | ty (n : String)
  deriving DecidableEq
def RelV : V → Value → Prop
  | .non, u => u = Value.none
  | .bl b, u => u = Value.bool b
  | .int i, u => ∃ t, u = Value.int i t
  | .str x, u => ∃ t, u = Value.str x t
  | .byt b, u => ∃ t, u = Value.bytes b t
  | .flt b, u => ∃ t, u = Value.float b t
  | .ref a, u => u = Value.ref a
  | .ty n, u => u = Value.type n
abbrev Vals : List V → List Value → Prop := Paired RelV
theorem Vals.length {xs : List V} {us : List Value} (r : Vals xs us) : xs.length = us.length := Paired.length r
theorem Vals.get : ∀ {xs : List V} {us : List Value} {i : Nat} {x : V}, Vals xs us → xs[i]? = some x → ∃ u, us[i]? = some u ∧ RelV x u
  | _, _, _, _, .nil, e => by simp at e
  | _, _, 0, _, .cons r _, e => by simp at e; subst e; exact ⟨_, rfl, r⟩
  | _, _, i + 1, x, .cons _ t, e => by
    obtain ⟨u, h1, h2⟩ := Vals.get (i := i) (x := x) t (by simpa using e)
    exact ⟨u, by simpa using h1, h2⟩
theorem Vals.set {x : V} {u : Value} (r : RelV x u) : ∀ {xs : List V} {us : List Value} (i : Nat), Vals xs us → Vals (xs.set i x) (us.set i u)
  | _, _, _, .nil => .nil
  | _, _, 0, .cons _ t => .cons r t
  | _, _, i + 1, .cons q t => .cons q (Vals.set r i t)
theorem Vals.append : ∀ {xs ys : List V} {us ws : List Value}, Vals xs us → Vals ys ws → Vals (xs ++ ys) (us ++ ws)
  | _, _, _, _, .nil, s => s
  | _, _, _, _, .cons r t, s => .cons r (Vals.append t s)
theorem Vals.take : ∀ {xs : List V} {us : List Value} (n : Nat), Vals xs us → Vals (xs.take n) (us.take n)
  | _, _, 0, _ => .nil
  | _, _, _ + 1, .nil => .nil
  | _, _, n + 1, .cons r t => .cons r (Vals.take n t)
theorem Vals.drop : ∀ {xs : List V} {us : List Value} (n : Nat), Vals xs us → Vals (xs.drop n) (us.drop n)
  | _, _, 0, r => r
  | _, _, _ + 1, .nil => .nil
  | _, _, n + 1, .cons _ t => Vals.drop n t
def RelO : Option V → Option Value → Prop
  | some v, some u => RelV v u
  | none, none => True
  | _, _ => False
def KV {κ : Type} : List (κ × V) → List (κ × Value) → Prop := Paired fun (p : κ × V) (q : κ × Value) => p.1 = q.1 ∧ RelV p.2 q.2
def kV : Key → V
  | .inl i => .int i
  | .inr x => .str x
inductive HO where
  /-- a list -/
  | lst (xs : List V)
  /-- a tuple (never changes) -/
  | tup (xs : List V)
  /-- a dict whose keys are ints and texts; one whose keys are tuples of ints and texts (the empty one is both) -/
  | dK (kvs : List (Key × V)) | dT (kvs : List (List Key × V))
  /-- a set of ints: its members, its size -/
  | set (S : Int → Bool) (n : Nat)
  /-- an instance of the class at C, its dict at dx, its attributes -/
  | ins (C dx : Addr) (fs : List (Str × V))
  /-- the dict of the instance at x -/
  | own (x : Addr)
  /-- the dict of an exception -/
  | xd (fs : List (Str × V))
  /-- a bound method, f of x -/
  | met (f x : Addr)
  /-- a range object lo, lo + 1, .. below hi -/
  | rng (lo hi : Int)
  /-- a thing that is known to the object (the script; a dict while a loop walks it): read, never written while it is so -/
  | frz (o : Obj) (u : HO)
  /-- a code object's table -/
  | tbl (ps : Array Value)
  /-- any other thing, by what is true of its one object (a def of one's own: SetO a S n := HO.ext fun h => ..) -/
  | ext (φ : Heap → Prop)
abbrev Hp := Addr → Option HO
def upd (H : Hp) (a : Addr) (o : HO) : Hp := fun b => if b = a then some o else H b
theorem upd_same {H : Hp} {a : Addr} {o : HO} : upd H a o a = some o := by unfold upd; rw [if_pos rfl]
theorem upd_ne {H : Hp} {a b : Addr} {o : HO} (h : b ≠ a) : upd H a o b = H b := by unfold upd; rw [if_neg h]
theorem upd_upd {H : Hp} {a : Addr} {o u : HO} : upd (upd H a o) a u = upd H a u := by
  funext b; unfold upd; split <;> rfl
theorem ne_of_none {H : Hp} {a b : Addr} {o : HO} (h : H a = some o) (h' : H b = none) : a ≠ b := by
  intro e; subst e; rw [h] at h'; cases h'
section
variable (P : Program) (w : World)
def ObjOk (H : Hp) (h : Heap) (a : Addr) : HO → Prop
  | .lst xs => xs.length ≤ sizeLine ∧ ∃ (its : List Value) (n : Nat), Vals xs its ∧ h.get? a = some { cls := .type "list", data := .seq its.toArray n }
  | .tup xs => xs.length ≤ sizeLine ∧ ∃ its : List Value, Vals xs its ∧ IsTup h a its.toArray
  | .dK kvs => kvs.length ≤ sizeLine ∧ (a == sysModules) = false ∧ ∃ vs, KV kvs vs ∧ h.DictOf (mixKind P w) a vs
  | .dT kvs => kvs.length ≤ sizeLine ∧ (a == sysModules) = false ∧ ∃ xs : List (List Key × Addr × Value),
      Paired (fun (p : List Key × V) (q : List Key × Addr × Value) => p.1 = q.1 ∧ H q.2.1 = some (.tup (p.1.map kV)) ∧ RelV p.2 q.2.2) kvs xs ∧
      ∃ o es ep, h.get? a = some o ∧ o.ExactDict ∧ o.data = .dict es ep ∧ es.toList = xs.map (entryOfKey (tupleKind (mixKind P w))) ∧ (xs.map (·.1)).Nodup
  | .set S n => h.SetOf (intKind P w) a S n
  | .ins C dx fs => H dx = some (.own a) ∧ fs.length ≤ 1000 ∧ dx ≠ a ∧ h.get? a = some (PySem.W.instObj C dx) ∧
      ∃ mA, h.Ns1 dx mA ∧ (∀ f, RelO (fs.lookup f) (mA f)) ∧ PySem.Within mA (fs.map (·.1))
  | .own _ => ∃ o, h.get? a = some o
  | .xd fs => ∃ mA, h.Ns1 a mA ∧ ∀ f, RelO (fs.lookup f) (mA f)
  | .rng lo hi => ∃ t u v, h.get? a = some { cls := .type "range", data := .fields #[.int lo t, .int hi u, .int 1 v] }
  | .frz o u => h.get? a = some o ∧ ObjOk H h a u
  | .tbl ps => h.get? a = some { cls := .none, data := .fields ps }
  | .met f x => h.get? a = some (PySem.W.methodObj (.ref f) (.ref x))
  | .ext φ => φ h ∧ (∃ o, h.get? a = some o) ∧ ∀ h1 h2 : Heap, φ h1 → (∀ o, h1.get? a = some o → h2.get? a = some o) → φ h2
def HOk (H : Hp) (h : Heap) : Prop := ∀ a o, H a = some o → ObjOk P w H h a o
end
section
variable {P : Program} {w : World} {H H' : Hp} {h h' : Heap} {a : Addr} {o : HO}
theorem ObjOk.lt (x : ObjOk P w H h a o) : a < h.objs.size := by
  cases o with
  | lst xs => obtain ⟨_, _, _, _, e⟩ := x; exact Heap.lt_size e
  | tup xs => obtain ⟨_, _, _, p⟩ := x; exact p.lt
  | dK kvs => obtain ⟨_, _, _, _, o, _, _, e, _⟩ := x; exact Heap.lt_size e
  | dT kvs => obtain ⟨_, _, _, _, o, _, _, e, _⟩ := x; exact Heap.lt_size e
  | set S n => obtain ⟨o, _, _, _, e, _⟩ := x; exact Heap.lt_size e
  | ins C dx fs => obtain ⟨_, _, _, e, _⟩ := x; exact Heap.lt_size e
  | own y => obtain ⟨_, e⟩ := x; exact Heap.lt_size e
  | xd fs => obtain ⟨_, ⟨_, _, _, e, _⟩, _⟩ := x; exact Heap.lt_size e
  | rng lo hi => obtain ⟨_, _, _, e⟩ := x; exact Heap.lt_size e
  | frz ob u => obtain ⟨e, _⟩ := x; exact Heap.lt_size e
  | tbl ps => exact Heap.lt_size (show h.get? a = some _ from x)
  | met f y => exact Heap.lt_size (show h.get? a = some _ from x)
  | ext φ => obtain ⟨_, ⟨_, e⟩, _⟩ := x; exact Heap.lt_size e
theorem Paired.mapP {α β : Type} {F G : α → β → Prop} : ∀ {l₁ : List α} {l₂ : List β}, Paired F l₁ l₂ → (∀ a b, F a b → G a b) → Paired G l₁ l₂
  | _, _, .nil, _ => .nil
  | _, _, .cons r t, f => .cons (f _ _ r) (Paired.mapP t f)
theorem ObjOk.stay (x : ObjOk P w H h a o) (k : ∀ b u, (b = a ∨ H b = some (.own a)) → h.get? b = some u → h'.get? b = some u)
    (ho : ∀ b, H b = some (.own a) → H' b = some (.own a)) (ht : ∀ b xs, H b = some (.tup xs) → H' b = some (.tup xs)) : ObjOk P w H' h' a o := by
  induction o with
  | lst xs => obtain ⟨z, its, n, r, e⟩ := x; exact ⟨z, its, n, r, k _ _ (.inl rfl) e⟩
  | tup xs => obtain ⟨z, its, r, ob, e, c⟩ := x; exact ⟨z, its, r, ob, k _ _ (.inl rfl) e, c⟩
  | dK kvs => obtain ⟨z, y, vs, r, ob, es, ep, e, c⟩ := x; exact ⟨z, y, vs, r, ob, es, ep, k _ _ (.inl rfl) e, c⟩
  | dT kvs =>
    obtain ⟨z, y, xs, r, ob, es, ep, e, c⟩ := x
    exact ⟨z, y, xs, Paired.mapP r fun p q z => ⟨z.1, ht _ _ z.2.1, z.2.2⟩, ob, es, ep, k _ _ (.inl rfl) e, c⟩
  | set S n => obtain ⟨ob, es, ep, t, e, c⟩ := x; exact ⟨ob, es, ep, t, k _ _ (.inl rfl) e, c⟩
  | ins C dx fs =>
    obtain ⟨d, z, ne, e, mA, ⟨od, es, ep, e2, c⟩, r⟩ := x
    exact ⟨ho _ d, z, ne, k _ _ (.inl rfl) e, mA, ⟨od, es, ep, k _ _ (.inr d) e2, c⟩, r⟩
  | own y => obtain ⟨ob, e⟩ := x; exact ⟨ob, k _ _ (.inl rfl) e⟩
  | xd fs => obtain ⟨mA, ⟨od, es, ep, e, c⟩, r⟩ := x; exact ⟨mA, ⟨od, es, ep, k _ _ (.inl rfl) e, c⟩, r⟩
  | rng lo hi => obtain ⟨t, u, v, e⟩ := x; exact ⟨t, u, v, k _ _ (.inl rfl) e⟩
  | frz ob u ih => obtain ⟨e, q⟩ := x; exact ⟨k _ _ (.inl rfl) e, ih q⟩
  | tbl ps =>
    have e : h.get? a = some { cls := .none, data := .fields ps } := x
    show h'.get? a = some { cls := .none, data := .fields ps }
    exact k a _ (.inl rfl) e
  | met f y =>
    have e : h.get? a = some (PySem.W.methodObj (.ref f) (.ref y)) := x
    show h'.get? a = some (PySem.W.methodObj (.ref f) (.ref y))
    exact k a _ (.inl rfl) e
  | ext φ => obtain ⟨p, ⟨o, e⟩, st⟩ := x; exact ⟨st _ _ p fun o q => k _ _ (.inl rfl) q, ⟨o, k _ _ (.inl rfl) e⟩, st⟩
theorem HOk.lt (x : HOk P w H h) (e : H a = some o) : a < h.objs.size := (x a o e).lt
theorem HOk.fresh (x : HOk P w H h) (e : h.objs.size ≤ a) : H a = none := by
  cases q : H a with
  | none => rfl
  | some u => exact absurd (Nat.lt_of_lt_of_le (x.lt q) e) (Nat.lt_irrefl _)
theorem HOk.kept (x : HOk P w H h) (k : ∀ b u, h.get? b = some u → h'.get? b = some u) : HOk P w H h' := fun a o e =>
  (x a o e).stay (fun b u _ q => k b u q) (fun _ q => q) fun _ _ q => q
theorem HOk.laid (x : HOk P w H h) (k : ∀ b u, h.get? b = some u → h'.get? b = some u) (hp : h.objs.size ≤ a) (new : ObjOk P w (upd H a o) h' a o) : HOk P w (upd H a o) h' := fun b u e => by
  have hn := x.fresh hp
  by_cases hb : b = a
  · subst hb; rw [upd_same] at e; cases e; exact new
  · rw [upd_ne hb] at e
    exact (x b u e).stay (fun c v _ q => k c v q) (fun c q => by rw [upd_ne (ne_of_none q hn)]; exact q) fun c xs q => by rw [upd_ne (ne_of_none q hn)]; exact q
end
def Rd (H : Hp) (a : Addr) (u : HO) : Prop := H a = some u ∨ ∃ o, H a = some (.frz o u)
theorem Rd.of {H : Hp} {a : Addr} {u : HO} (h : H a = some u) : Rd H a u := .inl h
theorem Rd.ok {P : Program} {w : World} {H : Hp} {h : Heap} {a : Addr} {u : HO} (r : Rd H a u) (x : HOk P w H h) : ObjOk P w H h a u := by
  rcases r with r | ⟨o, r⟩
  · exact x a u r
  · obtain ⟨_, q⟩ := x a _ r
    exact q
def Mut : Option HO → Prop
  | some (.lst _) => True
  | some (.dK _) => True
  | some (.dT _) => True
  | some (.set _ _) => True
  | some (.ins _ _ _) => True
  | some (.ext _) => True
  | _ => False
section
variable {P : Program} {w : World} {H : Hp} {h h' : Heap} {x e : Addr} {o' : HO}
theorem HOk.write (ok : HOk P w H h) (mu : Mut (H x)) (he : e = x ∨ H e = some (.own x)) (k : ∀ b u, b ≠ e → h.get? b = some u → h'.get? b = some u) (heo : ∃ u, h'.get? e = some u)
    (new : ObjOk P w (upd H x o') h' x o') : HOk P w (upd H x o') h' := fun b u q => by
  have nown : ∀ c y, H c = some (.own y) → c ≠ x := fun c y r z => by subst z; rw [r] at mu; exact mu
  have ntup : ∀ c xs, H c = some (.tup xs) → c ≠ x := fun c xs r z => by subst z; rw [r] at mu; exact mu
  by_cases hb : b = x
  · subst hb; rw [upd_same] at q; cases q; exact new
  · rw [upd_ne hb] at q
    by_cases hbe : b = e
    · have q' : H b = some (.own x) := by
        rcases he with z | z
        · exact absurd (hbe.trans z) hb
        · rw [hbe]; exact z
      rw [q] at q'; cases q'
      obtain ⟨v, hv⟩ := heo
      exact ⟨v, by rw [hbe]; exact hv⟩
    · refine (ok b u q).stay (fun c v hc r => k c v ?_ r) (fun c r => by rw [upd_ne (nown c b r)]; exact r) fun c xs r => by rw [upd_ne (ntup c xs r)]; exact r
      rcases hc with rfl | hc
      · exact hbe
      · rintro rfl
        rcases he with z | z
        · exact nown c b hc z
        · rw [hc] at z; cases z; exact hb rfl
end
structure Un (fs ex : List Addr) (H H' : Hp) (h h' : Heap) : Prop where
  keep : ∀ b o, h.get? b = some o → H b = none → b ∉ fs → b ∉ ex → h'.get? b = some o
  slot : ∀ b o, h.get? b = some o → H b = none → b ∈ fs → b ∉ ex → ∃ sl, h'.get? b = some { o with slots := sl }
  free : ∀ b o, h.get? b = some o → H b = none → b ∉ ex → H' b = none
  there : ∀ b o, h.get? b = some o → b ∉ ex → ∃ o', h'.get? b = some o'
  tups : ∀ b xs, H b = some (.tup xs) → H' b = some (.tup xs)
  frzs : ∀ b o u, H b = some (.frz o u) → H' b = some (.frz o u)
  tbls : ∀ b ps, H b = some (.tbl ps) → ∃ more, H' b = some (.tbl (ps ++ more))
section
variable {fs fs' ex ex' : List Addr} {H H1 H2 : Hp} {h h1 h2 h' : Heap} {a x e : Addr} {o : HO}
theorem Un.any (u : Un fs ex H H1 h h1) {b : Addr} {ob : Obj} (q : h.get? b = some ob) (n : H b = none) (hx : b ∉ ex) : ∃ sl, h1.get? b = some { ob with slots := sl } := by
  by_cases hb : b ∈ fs
  · exact u.slot b ob q n hb hx
  · exact ⟨ob.slots, u.keep b ob q n hb hx⟩
theorem Un.trans (a : Un fs ex H H1 h h1) (b : Un fs ex H1 H2 h1 h2) : Un fs ex H H2 h h2 where
  keep := fun c ob q n hc hx => b.keep c ob (a.keep c ob q n hc hx) (a.free c ob q n hx) hc hx
  slot := fun c ob q n hc hx => by
    obtain ⟨sl, e1⟩ := a.slot c ob q n hc hx
    obtain ⟨sl', e2⟩ := b.slot c _ e1 (a.free c ob q n hx) hc hx
    exact ⟨sl', e2⟩
  free := fun c ob q n hx => by
    obtain ⟨o', e1⟩ := a.there c ob q hx
    exact b.free c o' e1 (a.free c ob q n hx) hx
  there := fun c ob q hx => by
    obtain ⟨o', e1⟩ := a.there c ob q hx
    exact b.there c o' e1 hx
  tups := fun c xs q => b.tups c xs (a.tups c xs q)
  frzs := fun c ob xs q => b.frzs c ob xs (a.frzs c ob xs q)
  tbls := fun c ps q => by
    obtain ⟨m1, e1⟩ := a.tbls c ps q
    obtain ⟨m2, e2⟩ := b.tbls c _ e1
    exact ⟨m1 ++ m2, by rw [e2, Array.append_assoc]⟩
theorem Un.kept (k : ∀ b u, h.get? b = some u → h'.get? b = some u) : Un fs ex H H h h' :=
  ⟨fun b ob q _ _ _ => k b ob q, fun b ob q _ _ _ => ⟨ob.slots, k b ob q⟩, fun _ _ _ n _ => n, fun b ob q _ => ⟨ob, k b ob q⟩, fun _ _ q => q, fun _ _ _ q => q, fun _ ps q => ⟨#[], by rw [q]; simp⟩⟩
theorem Un.refl : Un fs ex H H h h := Un.kept fun _ _ q => q
theorem Un.laid (k : ∀ b u, h.get? b = some u → h'.get? b = some u) (hp : h.objs.size ≤ a) (hn : H a = none) : Un fs ex H (upd H a o) h h' where
  keep := fun b u q _ _ _ => k b u q
  slot := fun b u q _ _ _ => ⟨u.slots, k b u q⟩
  free := fun b u q n _ => by rw [upd_ne (Nat.ne_of_lt (Nat.lt_of_lt_of_le (Heap.lt_size q) hp))]; exact n
  there := fun b u q _ => ⟨u, k b u q⟩
  tups := fun b xs q => by rw [upd_ne (ne_of_none q hn)]; exact q
  frzs := fun b u xs q => by rw [upd_ne (ne_of_none q hn)]; exact q
  tbls := fun b ps q => ⟨#[], by rw [upd_ne (ne_of_none q hn), q]; simp⟩
theorem Un.write (mu : Mut (H x)) (he : e = x ∨ H e = some (.own x)) (k : ∀ b u, b ≠ e → h.get? b = some u → h'.get? b = some u) (heo : ∃ u, h'.get? e = some u) : Un fs ex H (upd H x o) h h' := by
  have hx : ∀ b, H b = none → b ≠ x := fun b n z => by subst z; rw [n] at mu; exact mu
  have hb : ∀ b, H b = none → b ≠ e := fun b n z => by
    subst z
    rcases he with r | r
    · exact hx b n r
    · rw [n] at r; cases r
  have hm : ∀ b u, H b = some u → ¬ Mut (some u) → b ≠ x := fun b u q nm z => by subst z; rw [q] at mu; exact nm mu
  refine ⟨fun b u q n _ _ => k b u (hb b n) q, fun b u q n _ _ => ⟨u.slots, k b u (hb b n) q⟩, fun b u q n _ => by rw [upd_ne (hx b n)]; exact n, fun b u q _ => ?_,
    fun b xs q => by rw [upd_ne (hm b _ q fun z => z)]; exact q, fun b u xs q => by rw [upd_ne (hm b _ q fun z => z)]; exact q, fun b ps q => ⟨#[], by rw [upd_ne (hm b _ q fun z => z), q]; simp⟩⟩
  by_cases hbe : b = e
  · subst hbe; exact heo
  · exact ⟨u, k b u hbe q⟩
theorem Un.mono (u : Un fs ex H H1 h h1) (hs : ∀ b ∈ fs, b ∈ fs') (hx : ∀ b ∈ ex, b ∈ ex') : Un fs' ex' H H1 h h1 :=
  ⟨fun b ob q n hb he => u.keep b ob q n (fun z => hb (hs b z)) fun z => he (hx b z), fun _ _ q n _ he => u.any q n fun z => he (hx _ z), fun b ob q n he => u.free b ob q n fun z => he (hx b z), fun b ob q he => u.there b ob q fun z => he (hx b z), u.tups, u.frzs, u.tbls⟩
end
def trk (h : Heap) (H : Hp) : List Addr := (List.range h.objs.size).filter fun a => (H a).isSome
def hidT (h : Heap) (H : Hp) : Heap := PySem.W.hideAll h (trk h H)
theorem hidT_size (h : Heap) (H : Hp) : (hidT h H).objs.size = h.objs.size := PySem.W.hideAll_size _ _
theorem hidT_get {h : Heap} {H : Hp} {b : Addr} {o : Obj} (e : h.get? b = some o) (n : H b = none) : (hidT h H).get? b = some o :=
  PySem.W.hideAll_get _ e fun hm => by
    have q : (H b).isSome = true := (List.mem_filter.mp hm).2
    rw [n] at q; simp at q
theorem of_hidT {h : Heap} {H : Hp} {b : Addr} {o : Obj} (e : (hidT h H).get? b = some o) : h.get? b = some o ∧ H b = none := by
  have e' : h.get? b = some o := PySem.W.of_hideAll (trk h H) e
  refine ⟨e', ?_⟩
  cases q : H b with
  | none => rfl
  | some x =>
    have hm : b ∈ trk h H := List.mem_filter.mpr ⟨List.mem_range.mpr (Heap.lt_size e'), by simp [q]⟩
    have z : (hidT h H).get? b = none := PySem.W.hideAll_none (trk h H) hm
    rw [z] at e; cases e
def allNews (g h : Heap) (L : Addr) : List (Addr × Obj) := (List.range h.objs.size).filterMap fun a => if a = L ∨ (g.get? a).isSome = true then none else (h.get? a).map fun o => (a, o)
def rest (g h : Heap) (L d : Addr) : List (Addr × Obj) := (allNews g h L).filter fun p => decide (p.1 ≠ d)
end L2
namespace L2
open PySem PySem.Spec PyProof.Rows
structure Mod (K : PySem.W.Frag) (mg : Str → Option Value) (base : Heap) : Prop where
  kin : K.In base
  glob : base.Ns mainGlobals mg
  blt : ∃ mb, base.Ns builtinsNs mb ∧ ∀ x : Str, x ≠ "__name__" → mb x = bootBuiltins x
  nolimit : base.NoLimit
structure Cx where
  prog : Program
  w : World
  K : PySem.W.Frag
  mg : Str → Option Value
  base : Heap
  A : Around
  N : List Str
  s₀ : Shared
  H₀ : Hp
  env : Env
  outer : List Env
  stack : List Env
  ex : List Addr
  fn : Str → Bool
  calm : Bool
  pn : List (Addr × Obj)
  xe : Value → Shared → Prop
def frs (l : List Env) : List Addr := l.filterMap (·.frame)
abbrev Cx.fs (X : Cx) : List Addr := frs X.outer
def Vis (sc : Scope) (x : Str) : Prop := sc.names.lookup x = some .local ∨ sc.names.lookup x = some .cell ∨ sc.names.lookup x = some .free
def Loc (sc : Scope) (x : Str) : Prop := sc.names.lookup x = some .local ∨ sc.names.lookup x = some .cell
def Look (env : Env) (h : Heap) (m : Str → Option Value) (x : Str) (u : Value) : Prop :=
  (env.kindOf x = some .local ∧ m x = some u) ∨ ((env.kindOf x = some .cell ∨ env.kindOf x = some .free) ∧ ∃ c, env.cells.lookup x = some c ∧ h.IsCell c (some u))
structure Cx.Ok (X : Cx) : Prop where
  mod : Mod X.K X.mg X.base
  kind : X.env.scope.kind = .function
  glob : X.env.globals = mainGlobals
  blt : X.env.builtins = builtinsNs
  above : X.s₀.heap.objs.size ≤ X.env.locals
  inj : ∀ x y c, X.env.cells.lookup x = some c → X.env.cells.lookup y = some c → x = y
  has : ∀ x, (X.env.kindOf x = some .cell ∨ X.env.kindOf x = some .free) → ∃ c, X.env.cells.lookup x = some c
  cab : ∀ x c, X.fn x = true → X.env.cells.lookup x = some c → X.s₀.heap.objs.size ≤ c
  hd : X.calm = true → X.A.handled = none
  frames : X.A.frames = some X.stack
  stk : X.stack = X.outer ∨ (X.stack = X.env :: X.outer ∧ X.env.frame = some X.env.locals)
  exf : ∀ b ∈ X.ex, b ≠ X.env.locals ∧ ∀ x c, X.env.cells.lookup x = some c → c ≠ b
  bs : ∀ b o, X.base.get? b = some o → X.s₀.heap.get? b = some o ∧ X.H₀ b = none
  bsz : X.base.objs.size ≤ X.s₀.heap.objs.size
  noex : ∀ b o, X.base.get? b = some o → b ∉ X.ex
  exfs : ∀ b ∈ X.ex, b ∉ X.fs
  funs : X.s₀.heap.FunFrames X.base X.outer
  frf : ∀ b ∈ X.fs, X.H₀ b = none
structure Inv (X : Cx) (pins : List (Addr × Obj)) (σ : List (Option V)) (H : Hp) (s : Shared) : Prop where
  ok : X.Ok
  os : s.os = X.s₀.os
  bare : AllBare s.gens
  base : Un X.fs X.ex X.H₀ H X.s₀.heap s.heap
  loc : ∃ m, s.heap.Ns X.env.locals m ∧ ∀ (i : Nat) (x : Str) (v : V), X.N[i]? = some x → σ[i]? = some (some v) → Vis X.env.scope x → ∃ u, RelV v u ∧ Look X.env s.heap m x u
  cell : ∀ x c, X.env.cells.lookup x = some c → ∃ v, s.heap.IsCell c v
  free : H X.env.locals = none
  freeC : ∀ x c, X.env.cells.lookup x = some c → H c = none
  pin : ∀ p ∈ X.pn ++ pins, s.heap.get? p.1 = some p.2 ∧ H p.1 = none ∧ p.1 ≠ X.env.locals ∧ p.1 ∉ X.fs ∧ ∀ v, p.2.data ≠ .cell v
  hok : HOk X.prog X.w H s.heap
  len : σ.length = X.N.length
section
variable {X : Cx} {pins : List (Addr × Obj)} {σ : List (Option V)} {H H' : Hp} {s : Shared} {h' : Heap}
theorem Cx.Ok.nofr (ok : X.Ok) {b : Addr} {o : Obj} (e : X.base.get? b = some o) : b ∉ X.fs := fun hb => by
  have := (ok.funs.mem hb).1
  rw [e] at this; cases this
theorem Inv.bs (I : Inv X pins σ H s) : ∀ b o, X.base.get? b = some o → s.heap.get? b = some o ∧ H b = none := fun b o e =>
  ⟨I.base.keep b o (I.ok.bs b o e).1 (I.ok.bs b o e).2 (I.ok.nofr e) (I.ok.noex b o e), I.base.free b o (I.ok.bs b o e).1 (I.ok.bs b o e).2 (I.ok.noex b o e)⟩
theorem Inv.bk (I : Inv X pins σ H s) : ∀ b o, X.base.get? b = some o → s.heap.get? b = some o := fun b o e => (I.bs b o e).1
theorem Inv.mod (I : Inv X pins σ H s) : Mod X.K X.mg X.base := I.ok.mod
theorem Inv.kIn (I : Inv X pins σ H s) : X.K.In s.heap := I.ok.mod.kin.keeps I.bk
theorem Inv.nolimit (I : Inv X pins σ H s) : s.heap.NoLimit := I.ok.mod.nolimit.keeps I.bk
theorem Inv.fr (I : Inv X pins σ H s) : ∃ m, Fr X.base X.env.locals s.heap m :=
  let ⟨m, hn, _⟩ := I.loc
  ⟨m, hn, I.bk, Nat.le_trans I.ok.bsz I.ok.above⟩
theorem Inv.lt (I : Inv X pins σ H s) : X.env.locals < s.heap.objs.size := let ⟨_, hn, _⟩ := I.loc; hn.lt
theorem Inv.sz (I : Inv X pins σ H s) : X.s₀.heap.objs.size ≤ s.heap.objs.size := Nat.le_trans I.ok.above (Nat.le_of_lt I.lt)
theorem Inv.nofs (I : Inv X pins σ H s) {a : Addr} (h : s.heap.objs.size ≤ a) : a ∉ X.fs := fun hb => by
  obtain ⟨_, o, ho, _⟩ := I.ok.funs.mem hb
  exact absurd (Nat.lt_of_lt_of_le (Heap.lt_size ho) (Nat.le_trans I.sz h)) (Nat.lt_irrefl _)
theorem Inv.cne (I : Inv X pins σ H s) : ∀ x c, X.env.cells.lookup x = some c → c ≠ X.env.locals := fun x c e z => by
  obtain ⟨v, o, ho, hd⟩ := I.cell x c e
  obtain ⟨m, ⟨o', es, ep, ho', hd', _⟩, _⟩ := I.loc
  rw [z, ho'] at ho; cases ho; rw [hd'] at hd; cases hd
theorem Inv.funs (I : Inv X pins σ H s) : s.heap.FunFrames X.base X.outer := by
  have all : ∀ (l : List Env), (∀ b ∈ frs l, b ∈ X.fs) → X.s₀.heap.FunFrames X.base l → s.heap.FunFrames X.base l := by
    intro l
    induction l with
    | nil => intro _ _; trivial
    | cons env r ih =>
      intro hs hl
      obtain ⟨hk, ⟨L, o, hf, hn, ho, hd⟩, hr⟩ := hl
      have hL : L ∈ X.fs := hs L (by unfold frs; rw [List.filterMap_cons, hf]; exact List.mem_cons_self)
      obtain ⟨sl, e⟩ := I.base.slot L o ho (I.ok.frf L hL) hL fun z => I.ok.exfs L z hL
      exact ⟨hk, ⟨L, _, hf, hn, e, hd⟩, ih (fun b hb => hs b (by unfold frs; rw [List.filterMap_cons, hf]; exact List.mem_cons_of_mem _ hb)) hr⟩
  exact all X.outer (fun _ hb => hb) I.ok.funs
theorem Inv.stack (I : Inv X pins σ H s) : s.heap.FunFrames X.base X.stack := by
  rcases I.ok.stk with e | ⟨e, hf⟩
  · rw [e]; exact I.funs
  · rw [e]
    obtain ⟨m, hn, _⟩ := I.loc
    refine .cons (by rw [I.ok.kind]; decide) hf hn ?_ I.funs
    exact Heap.get?_none_of_le (Nat.le_trans I.ok.bsz I.ok.above)
theorem Inv.stkSub (I : Inv X pins σ H s) : ∀ b ∈ frs X.stack, b ∈ X.env.locals :: X.fs := fun b hb => by
  rcases I.ok.stk with e | ⟨e, hf⟩
  · rw [e] at hb; exact List.mem_cons_of_mem _ hb
  · rw [e] at hb
    unfold frs at hb
    rw [List.filterMap_cons, hf] at hb
    exact hb
theorem Inv.stkFree (I : Inv X pins σ H s) : ∀ b ∈ frs X.stack, H b = none := fun b hb => by
  rcases List.mem_cons.mp (I.stkSub b hb) with e | hb
  · rw [e]; exact I.free
  · obtain ⟨_, o, ho, _⟩ := I.ok.funs.mem hb
    exact I.base.free b o ho (I.ok.frf b hb) fun z => I.ok.exfs b z hb
theorem Inv.step {g' : Array GenState} {t' : Nat} {d' : Drawn} {ch : List Addr} (I : Inv X pins σ H s)
    (hch : ∀ b ∈ ch, (b ∈ X.ex ∨ X.s₀.heap.objs.size ≤ b) ∧ b ≠ X.env.locals ∧ (∀ x c, X.env.cells.lookup x = some c → c ≠ b) ∧ ∀ p ∈ X.pn ++ pins, p.1 ≠ b)
    (keep : ∀ b o, b ≠ X.env.locals → b ∉ X.fs → b ∉ ch → s.heap.get? b = some o → H b = none → h'.get? b = some o)
    (slot : ∀ b o, b ≠ X.env.locals → b ∈ X.fs → b ∉ ch → s.heap.get? b = some o → H b = none → ∃ sl, h'.get? b = some { o with slots := sl }) (free : ∀ b o, b ∉ ch → s.heap.get? b = some o → H b = none → H' b = none)
    (there : ∀ b o, b ∉ ch → s.heap.get? b = some o → ∃ o', h'.get? b = some o')
    (tups : ∀ b xs, H b = some (.tup xs) → H' b = some (.tup xs)) (frzs : ∀ b o u, H b = some (.frz o u) → H' b = some (.frz o u)) (tbls : ∀ b ps, H b = some (.tbl ps) → ∃ more, H' b = some (.tbl (ps ++ more)))
    (ns : ∀ m, s.heap.Ns X.env.locals m → h'.Ns X.env.locals m) (hok : HOk X.prog X.w H' h') (hg : AllBare g') :
    Inv X pins σ H' { s with heap := h', gens := g', drawn := d', toks := t' } := by
  have neL : ∀ b o, X.s₀.heap.get? b = some o → b ≠ X.env.locals := fun b o e => Nat.ne_of_lt (Nat.lt_of_lt_of_le (Heap.lt_size e) I.ok.above)
  have neC : ∀ b o, X.s₀.heap.get? b = some o → b ∉ X.ex → b ∉ ch := fun b o e hx hb => by
    rcases (hch b hb).1 with z | z
    · exact hx z
    · exact absurd (Nat.lt_of_lt_of_le (Heap.lt_size e) z) (Nat.lt_irrefl _)
  have cellK : ∀ x c, X.env.cells.lookup x = some c → ∀ v, s.heap.IsCell c v → h'.IsCell c v := fun x c e v ⟨o, ho, hd⟩ => by
    have nch : c ∉ ch := fun z => (hch c z).2.2.1 x c e rfl
    by_cases hc : c ∈ X.fs
    · obtain ⟨sl, q⟩ := slot c o (I.cne x c e) hc nch ho (I.freeC x c e)
      exact ⟨_, q, hd⟩
    · exact ⟨o, keep c o (I.cne x c e) hc nch ho (I.freeC x c e), hd⟩
  refine ⟨I.ok, I.os, hg, ⟨fun b o e n hb hx => ?_, fun b o e n hb hx => ?_, fun b o e n hx => ?_, fun b o e hx => ?_, fun b xs e => tups b xs (I.base.tups b xs e), fun b o xs e => frzs b o xs (I.base.frzs b o xs e), fun b ps e => ?_⟩, ?_, fun x c e => ?_, ?_, fun x c e => ?_, fun p hp => ?_, hok, I.len⟩
  · exact keep b o (neL b o e) hb (neC b o e hx) (I.base.keep b o e n hb hx) (I.base.free b o e n hx)
  · obtain ⟨sl, e1⟩ := I.base.slot b o e n hb hx
    obtain ⟨sl', e2⟩ := slot b _ (neL b o e) hb (neC b o e hx) e1 (I.base.free b o e n hx)
    exact ⟨sl', e2⟩
  · obtain ⟨o', e1⟩ := I.base.there b o e hx
    exact free b o' (neC b o e hx) e1 (I.base.free b o e n hx)
  · obtain ⟨o', e1⟩ := I.base.there b o e hx
    exact there b o' (neC b o e hx) e1
  · obtain ⟨m1, e1⟩ := I.base.tbls b ps e
    obtain ⟨m2, e2⟩ := tbls b _ e1
    exact ⟨m1 ++ m2, by rw [e2, Array.append_assoc]⟩
  · obtain ⟨m, hn, hl⟩ := I.loc
    refine ⟨m, ns m hn, fun i x v e1 e2 e3 => ?_⟩
    obtain ⟨u, r, l⟩ := hl i x v e1 e2 e3
    refine ⟨u, r, ?_⟩
    rcases l with l | ⟨k, c, e, z⟩
    · exact .inl l
    · exact .inr ⟨k, c, e, cellK x c e _ z⟩
  · obtain ⟨v, z⟩ := I.cell x c e
    exact ⟨v, cellK x c e v z⟩
  · obtain ⟨m, ⟨o, _, _, ho, _⟩, _⟩ := I.loc
    exact free _ o (fun z => (hch _ z).2.1 rfl) ho I.free
  · obtain ⟨v, o, ho, hd⟩ := I.cell x c e
    exact free c o (fun z => (hch c z).2.2.1 x c e rfl) ho (I.freeC x c e)
  · obtain ⟨e, n, ne, nf, d⟩ := I.pin p hp
    have nch : p.1 ∉ ch := fun z => (hch p.1 z).2.2.2 p hp rfl
    exact ⟨keep p.1 p.2 ne nf nch e n, free p.1 p.2 nch e n, ne, nf, d⟩
theorem Inv.un {t' : Nat} (I : Inv X pins σ H s) (u : Un X.fs [] H H' s.heap h') (hok : HOk X.prog X.w H' h') : Inv X pins σ H' { s with heap := h', toks := t' } := by
  obtain ⟨m, ⟨o, es, ep, ho, r⟩, _⟩ := id I.loc
  obtain ⟨sl, hL⟩ := u.any ho I.free (by simp)
  exact I.step (g' := s.gens) (d' := s.drawn) (ch := []) (fun _ z => nomatch z) (fun b o _ hb _ e n => u.keep b o e n hb (by simp)) (fun b o _ hb _ e n => u.slot b o e n hb (by simp)) (fun b o _ e n => u.free b o e n (by simp)) (fun b o _ e => u.there b o e (by simp)) u.tups u.frzs u.tbls (fun m' hm => by
    obtain ⟨o', es', ep', ho', r'⟩ := hm
    rw [ho] at ho'; cases ho'
    exact ⟨_, es', ep', hL, r'⟩) hok I.bare
theorem Inv.call {g' : Array GenState} {t' : Nat} {d' : Drawn} {ch : List Addr} (I : Inv X pins σ H s) (u : Un (frs X.stack) ch H H' s.heap h') (hok : HOk X.prog X.w H' h') (hg : AllBare g')
    (hch : ∀ b ∈ ch, (b ∈ X.ex ∨ X.s₀.heap.objs.size ≤ b) ∧ b ≠ X.env.locals ∧ (∀ x c, X.env.cells.lookup x = some c → c ≠ b) ∧ ∀ p ∈ X.pn ++ pins, p.1 ≠ b) :
    Inv X pins σ H' { s with heap := h', gens := g', drawn := d', toks := t' } := by
  obtain ⟨m, ⟨o, es, ep, ho, r⟩, _⟩ := id I.loc
  obtain ⟨sl, hL⟩ := u.any ho I.free fun z => (hch _ z).2.1 rfl
  exact I.step (ch := ch) hch (fun b o hL hb hc e n => u.keep b o e n (fun z => (List.mem_cons.mp (I.stkSub b z)).elim hL hb) hc) (fun b o _ _ hc e n => u.any e n hc) (fun b o hc e n => u.free b o e n hc) (fun b o hc e => u.there b o e hc) u.tups u.frzs u.tbls (fun m' hm => by
    obtain ⟨o', es', ep', ho', r'⟩ := hm
    rw [ho] at ho'; cases ho'
    exact ⟨_, es', ep', hL, r'⟩) hok hg
theorem Inv.turned {t' : Nat} {it : Addr} (I : Inv X pins σ H s) (k : ∀ b o, b ≠ it → s.heap.get? b = some o → h'.get? b = some o) (hn : H it = none) (hL : it ≠ X.env.locals)
    (h1 : it ∈ X.ex ∨ X.s₀.heap.objs.size ≤ it) (h2 : ∀ x c, X.env.cells.lookup x = some c → c ≠ it) (h3 : ∀ p ∈ X.pn ++ pins, p.1 ≠ it) : Inv X pins σ H { s with heap := h', toks := t' } := by
  have nit : ∀ b u, H b = some u → b ≠ it := fun b u e z => by rw [z, hn] at e; cases e
  refine I.step (g' := s.gens) (d' := s.drawn) (ch := [it]) (fun b hb => ?_) (fun b o _ _ hc e _ => k b o (fun z => hc (by simp [z])) e) (fun b o _ _ hc e _ => ⟨o.slots, k b o (fun z => hc (by simp [z])) e⟩) (fun _ _ _ _ n => n)
    (fun b o hc e => ⟨o, k b o (fun z => hc (by simp [z])) e⟩) (fun _ _ e => e) (fun _ _ _ e => e) (fun b ps e => ⟨#[], by rw [e]; simp⟩) (fun m hm => ?_) (fun b u e => ?_) I.bare
  · have e : b = it := by simpa using hb
    subst e
    exact ⟨h1, hL, h2, h3⟩
  · obtain ⟨o, es, ep, ho, r⟩ := hm
    exact ⟨o, es, ep, k _ o (Ne.symm hL) ho, r⟩
  · refine (I.hok b u e).stay (fun c v hc q => k c v ?_ q) (fun _ q => q) fun _ _ q => q
    rcases hc with z | z
    · rw [z]; exact nit b u e
    · exact nit c _ z
theorem Inv.tok (I : Inv X pins σ H s) (t : Nat) : Inv X pins σ H { s with toks := t } := I.un (h' := s.heap) (t' := t) Un.refl I.hok
theorem Inv.kept {t' : Nat} (I : Inv X pins σ H s) (k : ∀ b u, s.heap.get? b = some u → h'.get? b = some u) : Inv X pins σ H { s with heap := h', toks := t' } := I.un (Un.kept k) (I.hok.kept k)
theorem Inv.laid {a : Addr} {o : HO} {t' : Nat} (I : Inv X pins σ H s) (k : ∀ b u, s.heap.get? b = some u → h'.get? b = some u) (hp : s.heap.objs.size ≤ a) (new : ObjOk X.prog X.w (upd H a o) h' a o) :
    Inv X pins σ (upd H a o) { s with heap := h', toks := t' } := I.un (Un.laid k hp (I.hok.fresh hp)) (I.hok.laid k hp new)
theorem Inv.write {x e : Addr} {o : HO} {t' : Nat} (I : Inv X pins σ H s) (mu : Mut (H x)) (he : e = x ∨ H e = some (.own x)) (k : ∀ b u, b ≠ e → s.heap.get? b = some u → h'.get? b = some u) (heo : ∃ u, h'.get? e = some u)
    (new : ObjOk X.prog X.w (upd H x o) h' x o) : Inv X pins σ (upd H x o) { s with heap := h', toks := t' } := I.un (Un.write mu he k heo) (I.hok.write mu he k heo new)
theorem Inv.pins_of {pins' : List (Addr × Obj)} (I : Inv X pins σ H s) (h : ∀ p ∈ pins', s.heap.get? p.1 = some p.2 ∧ H p.1 = none ∧ p.1 ≠ X.env.locals ∧ p.1 ∉ X.fs ∧ ∀ v, p.2.data ≠ .cell v) : Inv X pins' σ H s :=
  ⟨I.ok, I.os, I.bare, I.base, I.loc, I.cell, I.free, I.freeC, fun p hp => (List.mem_append.mp hp).elim (fun z => I.pin p (List.mem_append_left _ z)) (h p), I.hok, I.len⟩
theorem nodup_ix {N : List Str} (hN : N.Nodup) {i j : Nat} {x : Str} (a : N[i]? = some x) (b : N[j]? = some x) : i = j := by
  obtain ⟨h1, e1⟩ := List.getElem?_eq_some_iff.mp a
  obtain ⟨h2, e2⟩ := List.getElem?_eq_some_iff.mp b
  exact (List.getElem_inj hN).mp (e1.trans e2.symm)
theorem store_ok2 {M : Model} {A : Around} {E : Value → Shared → Prop} {i : Nat} {x : Str} {v : V} {u : Value} {Q : Unit → Shared → Prop} (I : Inv X pins σ H s) (hN : X.N.Nodup) (hi : X.N[i]? = some x) (hx : Loc X.env.scope x) (r : RelV v u)
    (h : ∀ s', Inv X pins (σ.set i (some v)) H s' → (∃ a, Heap.SameBut a s.heap s'.heap ∧ (a = X.env.locals ∨ X.env.cells.lookup x = some a)) → Q () s') (hf : X.fn x = true ∨ X.env.scope.names.lookup x = some .local := by first | exact .inl rfl | exact .inr rfl | assumption) : wpAny M A (storeName X.env x u) Q E s := by
  obtain ⟨m, hn, hl⟩ := id I.loc
  have hcls : (X.env.scope.kind == .class || (X.env.scope.kind == .module && X.env.locals != X.env.globals)) = false := by rw [I.ok.kind]; rfl
  have hiσ : i < σ.length := by rw [I.len]; exact (List.getElem?_eq_some_iff.mp hi).1
  have cne := I.cne
  have tracked : ∀ {a : Addr} {h' : Heap}, (∃ o, s.heap.get? a = some o ∧ H a = none) → Heap.SameBut a s.heap h' → HOk X.prog X.w H h' := fun {a h'} ha hs b ob e => by
    obtain ⟨_, _, hfree⟩ := ha
    refine (I.hok b ob e).stay (fun c w' hc q => (hs.2 c ?_).trans q) (fun _ q => q) fun _ _ q => q
    rintro rfl
    rcases hc with rfl | hc
    · rw [hfree] at e; cases e
    · rw [hfree] at hc; cases hc
  rcases hx with hk | hk
  · refine wpAny_storeName_local hk hn (fun h' hn' hs => ?_) hcls
    obtain ⟨oL, _, _, hoL, _⟩ := id hn
    refine h _ ⟨I.ok, I.os, I.bare, ⟨fun b o e n hb hx => ?_, fun b o e n hb hx => ?_, I.base.free, fun b o e hx => ?_, I.base.tups, I.base.frzs, I.base.tbls⟩, ⟨_, hn', fun j y v' e1 e2 e3 => ?_⟩, fun y c e => ?_, I.free, I.freeC, fun p hp => ?_, tracked ⟨oL, hoL, I.free⟩ hs, by simpa using I.len⟩ ⟨_, hs, .inl rfl⟩
    · exact (hs.2 b (Nat.ne_of_lt (Nat.lt_of_lt_of_le (Heap.lt_size e) I.ok.above))).trans (I.base.keep b o e n hb hx)
    · obtain ⟨sl, e1⟩ := I.base.slot b o e n hb hx
      exact ⟨sl, (hs.2 b (Nat.ne_of_lt (Nat.lt_of_lt_of_le (Heap.lt_size e) I.ok.above))).trans e1⟩
    · obtain ⟨o', e1⟩ := I.base.there b o e hx
      exact ⟨o', (hs.2 b (Nat.ne_of_lt (Nat.lt_of_lt_of_le (Heap.lt_size e) I.ok.above))).trans e1⟩
    · by_cases hj : j = i
      · subst hj
        rw [hi] at e1; cases e1
        rw [List.getElem?_set_self hiσ] at e2
        cases e2
        exact ⟨u, r, .inl ⟨hk, by simp⟩⟩
      · rw [List.getElem?_set_ne (Ne.symm hj)] at e2
        obtain ⟨u', r', q⟩ := hl j y v' e1 e2 e3
        refine ⟨u', r', ?_⟩
        rcases q with ⟨k, e⟩ | ⟨k, c, e, z⟩
        · refine .inl ⟨k, ?_⟩
          have : y ≠ x := fun e => hj (nodup_ix hN e1 (e ▸ hi))
          simp [this, e]
        · exact .inr ⟨k, c, e, z.sameBut hs (cne y c e)⟩
    · obtain ⟨w', z⟩ := I.cell y c e
      exact ⟨w', z.sameBut hs (cne y c e)⟩
    · obtain ⟨e, n, ne, nf, d⟩ := I.pin p hp
      exact ⟨(hs.2 p.1 ne).trans e, n, ne, nf, d⟩
  · have hfn : X.fn x = true := by
      rcases hf with z | z
      · exact z
      · rw [z] at hk; cases hk
    obtain ⟨c, hc⟩ := I.ok.has x (.inl hk)
    obtain ⟨w', z⟩ := I.cell x c hc
    refine wpAny_storeName_cell I.ok.kind hk hc z (fun h' hc' hs => ?_)
    obtain ⟨oc, hoc, hocd⟩ := id z
    refine h { s with heap := h' } ⟨I.ok, I.os, I.bare, ⟨fun b o e n hb hx => ?_, fun b o e n hb hx => ?_, I.base.free, fun b o e hx => ?_, I.base.tups, I.base.frzs, I.base.tbls⟩, ⟨m, hn.sameBut hs (Ne.symm (cne x c hc)), fun j y v' e1 e2 e3 => ?_⟩, fun y c' e => ?_, I.free, I.freeC, fun p hp => ?_, tracked ⟨oc, hoc, I.freeC x c hc⟩ hs, by simpa using I.len⟩ ⟨c, hs, .inr hc⟩
    · exact (hs.2 b (Nat.ne_of_lt (Nat.lt_of_lt_of_le (Heap.lt_size e) (I.ok.cab x c hfn hc)))).trans (I.base.keep b o e n hb hx)
    · obtain ⟨sl, e1⟩ := I.base.slot b o e n hb hx
      exact ⟨sl, (hs.2 b (Nat.ne_of_lt (Nat.lt_of_lt_of_le (Heap.lt_size e) (I.ok.cab x c hfn hc)))).trans e1⟩
    · obtain ⟨o', e1⟩ := I.base.there b o e hx
      exact ⟨o', (hs.2 b (Nat.ne_of_lt (Nat.lt_of_lt_of_le (Heap.lt_size e) (I.ok.cab x c hfn hc)))).trans e1⟩
    · by_cases hj : j = i
      · subst hj
        rw [hi] at e1; cases e1
        rw [List.getElem?_set_self hiσ] at e2
        cases e2
        exact ⟨u, r, .inr ⟨.inl hk, c, hc, hc'⟩⟩
      · rw [List.getElem?_set_ne (Ne.symm hj)] at e2
        obtain ⟨u', r', q⟩ := hl j y v' e1 e2 e3
        refine ⟨u', r', ?_⟩
        rcases q with q | ⟨k, c', e, z'⟩
        · exact .inl q
        · refine .inr ⟨k, c', e, z'.sameBut hs ?_⟩
          rintro rfl
          exact hj (nodup_ix hN e1 (I.ok.inj _ _ _ e hc ▸ hi))
    · by_cases hcc : c' = c
      · subst hcc; exact ⟨_, hc'⟩
      · obtain ⟨w2, z2⟩ := I.cell y c' e
        exact ⟨w2, z2.sameBut hs hcc⟩
    · obtain ⟨e, n, ne, nf, d⟩ := I.pin p hp
      refine ⟨(hs.2 p.1 ?_).trans e, n, ne, nf, d⟩
      intro q
      rw [q, hoc] at e
      have q' : oc = p.2 := Option.some.inj e
      exact d w' (by rw [← q']; exact hocd)
theorem store_ok {M : Model} {A : Around} {E : Value → Shared → Prop} {i : Nat} {x : Str} {v : V} {u : Value} {Q : Unit → Shared → Prop} (I : Inv X pins σ H s) (hN : X.N.Nodup) (hi : X.N[i]? = some x) (hx : Loc X.env.scope x) (r : RelV v u)
    (h : ∀ s', Inv X pins (σ.set i (some v)) H s' → Q () s') (hf : X.fn x = true ∨ X.env.scope.names.lookup x = some .local := by first | exact .inl rfl | exact .inr rfl | assumption) : wpAny M A (storeName X.env x u) Q E s :=
  store_ok2 I hN hi hx r (fun s' I' _ => h s' I') hf
theorem Inv.call' {s' : Shared} {ch : List Addr} (I : Inv X pins σ H s) (ho : s'.os = s.os) (u : Un (frs X.stack) ch H H' s.heap s'.heap) (hok : HOk X.prog X.w H' s'.heap) (hg : AllBare s'.gens)
    (hch : ∀ b ∈ ch, (b ∈ X.ex ∨ X.s₀.heap.objs.size ≤ b) ∧ b ≠ X.env.locals ∧ (∀ x c, X.env.cells.lookup x = some c → c ≠ b) ∧ ∀ p ∈ X.pn ++ pins, p.1 ≠ b) : Inv X pins σ H' s' := by
  obtain ⟨h', g', d', t', o'⟩ := s'
  have e : o' = s.os := ho
  subst e
  exact I.call (g' := g') (t' := t') (d' := d') u hok hg hch
end
abbrev XK := Value → Option Addr → Hp → Prop
abbrev St := List (Option V)
abbrev VK := V → Hp → Prop
abbrev TE := St → Hp → VK → Prop
abbrev TT := St → Hp → (Bool → Hp → Prop) → Prop
abbrev TA := St → Hp → (List V → Hp → Prop) → Prop
structure Ends where
  nx : St → Hp → Prop
  rt : VK
  bk : St → Hp → Prop := fun _ _ => False
  ct : St → Hp → Prop := fun _ _ => False
abbrev TS := Ends → St → Hp → Prop
def EP (X : Cx) (pins : List (Addr × Obj)) (σ : St) (Q : VK) (u : Value) (s' : Shared) : Prop := ∃ v H', Inv X pins σ H' s' ∧ RelV v u ∧ Q v H'
def TP (X : Cx) (pins : List (Addr × Obj)) (σ : St) (Q : Bool → Hp → Prop) (b : Bool) (s' : Shared) : Prop := ∃ H', Inv X pins σ H' s' ∧ Q b H'
def AP (X : Cx) (pins : List (Addr × Obj)) (σ : St) (Q : List V → Hp → Prop) (us : List Value) (s' : Shared) : Prop := ∃ vs H', Inv X pins σ H' s' ∧ Vals vs us ∧ Q vs H'
def SP (X : Cx) (pins : List (Addr × Obj)) (D : Ends) (f : Flow) (s' : Shared) : Prop :=
  match f with
  | .next => ∃ σ' H', Inv X pins σ' H' s' ∧ D.nx σ' H'
  | .brk => ∃ σ' H', Inv X pins σ' H' s' ∧ D.bk σ' H'
  | .cont => ∃ σ' H', Inv X pins σ' H' s' ∧ D.ct σ' H'
  | .ret u => ∃ v σ' H', Inv X pins σ' H' s' ∧ RelV v u ∧ D.rt v H'
def PE (X : Cx) (e : Expr) (t : TE) : Prop :=
  ∀ (pins : List (Addr × Obj)) (s : Shared) (σ : St) (H : Hp) (Q : VK), Inv X pins σ H s → t σ H Q → wpAny (model X.prog X.w) X.A (eval e X.env) (EP X pins σ Q) X.xe s
def PT (X : Cx) (e : Expr) (t : TT) : Prop :=
  ∀ (pins : List (Addr × Obj)) (s : Shared) (σ : St) (H : Hp) (Q : Bool → Hp → Prop), Inv X pins σ H s → t σ H Q → wpAny (model X.prog X.w) X.A (isTrue e X.env (eval e X.env)) (TP X pins σ Q) X.xe s
def PW (X : Cx) (e : Expr) (t : TT) : Prop :=
  ∀ (whole : Sem Value) (pins : List (Addr × Obj)) (s : Shared) (σ : St) (H : Hp) (Q : Bool → Hp → Prop), Inv X pins σ H s → t σ H Q → wpAny (model X.prog X.w) X.A (isTrue e X.env whole) (TP X pins σ Q) X.xe s
theorem PW.pt {X : Cx} {e : Expr} {t : TT} (h : PW X e t) : PT X e t := h _
def PA (X : Cx) (es : List Expr) (t : TA) : Prop :=
  ∀ (pos : Pos) (pins : List (Addr × Obj)) (s : Shared) (σ : St) (H : Hp) (Q : List V → Hp → Prop), Inv X pins σ H s → t σ H Q → wpAny (model X.prog X.w) X.A (spliced (backTo pos (starEach es X.env))) (AP X pins σ Q) X.xe s
def PS (X : Cx) (st : Stmt) (t : TS) : Prop :=
  ∀ (pins : List (Addr × Obj)) (s : Shared) (σ : St) (H : Hp) (D : Ends), Inv X pins σ H s → t D σ H → wpAny (model X.prog X.w) X.A (exec st X.env) (SP X pins D) X.xe s
def PSs (X : Cx) (st : List Stmt) (t : TS) : Prop :=
  ∀ (pins : List (Addr × Obj)) (s : Shared) (σ : St) (H : Hp) (D : Ends), Inv X pins σ H s → t D σ H → wpAny (model X.prog X.w) X.A (execs st X.env) (SP X pins D) X.xe s
theorem thn {α : Type} {t : Sem α} {Q Q' : α → Shared → Prop} {M : Model} {A : Around} {E : Value → Shared → Prop} {s : Shared} (h : wpAny M A t Q E s) (hQ : ∀ a s, Q a s → Q' a s) : wpAny M A t Q' E s := wpAny_mono h hQ fun _ _ x => x
end L2
namespace L2
open PySem PySem.Spec PyProof.Rows
section
variable {X : Cx}
def tVar (i : Nat) : TE := fun σ H Q => ∃ v, σ[i]? = some (some v) ∧ Q v H
def tC (v : V) : TE := fun _ H Q => Q v H
theorem pe_var {i : Nat} {x : Str} {pos : Pos} (hN : X.N[i]? = some x) (hv : Vis X.env.scope x) (hd : (x == ("__debug__" : Str)) = false := by decide) (hcd : (x == ("__classdict__" : Str)) = false := by decide) : PE X (.Name x pos) (tVar i) := by
  intro pins s σ H Q I h
  obtain ⟨v, e, h⟩ := h
  obtain ⟨m, hn, hl⟩ := I.loc
  obtain ⟨u, r, l⟩ := hl i x v hN e hv
  have fin : EP X pins σ Q u s := ⟨v, H, I, r, h⟩
  rcases l with ⟨hk, hm⟩ | ⟨hk, c, hc, hcell⟩
  · exact wpAny_Name (wpAny_loadName_local I.ok.kind hk hn hm fin) hd
  · rcases hk with hk | hk
    · exact wpAny_Name (wpAny_loadName_cell I.ok.kind hk hc hcell fin) hd
    · exact wpAny_Name (wpAny_loadName_free I.ok.kind hk hc hcell fin hcd) hd
theorem pe_int {i j pos} : PE X (.Constant (.int i) j pos) (tC (.int i)) := fun _ _ _ H _ I h => wpAny_Constant_int ⟨.int i, H, I.tok _, ⟨_, rfl⟩, h⟩
theorem pe_bl {b j pos} : PE X (.Constant (.bool b) j pos) (tC (.bl b)) := fun _ _ _ H _ I h => Constant_bool ⟨.bl b, H, I, rfl, h⟩
theorem pe_non {j pos} : PE X (.Constant .none j pos) (tC .non) := fun _ _ _ H _ I h => Constant_none ⟨.non, H, I, rfl, h⟩
theorem pe_str {x j pos} : PE X (.Constant (.str x) j pos) (tC (.str x)) := fun _ _ _ H _ I h => Calls.Constant_str ⟨.str x, H, I.tok _, ⟨_, rfl⟩, h⟩
def Gl (X : Cx) (x : Str) : Prop := X.env.kindOf x = some .globalImplicit
theorem ld_glob {E : Value → Shared → Prop} {pins : List (Addr × Obj)} {s : Shared} {σ : St} {H : Hp} {x : Str} {u : Value} {pos : Pos} {Q : Value → Shared → Prop} (I : Inv X pins σ H s) (hg : Gl X x) (hm : X.mg x = some u) (h : Q u s)
    (hd : (x == ("__debug__" : Str)) = false := by decide) : wpAny (model X.prog X.w) X.A (eval (.Name x pos) X.env) Q E s :=
  Calls.Name_function_global I.ok.kind hg (Calls.loadGlobal_global (by rw [I.ok.glob]; exact I.mod.glob.keeps I.bk) hm h) hd
theorem ld_blt {E : Value → Shared → Prop} {pins : List (Addr × Obj)} {s : Shared} {σ : St} {H : Hp} {x : Str} {u : Value} {pos : Pos} {Q : Value → Shared → Prop} (I : Inv X pins σ H s) (hg : Gl X x) (hm : X.mg x = none) (hv : bootBuiltins x = some u) (h : Q u s)
    (hn : x ≠ "__name__" := by decide) (hd : (x == ("__debug__" : Str)) = false := by decide) : wpAny (model X.prog X.w) X.A (eval (.Name x pos) X.env) Q E s := by
  obtain ⟨mb, h1, h2⟩ := I.mod.blt
  exact Calls.Name_function_global I.ok.kind hg (Calls.loadGlobal_builtin (by rw [I.ok.glob]; exact I.mod.glob.keeps I.bk) hm (by rw [I.ok.blt]; exact h1.keeps I.bk) ((h2 x hn).trans hv) h) hd
theorem pe_glob {x : Str} {v : V} {u : Value} {pos : Pos} (hg : Gl X x) (hm : X.mg x = some u) (r : RelV v u) (hd : (x == ("__debug__" : Str)) = false := by decide) : PE X (.Name x pos) (tC v) :=
  fun _ _ _ H _ I h => ld_glob I hg hm ⟨v, H, I, r, h⟩ hd
theorem pe_bltn {x : Str} {v : V} {u : Value} {pos : Pos} (hg : Gl X x) (hm : X.mg x = none) (hv : bootBuiltins x = some u) (r : RelV v u) (hn : x ≠ "__name__" := by decide) (hd : (x == ("__debug__" : Str)) = false := by decide) : PE X (.Name x pos) (tC v) :=
  fun _ _ _ H _ I h => ld_blt I hg hm hv ⟨v, H, I, r, h⟩ hn hd
variable {a b : Expr} {ta tb : TE} {pos : Pos}
def tB (t : TE) : TT := fun σ H Q => t σ H fun x H1 => ∃ c, x = .bl c ∧ Q c H1
theorem pt_val {e : Expr} {t : TE} (h : PE X e t) (he : ∀ whole, isTrue e X.env whole = (do let v ← whole; standAt e.pos; holding [v] (truthy v)) := by intro _; rfl) : PT X e (tB t) := by
  intro pins s σ H Q I hw
  refine isTrue_plain (thn (h pins s σ H _ I hw) fun v s1 ⟨x, H1, I1, r1, q1⟩ => ?_) (he _)
  obtain ⟨d, rfl, q⟩ := q1
  cases r1
  exact wpAny_truthy_bool ⟨H1, I1, q⟩
variable {tA tB' : TT} {rest : List Expr}
def tAnd (t u : TT) : TT := fun σ H Q => t σ H fun c H1 => if c = true then u σ H1 Q else Q false H1
def tOr (t u : TT) : TT := fun σ H Q => t σ H fun c H1 => if c = true then Q true H1 else u σ H1 Q
def tNot (t : TT) : TT := fun σ H Q => t σ H fun c H1 => Q (!c) H1
theorem pw_and1 (ha : PT X a tA) : PW X (.BoolOp .And [a] pos) tA := by
  intro wh pins s σ H Q I h
  refine isTrue_and (thn (ha pins s σ H Q I h) fun c s1 e => ?_)
  cases c with
  | true => exact isTrue_and_nil e
  | false => exact e
theorem pw_or1 (ha : PT X a tA) : PW X (.BoolOp .Or [a] pos) tA := by
  intro wh pins s σ H Q I h
  refine isTrue_or (thn (ha pins s σ H Q I h) fun c s1 e => ?_)
  cases c with
  | false => exact isTrue_or_nil e
  | true => exact e
theorem pw_and (ha : PT X a tA) (hb : PW X (.BoolOp .And (b :: rest) pos) tB') : PW X (.BoolOp .And (a :: b :: rest) pos) (tAnd tA tB') := by
  intro wh pins s σ H Q I h
  refine isTrue_and (thn (ha pins s σ H _ I h) fun c s1 ⟨H1, I1, q1⟩ => ?_)
  cases c with
  | true => exact hb wh pins s1 σ H1 Q I1 q1
  | false => exact ⟨H1, I1, q1⟩
theorem pw_or (ha : PT X a tA) (hb : PW X (.BoolOp .Or (b :: rest) pos) tB') : PW X (.BoolOp .Or (a :: b :: rest) pos) (tOr tA tB') := by
  intro wh pins s σ H Q I h
  refine isTrue_or (thn (ha pins s σ H _ I h) fun c s1 ⟨H1, I1, q1⟩ => ?_)
  cases c with
  | true => exact ⟨H1, I1, q1⟩
  | false => exact hb wh pins s1 σ H1 Q I1 q1
theorem pt_not (ha : PT X a tA) : PT X (.UnaryOp .Not a pos) (tNot tA) := by
  intro pins s σ H Q I h
  exact isTrue_not (ha pins s σ H (fun c H1 => Q (!c) H1) I h)
def tAndV (ta tb : TE) : TE := fun σ H Q => ta σ H fun x H1 => ∃ c, x = .bl c ∧ if c = true then tb σ H1 Q else Q (.bl false) H1
def tOrV (ta tb : TE) : TE := fun σ H Q => ta σ H fun x H1 => ∃ c, x = .bl c ∧ if c = true then Q (.bl true) H1 else tb σ H1 Q
def tNotV (ta : TE) : TE := fun σ H Q => ta σ H fun x H1 => ∃ c, x = .bl c ∧ Q (.bl (!c)) H1
theorem pe_one {op} {t : TE} (h : PE X a t) : PE X (.BoolOp op [a] pos) t := fun pins s σ H Q I hw => BoolOp_one (h pins s σ H Q I hw)
theorem pe_and (ha : PE X a ta) (hb : PE X (.BoolOp .And (b :: rest) pos) tb) : PE X (.BoolOp .And (a :: b :: rest) pos) (tAndV ta tb) := by
  intro pins s σ H Q I h
  refine BoolOp_and (thn (ha pins s σ H _ I h) fun v s1 ⟨x, H1, I1, r1, q1⟩ => ?_)
  obtain ⟨c, rfl, q1⟩ := q1
  cases r1
  refine wpAny_truthy_bool ?_
  cases c with
  | true => exact hb pins s1 σ H1 Q I1 q1
  | false => exact ⟨.bl false, H1, I1, rfl, q1⟩
theorem pe_or (ha : PE X a ta) (hb : PE X (.BoolOp .Or (b :: rest) pos) tb) : PE X (.BoolOp .Or (a :: b :: rest) pos) (tOrV ta tb) := by
  intro pins s σ H Q I h
  refine BoolOp_or (thn (ha pins s σ H _ I h) fun v s1 ⟨x, H1, I1, r1, q1⟩ => ?_)
  obtain ⟨c, rfl, q1⟩ := q1
  cases r1
  refine wpAny_truthy_bool ?_
  cases c with
  | false => exact hb pins s1 σ H1 Q I1 q1
  | true => exact ⟨.bl true, H1, I1, rfl, q1⟩
theorem pe_not (ha : PE X a ta) : PE X (.UnaryOp .Not a pos) (tNotV ta) := by
  intro pins s σ H Q I h
  refine UnaryOp_ (thn (ha pins s σ H _ I h) fun v s1 ⟨x, H1, I1, r1, q1⟩ => ?_)
  obtain ⟨c, rfl, q1⟩ := q1
  cases r1
  exact not_of (wpAny_truthy_bool ⟨.bl (!c), H1, I1, rfl, q1⟩)
def tIf (t : TT) (ta tb : TE) : TE := fun σ H Q => t σ H fun c H1 => if c = true then ta σ H1 Q else tb σ H1 Q
theorem pe_ifExp {c : Expr} (hc : PT X c tA) (ha : PE X a ta) (hb : PE X b tb) : PE X (.IfExp c a b pos) (tIf tA ta tb) := by
  intro pins s σ H Q I h
  refine wpAny_IfExp (thn (hc pins s σ H _ I h) fun d s1 ⟨H1, I1, q1⟩ => ?_)
  cases d with
  | true => exact ha pins s1 σ H1 Q I1 q1
  | false => exact hb pins s1 σ H1 Q I1 q1
end
end L2
namespace L2
open PySem PySem.Spec PyProof.Rows
def SqL (K : PySem.W.Frag) (H : Hp) (a : Addr) (xs : List V) : Prop :=
  Rd H a (.lst xs) ∨
    ∃ (o : Obj) (its : Array Value) (n : Nat), K.lookup a = some o ∧ o.cls = .type "list" ∧ o.dict = none ∧ o.data = .seq its n ∧ its.size ≤ sizeLine ∧ Vals xs its.toList
def SqT (K : PySem.W.Frag) (H : Hp) (a : Addr) (xs : List V) : Prop :=
  Rd H a (.tup xs) ∨
    ∃ (o : Obj) (its : Array Value) (n : Nat), K.lookup a = some o ∧ o.cls = .type "tuple" ∧ o.data = .seq its n ∧ its.size ≤ sizeLine ∧ Vals xs its.toList
def absV : Value → Option V
  | .none => some .non
  | .bool b => some (.bl b)
  | .int i _ => some (.int i)
  | .str x _ => some (.str x)
  | .bytes b _ => some (.byt b)
  | .float b _ => some (.flt b)
  | .ref a => some (.ref a)
  | .type n => some (.ty n)
  | _ => none
theorem RelV.abs {x : V} {u : Value} (r : RelV x u) : absV u = some x := by
  cases x with
  | non => cases r; rfl
  | bl _ => cases r; rfl
  | int _ => obtain ⟨t, rfl⟩ := r; rfl
  | str _ => obtain ⟨t, rfl⟩ := r; rfl
  | byt _ => obtain ⟨t, rfl⟩ := r; rfl
  | flt _ => obtain ⟨t, rfl⟩ := r; rfl
  | ref _ => cases r; rfl
  | ty _ => cases r; rfl
theorem RelV.inj {x y : V} {u : Value} (r : RelV x u) (q : RelV y u) : x = y := Option.some.inj (r.abs.symm.trans q.abs)
theorem Vals.inj : ∀ {xs ys : List V} {us : List Value}, Vals xs us → Vals ys us → xs = ys
  | _, _, _, .nil, .nil => rfl
  | _, _, _, .cons r t, .cons r' t' => by rw [r.inj r', Vals.inj t t']
section
variable {X : Cx} {pins : List (Addr × Obj)} {σ : St} {H : Hp} {s : Shared} {a : Addr} {xs ys : List V}
theorem SqL.of {K : PySem.W.Frag} (h : H a = some (.lst xs)) : SqL K H a xs := .inl (.inl h)
theorem SqT.of {K : PySem.W.Frag} (h : H a = some (.tup xs)) : SqT K H a xs := .inl (.inl h)
theorem Inv.list (I : Inv X pins σ H s) (h : SqL X.K H a xs) : ∃ its : List Value, Vals xs its ∧ PlainL s.heap a its.toArray ∧ xs.length ≤ sizeLine := by
  rcases h with h | ⟨o, its, n, hk, hc, hd, hs, hz, r⟩
  · obtain ⟨z, its, n, r, e⟩ := h.ok I.hok
    exact ⟨its, r, ⟨_, n, e, rfl, rfl, rfl⟩, z⟩
  · refine ⟨its.toList, r, ⟨o, n, I.kIn a o hk, hc, hd, by simpa using hs⟩, ?_⟩
    have e := r.length
    simp only [Array.length_toList] at e
    omega
theorem Inv.tuple (I : Inv X pins σ H s) (h : SqT X.K H a xs) : ∃ its : List Value, Vals xs its ∧ IsTup s.heap a its.toArray ∧ xs.length ≤ sizeLine := by
  rcases h with h | ⟨o, its, n, hk, hc, hs, hz, r⟩
  · obtain ⟨z, its, r, p⟩ := h.ok I.hok
    exact ⟨its, r, p, z⟩
  · refine ⟨its.toList, r, ⟨o, I.kIn a o hk, hc, n, by simpa using hs⟩, ?_⟩
    have e := r.length
    simp only [Array.length_toList] at e
    omega
theorem Inv.list_inj (I : Inv X pins σ H s) (h : SqL X.K H a xs) (h' : SqL X.K H a ys) : xs = ys := by
  obtain ⟨its, r, ⟨o, n, e, _, _, d⟩, _⟩ := I.list h
  obtain ⟨its', r', ⟨o', n', e', _, _, d'⟩, _⟩ := I.list h'
  rw [e] at e'; cases e'
  rw [d] at d'
  injection d' with d1 _
  have : its = its' := by simpa using congrArg Array.toList d1
  subst this
  exact r.inj r'
theorem Inv.tuple_inj (I : Inv X pins σ H s) (h : SqT X.K H a xs) (h' : SqT X.K H a ys) : xs = ys := by
  obtain ⟨its, r, ⟨o, e, _, n, d⟩, _⟩ := I.tuple h
  obtain ⟨its', r', ⟨o', e', _, n', d'⟩, _⟩ := I.tuple h'
  rw [e] at e'; cases e'
  rw [d] at d'
  injection d' with d1 _
  have : its = its' := by simpa using congrArg Array.toList d1
  subst this
  exact r.inj r'
end
abbrev Cx.wish (X : Cx) (E : Value → Shared → Prop) : Cx := { X with xe := E }
abbrev Cx.nox (X : Cx) : Cx := X.wish fun _ _ => False
theorem Cx.Ok.wish {X : Cx} (ok : X.Ok) (E : Value → Shared → Prop) : (X.wish E).Ok :=
  ⟨ok.mod, ok.kind, ok.glob, ok.blt, ok.above, ok.inj, ok.has, ok.cab, ok.hd, ok.frames, ok.stk, ok.exf, ok.bs, ok.bsz, ok.noex, ok.exfs, ok.funs, ok.frf⟩
theorem Cx.Ok.unwish {X : Cx} {E : Value → Shared → Prop} (ok : (X.wish E).Ok) : X.Ok :=
  ⟨ok.mod, ok.kind, ok.glob, ok.blt, ok.above, ok.inj, ok.has, ok.cab, ok.hd, ok.frames, ok.stk, ok.exf, ok.bs, ok.bsz, ok.noex, ok.exfs, ok.funs, ok.frf⟩
section
variable {X : Cx} {pins : List (Addr × Obj)} {σ : St} {H : Hp} {s : Shared} {E : Value → Shared → Prop}
theorem Inv.wish (I : Inv X pins σ H s) (E : Value → Shared → Prop) : Inv (X.wish E) pins σ H s := ⟨I.ok.wish E, I.os, I.bare, I.base, I.loc, I.cell, I.free, I.freeC, I.pin, I.hok, I.len⟩
theorem Inv.unwish (I : Inv (X.wish E) pins σ H s) : Inv X pins σ H s := ⟨I.ok.unwish, I.os, I.bare, I.base, I.loc, I.cell, I.free, I.freeC, I.pin, I.hok, I.len⟩
theorem SP.unwish {D : Ends} {f : Flow} {s' : Shared} (h : SP (X.wish E) pins D f s') : SP X pins D f s' := by
  cases f with
  | next => obtain ⟨σ', H', I, q⟩ := h; exact ⟨σ', H', I.unwish, q⟩
  | brk => obtain ⟨σ', H', I, q⟩ := h; exact ⟨σ', H', I.unwish, q⟩
  | cont => obtain ⟨σ', H', I, q⟩ := h; exact ⟨σ', H', I.unwish, q⟩
  | ret u => obtain ⟨v, σ', H', I, r, q⟩ := h; exact ⟨v, σ', H', I.unwish, r, q⟩
theorem PE.nox {e : Expr} {t : TE} (h : PE X.nox e t) : PE X e t := fun pins s σ H Q I hw =>
  wpAny_mono (h pins s σ H Q (I.wish _) hw) (fun _ _ ⟨v, H', I', r, q⟩ => ⟨v, H', I'.unwish, r, q⟩) fun _ _ z => False.elim z
theorem PT.nox {e : Expr} {t : TT} (h : PT X.nox e t) : PT X e t := fun pins s σ H Q I hw =>
  wpAny_mono (h pins s σ H Q (I.wish _) hw) (fun _ _ ⟨H', I', q⟩ => ⟨H', I'.unwish, q⟩) fun _ _ z => False.elim z
theorem PSs.nox {st : List Stmt} {t : TS} (h : PSs X.nox st t) : PSs X st t := fun pins s σ H D I hw =>
  wpAny_mono (h pins s σ H D (I.wish _) hw) (fun _ _ q => q.unwish) fun _ _ z => False.elim z
end
section
variable {X : Cx} {st : Stmt} {rest : List Stmt} {t u : TS} {e : Expr} {te : TE} {pos : Pos}
def tNext : TS := fun D σ H => D.nx σ H
def tSeq (t u : TS) : TS := fun D σ H => t { D with nx := u D } σ H
theorem pss_nil : PSs X [] tNext := fun _ _ σ H _ I h => wpAny_execs_nil ⟨σ, H, I, h⟩
theorem pss_cons (h1 : PS X st t) (h2 : PSs X rest u) : PSs X (st :: rest) (tSeq t u) := by
  intro pins s σ H D I h
  refine wpAny_execs_cons (thn (h1 pins s σ H { D with nx := u D } I h) fun f s1 q => ?_)
  cases f with
  | next =>
    obtain ⟨σ', H', I', q⟩ := q
    exact h2 pins s1 σ' H' D I' q
  | ret v => exact q
  | brk => exact q
  | cont => exact q
theorem pss_one (h1 : PS X st t) : PSs X [st] t := by
  intro pins s σ H D I h
  refine wpAny_execs_cons (thn (h1 pins s σ H D I h) fun f s1 q => ?_)
  cases f with
  | next => exact wpAny_execs_nil q
  | ret v => exact q
  | brk => exact q
  | cont => exact q
theorem Inv.quiet {pins : List (Addr × Obj)} {σ : St} {H : Hp} {s : Shared} (I : Inv X pins σ H s) : interactive X.env = false := by simp [interactive, I.ok.kind]
def tDrop (te : TE) : TS := fun D σ H => te σ H fun _ H1 => D.nx σ H1
theorem ps_expr (he : PE X e te) (hs : swapsWith e none pos.line X.env = pure false := by rfl) : PS X (.Expr e pos) (tDrop te) := by
  intro pins s σ H D I h
  exact wpAny_Expr_any (thn (he pins s σ H _ I h) fun v s1 ⟨x, H1, I1, r1, q1⟩ => ⟨σ, H1, I1, q1⟩) I.quiet hs
def tRet (te : TE) : TS := fun D σ H => te σ H D.rt
theorem ps_ret (he : PE X e te) : PS X (.Return (some e) pos) (tRet te) := by
  intro pins s σ H D I h
  exact wpAny_Return_some (thn (he pins s σ H _ I h) fun v s1 ⟨x, H1, I1, r1, q1⟩ => ⟨x, σ, H1, I1, r1, q1⟩)
def tIfS (c : TT) (t u : TS) : TS := fun D σ H => c σ H fun b H1 => if b = true then t D σ H1 else u D σ H1
theorem ps_if {c : Expr} {a b : List Stmt} {tc : TT} (hc : PT X c tc) (ha : PSs X a t) (hb : PSs X b u) : PS X (.If c a b pos) (tIfS tc t u) := by
  intro pins s σ H D I h
  refine wpAny_If (thn (hc pins s σ H _ I h) fun d s1 ⟨H1, I1, q1⟩ => ?_)
  cases d with
  | true => exact ha pins s1 σ H1 D I1 q1
  | false => exact hb pins s1 σ H1 D I1 q1
end
abbrev TG := V → St → Hp → (St → Hp → Prop) → Prop
abbrev TGs := List V → St → Hp → (St → Hp → Prop) → Prop
def PG (X : Cx) (target : Expr) (t : TG) : Prop :=
  ∀ (pins : List (Addr × Obj)) (s : Shared) (σ : St) (H : Hp) (v : V) (u : Value) (Q : St → Hp → Prop), Inv X pins σ H s → RelV v u → t v σ H Q →
    wpAny (model X.prog X.w) X.A (assign target X.env u) (fun _ s' => ∃ σ' H', Inv X pins σ' H' s' ∧ Q σ' H') X.xe s
def PGs (X : Cx) (ts : List Expr) (t : TGs) : Prop :=
  ∀ (pins : List (Addr × Obj)) (s : Shared) (σ : St) (H : Hp) (vs : List V) (us : List Value) (Q : St → Hp → Prop), Inv X pins σ H s → Vals vs us → t vs σ H Q →
    wpAny (model X.prog X.w) X.A (assignInOrder ((assignEach ts X.env).map (·.2)) us) (fun _ s' => ∃ σ' H', Inv X pins σ' H' s' ∧ Q σ' H') X.xe s
abbrev TSet := V → V → V → Hp → (Hp → Prop) → Prop
def PSet (X : Cx) (t : TSet) : Prop :=
  ∀ (pins : List (Addr × Obj)) (s : Shared) (σ : St) (H : Hp) (o i v : V) (ov iv u : Value) (Q : Hp → Prop), Inv X pins σ H s → RelV o ov → RelV i iv → RelV v u → t o i v H Q →
    wpAny (model X.prog X.w) X.A (setItem ov iv u) (fun _ s' => ∃ H', Inv X pins σ H' s' ∧ Q H') X.xe s
section
variable {X : Cx} {pos : Pos}
def gName (i : Nat) : TG := fun v σ H Q => Q (σ.set i (some v)) H
theorem pg_name {i : Nat} {x : Str} (hN : X.N.Nodup) (hi : X.N[i]? = some x) (hx : Loc X.env.scope x) (hf : X.fn x = true ∨ X.env.scope.names.lookup x = some .local := by first | exact .inl rfl | exact .inr rfl | assumption) : PG X (.Name x pos) (gName i) := by
  intro pins s σ H v u Q I r h
  exact wpAny_assign_Name (store_ok I hN hi hx r (fun s' I' => ⟨_, H, I', h⟩) hf)
def gNil : TGs := fun vs σ H Q => vs = [] ∧ Q σ H
def gCons (t : TG) (u : TGs) : TGs := fun vs σ H Q => ∃ v r, vs = v :: r ∧ t v σ H fun σ' H' => u r σ' H' Q
theorem pgs_nil : PGs X [] gNil := by
  intro pins s σ H vs us Q I r h
  obtain ⟨e, h⟩ := h
  subst e
  cases r
  exact assignInOrder_nil ⟨σ, H, I, h⟩
theorem pgs_cons {e : Expr} {es : List Expr} {t : TG} {u : TGs} (h1 : PG X e t) (h2 : PGs X es u)
    (hs : (assignEach (e :: es) X.env).map (·.2) = assign e X.env :: (assignEach es X.env).map (·.2) := by rfl) : PGs X (e :: es) (gCons t u) := by
  intro pins s σ H vs us Q I r h
  obtain ⟨v, vr, e1, h⟩ := h
  subst e1
  cases r with
  | cons r rr =>
    rw [hs]
    refine assignInOrder_cons (thn (h1 pins s σ H _ _ _ I r h) fun _ s1 ⟨σ1, H1, I1, q1⟩ => ?_)
    exact h2 pins s1 σ1 H1 _ _ Q I1 rr q1
def gTup (K : PySem.W.Frag) (n : Nat) (t : TGs) : TG := fun v σ H Q => ∃ a xs, v = .ref a ∧ SqT K H a xs ∧ xs.length = n ∧ t xs σ H Q
theorem pg_tup {es : List Expr} {k : Nat} {t : TGs} {n : Nat} (hc : X.calm = true) (h : PGs X es t)
    (hn : (assignEach es X.env).length = n := by rfl) (hst : (assignEach es X.env).findIdx? (·.1) = none := by rfl) : PG X (.Tuple es k pos) (gTup X.K n t) := by
  intro pins s σ H v u Q I r hw
  obtain ⟨a, xs, e1, hq, hl, hw⟩ := hw
  subst e1
  cases r
  obtain ⟨its, rv, ht, hz⟩ := I.tuple hq
  refine assign_Tuple_tuple (I.ok.hd hc) ht (by simp [hn, ← hl, rv.length]) hst fun h' hx => ?_
  have I1 : Inv X pins σ H { s with heap := h' } := I.kept (t' := s.toks) fun b o e => hx b o (Nat.ne_of_lt (Heap.lt_size e)) e
  exact h pins _ σ H xs _ Q I1 (by simpa using rv) hw
def gSub (to ti : TE) (t : TSet) : TG := fun v σ H Q => to σ H fun o H1 => ti σ H1 fun i H2 => t o i v H2 fun H3 => Q σ H3
theorem pg_sub {o i : Expr} {to ti : TE} {t : TSet} (ho : PE X o to) (hi : PE X i ti) (hs : PSet X t)
    (ha : ∀ v, assign (.Subscript o i pos) X.env v = (do
      let ov ← holding [v] (eval o X.env)
      let iv ← holding [v, ov] (eval i X.env)
      standAt pos
      holding [v, ov, iv] (setItem ov iv v)
      release [v, ov, iv] []) := by intro _; rfl) : PG X (.Subscript o i pos) (gSub to ti t) := by
  intro pins s σ H v u Q I r h
  rw [ha]
  refine wpAny_bind (wpAny_holding (thn (ho pins s σ H _ I h) fun ov s1 ⟨x, H1, I1, r1, q1⟩ => ?_))
  refine wpAny_bind (wpAny_holding (thn (hi pins s1 σ H1 _ I1 q1) fun iv s2 ⟨y, H2, I2, r2, q2⟩ => ?_))
  refine wpAny_bind (wpAny_standAt (wpAny_bind (wpAny_holding (thn (hs pins s2 σ H2 x y v ov iv u _ I2 r1 r2 r q2) fun _ s3 ⟨H3, I3, q3⟩ => ?_))))
  exact wpAny_release ⟨σ, H3, I3, q3⟩
def tAsg (te : TE) (g : TG) : TS := fun D σ H => te σ H fun x H1 => g x σ H1 D.nx
theorem ps_asg {tg e : Expr} {te : TE} {g : TG} (he : PE X e te) (hg : PG X tg g) (hs : swapsWithSole [tg] e pos.line X.env = pure false := by rfl) (hw : swappedStores [tg] e X.env = pure none := by rfl)
    (h1 : (assignEach [tg] X.env).map (·.2) = [assign tg X.env] := by rfl) : PS X (.Assign [tg] e pos) (tAsg te g) := by
  intro pins s σ H D I h
  refine wpAny_Assign_stores (thn (he pins s σ H _ I h) fun v s1 ⟨x, H1, I1, r1, q1⟩ => ?_) hs hw
  rw [h1]
  exact thn (hg pins s1 σ H1 x v _ I1 r1 q1) fun _ s2 q => q
theorem ps_set {i : Nat} {x : Str} {e : Expr} {te : TE} {pos' : Pos} (hN : X.N.Nodup) (hi : X.N[i]? = some x) (hx : Loc X.env.scope x) (he : PE X e te) (hs : swapsWith e (some (.Name x pos')) pos.line X.env = pure false := by rfl) (hf : X.fn x = true ∨ X.env.scope.names.lookup x = some .local := by first | exact .inl rfl | exact .inr rfl | assumption) :
    PS X (.Assign [.Name x pos'] e pos) (tAsg te (gName i)) := by
  intro pins s σ H D I h
  refine wpAny_Assign_Name (thn (he pins s σ H _ I h) fun v s1 ⟨y, H1, I1, r1, q1⟩ => ?_) hs
  exact store_ok I1 hN hi hx r1 (fun s2 I2 => ⟨_, H1, I2, q1⟩) hf
end
section
variable {X : Cx} {pos : Pos}
end
structure It where
  go : Nat → Hp → Prop
  yld : Nat → Hp → V → Hp → Prop
  stop : Nat → Hp → Prop
def FpOk (X : Cx) (pins : List (Addr × Obj)) (H : Hp) (b : Addr) : Prop :=
  H b = none ∧ b ≠ X.env.locals ∧ b ∉ X.fs ∧ (b ∈ X.ex ∨ X.s₀.heap.objs.size ≤ b) ∧ (∀ x c, X.env.cells.lookup x = some c → c ≠ b) ∧ ∀ p ∈ X.pn ++ pins, p.1 ≠ b
theorem Inv.fpOk {X : Cx} {pins : List (Addr × Obj)} {σ : St} {H H' : Hp} {s : Shared} {b : Addr} (I : Inv X pins σ H s) (hb : s.heap.objs.size ≤ b) (hn : H' b = none) : FpOk X pins H' b := by
  refine ⟨hn, Nat.ne_of_gt (Nat.lt_of_lt_of_le I.lt hb), I.nofs hb, .inr (Nat.le_trans I.sz hb), fun x c e z => ?_, fun p hp z => ?_⟩
  · obtain ⟨v, q⟩ := I.cell x c e
    exact absurd (Nat.lt_of_lt_of_le q.lt (by rw [z]; exact hb)) (Nat.lt_irrefl _)
  · exact absurd (Nat.lt_of_lt_of_le (Heap.lt_size (I.pin p hp).1) (by rw [z]; exact hb)) (Nat.lt_irrefl _)
structure Turn (P : Program) (w : World) (K : PySem.W.Frag) (tg : Expr) (J : It) (fp : List Addr) (it : Addr) (tn : Nat → Heap → Prop) : Prop where
  mem : it ∈ fp
  obj : ∀ i h, tn i h → ∀ b ∈ fp, ∃ o, h.get? b = some o ∧ ∀ v, o.data ≠ .cell v
  keep : ∀ i h h', tn i h → (∀ b ∈ fp, ∀ o, h.get? b = some o → h'.get? b = some o) → tn i h'
  item : ∀ (X : Cx), X.prog = P → X.w = w → X.K = K → X.calm = true → ∀ (i : Nat) (pins : List (Addr × Obj)) (s : Shared) (σ : St) (H : Hp) (E : Value → Shared → Prop), Inv X pins σ H s → (∀ b ∈ fp, FpOk X pins H b) → tn i s.heap → J.go i H →
    wpAny (model P w) X.A (pyNext (.ref it)) (fun r s1 => ∃ u, r = some u ∧
      wpAny (model P w) X.A (letOwnedTupleGo tg (.ref it) u) (fun _ s2 => ∃ x H', Inv X pins σ H' s2 ∧ RelV x u ∧ J.yld i H x H' ∧ tn (i + 1) s2.heap ∧ ∀ b ∈ fp, H' b = none) E s1) E s
  done : ∀ (X : Cx), X.prog = P → X.w = w → X.K = K → X.calm = true → ∀ (i : Nat) (pins : List (Addr × Obj)) (s : Shared) (σ : St) (H : Hp) (E : Value → Shared → Prop), Inv X pins σ H s → (∀ b ∈ fp, FpOk X pins H b) → tn i s.heap → J.stop i H →
    wpAny (model P w) X.A (pyNext (.ref it)) (fun r s1 => r = none ∧ Inv X pins σ H s1) E s
  self : ∀ (A : Around) (i : Nat) (s : Shared) (Q : Value → Shared → Prop) (E : Value → Shared → Prop), tn i s.heap → Q (.ref it) s → wpAny (model P w) A (pyIter (.ref it)) Q E s
abbrev TI := St → Hp → (It → Hp → Prop) → Prop
def PIE (X : Cx) (pins : List (Addr × Obj)) (σ : St) (tg : Expr) (R : It → Hp → Prop) (itv : Value) (s2 : Shared) : Prop :=
  ∃ (it : Addr) (fp : List Addr) (tn : Nat → Heap → Prop) (J : It) (H' : Hp), itv = .ref it ∧ Inv X pins σ H' s2 ∧ Turn X.prog X.w X.K tg J fp it tn ∧ tn 0 s2.heap ∧ (∀ b ∈ fp, FpOk X pins H' b) ∧ R J H'
def PI (X : Cx) (tg iter : Expr) (wi : TI) : Prop :=
  ∀ (pins : List (Addr × Obj)) (s : Shared) (σ : St) (H : Hp) (R : It → Hp → Prop), Inv X pins σ H s → wi σ H R →
    wpAny (model X.prog X.w) X.A (eval iter X.env) (fun v s1 => wpAny (model X.prog X.w) X.A (pyIter v) (PIE X pins σ tg R) X.xe s1) X.xe s
theorem go_of {M : Model} {A : Around} {E : Value → Shared → Prop} {s : Shared} {tg : Expr} {it : Addr} {u : Value} {o : Obj} {n : String} {vs : Array Value} {Q : Unit → Shared → Prop} (ho : s.heap.get? it = some o) (hc : o.cls = .type n) (hd : o.data = .fields vs)
    (hn : ["enumerate", "zip", "dict_itemiterator", "dict_reverseitemiterator", "odict_iterator", "itertools.zip_longest", "itertools.pairwise"].contains n = false) (hQ : Q () s) : wpAny M A (letOwnedTupleGo tg (.ref it) u) Q E s := by
  unfold letOwnedTupleGo
  cases tg <;> first
    | exact wpAny_pure hQ
    | (cases u <;> first
        | exact wpAny_pure hQ
        | (refine wpAny_bind (wpAny_load ho ?_)
           rw [hc, hd]
           show wpAny M A (if (["enumerate", "zip", "dict_itemiterator", "dict_reverseitemiterator", "odict_iterator", "itertools.zip_longest", "itertools.pairwise"].contains n && vs[0]? == some (rawInt _)) = true then _ else _) Q E s
           rw [if_neg (by intro h; rw [hn, Bool.false_and] at h; cases h)]
           exact wpAny_pure hQ))
def Itl (K : PySem.W.Frag) (a : Addr) : It :=
  ⟨fun i H => ∃ xs x, SqL K H a xs ∧ xs[i]? = some x, fun i H x H' => H' = H ∧ ∀ xs, SqL K H a xs → xs[i]? = some x, fun i H => ∃ xs, SqL K H a xs ∧ xs.length ≤ i⟩
def Itt (K : PySem.W.Frag) (a : Addr) : It :=
  ⟨fun i H => ∃ xs x, SqT K H a xs ∧ xs[i]? = some x, fun i H x H' => H' = H ∧ ∀ xs, SqT K H a xs → xs[i]? = some x, fun i H => ∃ xs, SqT K H a xs ∧ xs.length ≤ i⟩
def Itr (lo : Int) (n : Nat) : It := ⟨fun i _ => i < n, fun i H x H' => H' = H ∧ x = .int (lo + i), fun i _ => n ≤ i⟩
theorem turn_list {P : Program} {w : World} {K : PySem.W.Frag} {tg : Expr} (a it : Addr) : Turn P w K tg (Itl K a) [it] it (fun i h => h.IsListIter it a i) where
  mem := by simp
  obj := fun i h st b hb => by
    have e : b = it := by simpa using hb
    subst e
    obtain ⟨o, e, c, d⟩ := st
    exact ⟨o, e, fun v z => by rw [d] at z; cases z⟩
  keep := fun i h h' st k => st.at fun o e => k it (by simp) o e
  item := by
    intro X hP hw hK hc i pins s σ H E I hf st hg
    subst hP hw hK
    obtain ⟨xs, x, hq, hx⟩ := hg
    obtain ⟨its, rv, p, hz⟩ := I.list hq
    obtain ⟨u, hu, ru⟩ := rv.get hx
    obtain ⟨f0, f1, f2, f3, f4, f5⟩ := hf it (by simp)
    refine wpAny_pyNext_list_item st p.isList (x := u) (by simpa using hu) fun h' st' sb => ?_
    have I1 : Inv X pins σ H { s with heap := h' } := I.turned (t' := s.toks) (fun b o hb e => (sb.2 b hb).trans e) f0 f1 f3 f4 f5
    obtain ⟨o, e, c, d⟩ := id st'
    exact ⟨u, rfl, go_of (s := { s with heap := h' }) e c d (by decide) ⟨x, H, I1, ru, ⟨rfl, fun ys hy => by rw [I.list_inj hy hq]; exact hx⟩, st', fun b hb => (hf b hb).1⟩⟩
  done := by
    intro X hP hw hK hc i pins s σ H E I hf st hg
    subst hP hw hK
    obtain ⟨xs, hq, hx⟩ := hg
    obtain ⟨its, rv, p, hz⟩ := I.list hq
    obtain ⟨f0, f1, f2, f3, f4, f5⟩ := hf it (by simp)
    have hl := rv.length
    exact wpAny_pyNext_list_end (I.ok.hd hc) st p.isList (by simp; omega) fun h' eb => ⟨rfl, I.turned (t' := s.toks) (fun b o hb e => eb b o hb e) f0 f1 f3 f4 f5⟩
  self := fun _ _ _ _ _ st h => wpAny_pyIter_listiter st h
theorem turn_tuple {P : Program} {w : World} {K : PySem.W.Frag} {tg : Expr} (a it : Addr) : Turn P w K tg (Itt K a) [it] it (fun i h => h.IsTupleIter it a i) where
  mem := by simp
  obj := fun i h st b hb => by
    have e : b = it := by simpa using hb
    subst e
    obtain ⟨o, e, c, d⟩ := st
    exact ⟨o, e, fun v z => by rw [d] at z; cases z⟩
  keep := fun i h h' st k => st.at fun o e => k it (by simp) o e
  item := by
    intro X hP hw hK hc i pins s σ H E I hf st hg
    subst hP hw hK
    obtain ⟨xs, x, hq, hx⟩ := hg
    obtain ⟨its, rv, p, hz⟩ := I.tuple hq
    obtain ⟨u, hu, ru⟩ := rv.get hx
    obtain ⟨f0, f1, f2, f3, f4, f5⟩ := hf it (by simp)
    refine wpAny_pyNext_tuple_item st (show s.heap.IsTuple a its.toArray from p) (x := u) (by simpa using hu) fun h' st' sb => ?_
    have I1 : Inv X pins σ H { s with heap := h' } := I.turned (t' := s.toks) (fun b o hb e => (sb.2 b hb).trans e) f0 f1 f3 f4 f5
    obtain ⟨o, e, c, d⟩ := id st'
    exact ⟨u, rfl, go_of (s := { s with heap := h' }) e c d (by decide) ⟨x, H, I1, ru, ⟨rfl, fun ys hy => by rw [I.tuple_inj hy hq]; exact hx⟩, st', fun b hb => (hf b hb).1⟩⟩
  done := by
    intro X hP hw hK hc i pins s σ H E I hf st hg
    subst hP hw hK
    obtain ⟨xs, hq, hx⟩ := hg
    obtain ⟨its, rv, p, hz⟩ := I.tuple hq
    obtain ⟨f0, f1, f2, f3, f4, f5⟩ := hf it (by simp)
    have hl := rv.length
    exact wpAny_pyNext_tuple_end (I.ok.hd hc) st (show s.heap.IsTuple a its.toArray from p) (by simp; omega) fun h' eb => ⟨rfl, I.turned (t' := s.toks) (fun b o hb e => eb b o hb e) f0 f1 f3 f4 f5⟩
  self := fun _ _ _ _ _ st h => wpAny_pyIter_tupleiter st h
theorem turn_range {P : Program} {w : World} {K : PySem.W.Frag} {tg : Expr} (it : Addr) (lo : Int) (n : Nat) : Turn P w K tg (Itr lo n) [it] it (fun i h => IsRangeIter h it (lo + (i : Nat) * 1) ((n : Int) - (i : Nat)) 1) where
  mem := by simp
  obj := fun i h st b hb => by
    have e : b = it := by simpa using hb
    subst e
    exact ⟨_, st, fun v z => by
      have z' : Data.fields _ = Data.cell v := z
      cases z'⟩
  keep := fun i h h' st k => k it (by simp) _ st
  item := by
    intro X hP hw hK hc i pins s σ H E I hf st hg
    subst hP hw hK
    obtain ⟨f0, f1, f2, f3, f4, f5⟩ := hf it (by simp)
    have W := Walks.range (prog := X.prog) (w := X.w) (I.ok.hd hc) it lo 1 n
    refine W.item i s _ _ hg st fun v h' tk hv st' kk => ?_
    obtain ⟨t, rfl⟩ := hv
    have I1 : Inv X pins σ H { s with heap := h', toks := tk } := I.turned (fun b o hb e => kk b o (by simpa using hb) e) f0 f1 f3 f4 f5
    refine ⟨_, rfl, go_of (s := { s with heap := h', toks := tk }) (n := "range_iterator") st' rfl rfl (by decide) ⟨.int (lo + i), H, I1, ⟨t, ?_⟩, ⟨rfl, rfl⟩, st', fun b hb => (hf b hb).1⟩⟩
    rw [Int.mul_one]
  done := by
    intro X hP hw hK hc i pins s σ H E I hf st hg
    subst hP hw hK
    obtain ⟨f0, f1, f2, f3, f4, f5⟩ := hf it (by simp)
    exact wpAny_pyNext_range_end (I.ok.hd hc) st (by have : n ≤ i := hg; omega) fun h' eb => ⟨rfl, I.turned (t' := s.toks) (fun b o hb e => eb b o hb e) f0 f1 f3 f4 f5⟩
  self := fun _ _ _ _ _ st h => wpAny_pyIter_rangeiter st h
end L2
namespace L2
open PySem PySem.Spec PyProof.Rows
section
variable {X : Cx} {tg : Expr}
def iList (K : PySem.W.Frag) (tl : TE) : TI := fun σ H R => tl σ H fun x H1 => ∃ a, x = .ref a ∧ (∃ xs, SqL K H1 a xs) ∧ R (Itl K a) H1
def iTup (K : PySem.W.Frag) (tl : TE) : TI := fun σ H R => tl σ H fun x H1 => ∃ a, x = .ref a ∧ (∃ xs, SqT K H1 a xs) ∧ R (Itt K a) H1
theorem pi_list {l : Expr} {tl : TE} (hl : PE X l tl) : PI X tg l (iList X.K tl) := by
  intro pins s σ H R I h
  refine thn (hl pins s σ H _ I h) fun v s1 ⟨x, H1, I1, r1, q1⟩ => ?_
  obtain ⟨a, e, ⟨xs, hq⟩, q⟩ := q1
  subst e
  cases r1
  obtain ⟨its, rv, p, hz⟩ := I1.list hq
  refine wpAny_pyIter_list p.isList ?_
  refine ⟨s1.heap.objs.size, [s1.heap.objs.size], _, _, H1, rfl, I1.kept (t' := s1.toks) fun b o e => Heap.get?_push_of_some _ e, turn_list a _, ⟨_, Heap.get?_push_size _ rfl, rfl, rfl⟩, fun b hb => ?_, q⟩
  have e : b = s1.heap.objs.size := by simpa using hb
  subst e
  exact I1.fpOk (Nat.le_refl _) (I1.hok.fresh (Nat.le_refl _))
theorem pi_tup {l : Expr} {tl : TE} (hl : PE X l tl) : PI X tg l (iTup X.K tl) := by
  intro pins s σ H R I h
  refine thn (hl pins s σ H _ I h) fun v s1 ⟨x, H1, I1, r1, q1⟩ => ?_
  obtain ⟨a, e, ⟨xs, hq⟩, q⟩ := q1
  subst e
  cases r1
  obtain ⟨its, rv, p, hz⟩ := I1.tuple hq
  refine wpAny_pyIter_tuple (show s1.heap.IsTuple a its.toArray from p) ?_
  refine ⟨s1.heap.objs.size, [s1.heap.objs.size], _, _, H1, rfl, I1.kept (t' := s1.toks) fun b o e => Heap.get?_push_of_some _ e, turn_tuple a _, ⟨_, Heap.get?_push_size _ rfl, rfl, rfl⟩, fun b hb => ?_, q⟩
  have e : b = s1.heap.objs.size := by simpa using hb
  subst e
  exact I1.fpOk (Nat.le_refl _) (I1.hok.fresh (Nat.le_refl _))
theorem range_it {pins : List (Addr × Obj)} {σ : St} {H : Hp} {s : Shared} {R : It → Hp → Prop} {E : Value → Shared → Prop} {lo hi : Int} {t u v : Tok} {tk : Nat} (I : Inv X pins σ H s) (h1 : -(2 ^ 62) ≤ lo) (h2 : lo < 2 ^ 62) (h3 : -(2 ^ 62) ≤ hi) (h4 : hi < 2 ^ 62)
    (q : R (Itr lo (hi - lo).toNat) H) : wpAny (model X.prog X.w) X.A (pyIter (.ref s.heap.objs.size)) (PIE X pins σ tg R) E { s with heap := s.heap.push { cls := .type "range", data := .fields #[.int lo t, .int hi u, .int 1 v] }, toks := tk } := by
  refine wpAny_pyIter_range (IsRange.new ..) (small_one h1 h2 h3 h4) ?_
  have I1 : Inv X pins σ H { s with heap := s.heap.push { cls := .type "range", data := .fields #[.int lo t, .int hi u, .int 1 v] }, toks := tk } := I.kept fun b o e => Heap.get?_push_of_some _ e
  refine ⟨(s.heap.push { cls := .type "range", data := .fields #[.int lo t, .int hi u, .int 1 v] }).objs.size, [(s.heap.push { cls := .type "range", data := .fields #[.int lo t, .int hi u, .int 1 v] }).objs.size], _, _, H, rfl,
    I1.kept (t' := tk) fun b o e => Heap.get?_push_of_some _ e, turn_range _ lo (hi - lo).toNat, ?_, fun b hb => ?_, q⟩
  · have e1 : lo + ((0 : Nat) : Int) * 1 = lo := by simp
    have e2 : (((hi - lo).toNat : Nat) : Int) - ((0 : Nat) : Int) = Builtin.Range.rangeSize lo hi 1 := by rw [rangeSize_one]; split <;> omega
    show IsRangeIter _ _ (lo + ((0 : Nat) : Int) * 1) ((((hi - lo).toNat : Nat) : Int) - ((0 : Nat) : Int)) 1
    rw [e1, e2]
    exact Heap.get?_push_size _ rfl
  · have e : b = (s.heap.push { cls := .type "range", data := .fields #[.int lo t, .int hi u, .int 1 v] }).objs.size := by simpa using hb
    subst e
    exact I1.fpOk (Nat.le_refl _) (I1.hok.fresh (Nat.le_refl _))
def iRng1 (ta : TA) : TI := fun σ H R => ta σ H fun vs H1 => ∃ j : Int, vs = [.int j] ∧ -(2 ^ 62) ≤ j ∧ j < 2 ^ 62 ∧ R (Itr 0 j.toNat) H1
theorem pi_range1 {a : Expr} {ta : TA} {p pos : Pos} (hg : Gl X "range") (hm : X.mg "range" = none) (ha : PA X [a] ta) (hs : starEach [a] X.env = [(false, eval a X.env)] := by rfl) : PI X tg (.Call (.Name "range" p) [a] [] pos) (iRng1 ta) := by
  intro pins s σ H R I h
  refine Call_ (ld_blt I hg hm boot_range (PyProof.Rows.callWith_type1 (thn (ha pos pins s σ H _ I h) fun us s1 ⟨vs, H1, I1, r1, q1⟩ => ?_) hs rfl))
  obtain ⟨j, e, q1, q2, q⟩ := q1
  subst e
  cases r1 with
  | cons r rr =>
    cases rr
    obtain ⟨t, rfl⟩ := r
    exact call_range_1 (range_it I1 (by omega) (by omega) q1 q2 (by simpa using q))
def tFor (wi : TI) (g : TG) (tb : TS) : TS := fun D σ H => wi σ H fun J H1 => ∃ W : Nat → Nat → St → Hp → Prop, (∃ m, W 0 m σ H1) ∧ ∀ i m σ H, W i m σ H →
  (J.stop i H ∧ D.nx σ H) ∨ (J.go i H ∧ ∃ N : St → Hp → Prop, (∀ σ' H', N σ' H' → ∃ m', m' < m ∧ W (i + 1) m' σ' H') ∧ ∀ x H', J.yld i H x H' → g x σ H' fun σ2 H2 => tb { D with nx := N, ct := N, bk := D.nx } σ2 H2)
def pinsAt (fp : List Addr) (h : Heap) : List (Addr × Obj) := fp.filterMap fun b => (h.get? b).map fun o => (b, o)
theorem mem_pinsAt {fp : List Addr} {h : Heap} {b : Addr} {o : Obj} (hb : b ∈ fp) (e : h.get? b = some o) : (b, o) ∈ pinsAt fp h := List.mem_filterMap.mpr ⟨b, hb, by rw [e]; rfl⟩
theorem of_pinsAt {fp : List Addr} {h : Heap} {p : Addr × Obj} (hp : p ∈ pinsAt fp h) : p.1 ∈ fp ∧ h.get? p.1 = some p.2 := by
  obtain ⟨b, hb, e⟩ := List.mem_filterMap.mp hp
  cases q : h.get? b with
  | none => rw [q] at e; cases e
  | some o =>
    rw [q] at e
    have e' : (b, o) = p := Option.some.inj e
    subst e'
    exact ⟨hb, q⟩
theorem Inv.pinned {pins : List (Addr × Obj)} {σ : St} {H : Hp} {s : Shared} {fp : List Addr} (I : Inv X pins σ H s) (hf : ∀ b ∈ fp, FpOk X pins H b) (ho : ∀ b ∈ fp, ∃ o, s.heap.get? b = some o ∧ ∀ v, o.data ≠ .cell v) : Inv X (pins ++ pinsAt fp s.heap) σ H s :=
  I.pins_of fun p hp => (List.mem_append.mp hp).elim (fun z => I.pin p (List.mem_append_right _ z)) fun z => by
    obtain ⟨hb, e⟩ := of_pinsAt z
    obtain ⟨f0, f1, f2, _⟩ := hf p.1 hb
    obtain ⟨o, e', d⟩ := ho p.1 hb
    rw [e] at e'; cases e'
    exact ⟨e, f0, f1, f2, d⟩
theorem Inv.unpinned {pins pl : List (Addr × Obj)} {σ : St} {H : Hp} {s : Shared} (I : Inv X (pins ++ pl) σ H s) : Inv X pins σ H s := I.pins_of fun p hp => I.pin p (List.mem_append_right _ (List.mem_append_left _ hp))
theorem ps_for {iter : Expr} {body : List Stmt} {wi : TI} {g : TG} {tb : TS} {pos : Pos} (hp : PassesOwn (model X.prog X.w) X.A X.env X.xe) (hc : X.calm = true) (hi : PI X tg iter wi) (hg : PG X tg g) (hb : PSs X body tb)
    (hs : ∀ x, foldedSetIterable iter X.env x = pure x := by intro _; rfl) : PS X (.For tg iter body [] pos) (tFor wi g tb) := by
  intro pins s σ H D I h
  refine wpAny_For (thn (hi pins s σ H _ I h) fun v s1 h1 => thn h1 fun itv s2 h2 => ?_) hs
  obtain ⟨it, fp, tn, J, H2, e, I2, T, st2, f2, W, ⟨m0, w0⟩, turn⟩ := h2
  subst e
  have stat : ∀ {H' : Hp}, (∀ b ∈ fp, H' b = none) → ∀ b ∈ fp, FpOk X pins H' b := fun hn b hb => ⟨hn b hb, (f2 b hb).2⟩
  refine codeAny_forLoop_any (fun n s' => ∃ i σ' H', Inv X pins σ' H' s' ∧ tn i s'.heap ∧ (∀ b ∈ fp, H' b = none) ∧ W i n σ' H') ?_ m0 ⟨0, σ, H2, I2, st2, fun b hb => (f2 b hb).1, w0⟩
  rintro n s3 ⟨i, σ3, H3, I3, st3, fr3, w3⟩
  rcases turn i n σ3 H3 w3 with ⟨stop, qn⟩ | ⟨go, N, hN, step⟩
  · refine wpAny_passesOwn hp (thn (T.done X rfl rfl rfl hc i pins s3 σ3 H3 X.xe I3 (stat fr3) st3 stop) fun r s4 ⟨hr, I4⟩ => ?_)
    subst hr
    exact wpAny_execs_nil ⟨σ3, H3, I4, qn⟩
  · refine wpAny_passesOwn hp (thn (T.item X rfl rfl rfl hc i pins s3 σ3 H3 X.xe I3 (stat fr3) st3 go) fun r s4 ⟨u, hr, h4⟩ => ?_)
    subst hr
    refine wpAny_passesOwn hp (thn h4 fun _ s5 ⟨x, H5, I5, r5, y5, st5, fr5⟩ => ?_)
    have I5' := I5.pinned (stat fr5) (T.obj _ _ st5)
    refine wpAny_passesOwn hp (thn (hg _ s5 σ3 H5 x u _ I5' r5 (step x H5 y5)) fun _ s6 ⟨σ6, H6, I6, q6⟩ => ?_)
    refine wpAny_passesOwn hp (thn (hb _ s6 σ6 H6 _ I6 q6) fun f s7 q7 => ?_)
    have again : ∀ {σ7 : St} {H7 : Hp}, Inv X (pins ++ pinsAt fp s5.heap) σ7 H7 s7 → N σ7 H7 → ∃ m, m < n ∧ ∃ i σ' H', Inv X pins σ' H' s7 ∧ tn i s7.heap ∧ (∀ b ∈ fp, H' b = none) ∧ W i m σ' H' := fun {σ7 H7} I7 n7 => by
      obtain ⟨m', hm, w7⟩ := hN σ7 H7 n7
      refine ⟨m', hm, i + 1, σ7, H7, I7.unpinned, T.keep _ _ _ st5 fun b hb o e => (I7.pin (b, o) (List.mem_append_right _ (List.mem_append_right _ (mem_pinsAt hb e)))).1, fun b hb => ?_, w7⟩
      obtain ⟨o, e, d⟩ := T.obj _ _ st5 b hb
      exact (I7.pin (b, o) (List.mem_append_right _ (List.mem_append_right _ (mem_pinsAt hb e)))).2.1
    cases f with
    | next => obtain ⟨σ7, H7, I7, n7⟩ := q7; exact again I7 n7
    | cont => obtain ⟨σ7, H7, I7, n7⟩ := q7; exact again I7 n7
    | brk => obtain ⟨σ7, H7, I7, q7⟩ := q7; exact ⟨σ7, H7, I7.unpinned, q7⟩
    | ret v => obtain ⟨x7, σ7, H7, I7, r7, q7⟩ := q7; exact ⟨x7, σ7, H7, I7.unpinned, r7, q7⟩
end
theorem for_list {K : PySem.W.Frag} {a : Addr} {xs : List V} {g : TG} {tb : TS} {D : Ends} {σ : St} {H : Hp} (Pv : Nat → St → Hp → Prop) (h0 : Pv 0 σ H) (hl : ∀ i σ H, i ≤ xs.length → Pv i σ H → SqL K H a xs)
    (hs : ∀ i x σ H, xs[i]? = some x → Pv i σ H → g x σ H fun σ2 H2 => tb { D with nx := Pv (i + 1), ct := Pv (i + 1), bk := D.nx } σ2 H2) (hd : ∀ σ H, Pv xs.length σ H → D.nx σ H) :
    ∃ W : Nat → Nat → St → Hp → Prop, (∃ m, W 0 m σ H) ∧ ∀ i m σ H, W i m σ H →
      ((Itl K a).stop i H ∧ D.nx σ H) ∨ ((Itl K a).go i H ∧ ∃ N : St → Hp → Prop, (∀ σ' H', N σ' H' → ∃ m', m' < m ∧ W (i + 1) m' σ' H') ∧ ∀ x H', (Itl K a).yld i H x H' → g x σ H' fun σ2 H2 => tb { D with nx := N, ct := N, bk := D.nx } σ2 H2) := by
  refine ⟨fun i m σ H => m = xs.length - i ∧ i ≤ xs.length ∧ Pv i σ H, ⟨xs.length, by simp, Nat.zero_le _, h0⟩, ?_⟩
  rintro i m σ H ⟨rfl, hi, p⟩
  have q := hl i σ H hi p
  by_cases hlt : i < xs.length
  · refine .inr ⟨⟨xs, xs[i], q, by simp [hlt]⟩, Pv (i + 1), fun σ' H' p' => ⟨xs.length - (i + 1), by omega, rfl, hlt, p'⟩, fun x H' y => ?_⟩
    obtain ⟨e, y⟩ := y
    subst e
    exact hs i x σ _ (y xs q) p
  · have e : i = xs.length := by omega
    subst e
    exact .inl ⟨⟨xs, q, Nat.le_refl _⟩, hd σ H p⟩
theorem for_tup {K : PySem.W.Frag} {a : Addr} {xs : List V} {g : TG} {tb : TS} {D : Ends} {σ : St} {H : Hp} (Pv : Nat → St → Hp → Prop) (h0 : Pv 0 σ H) (hl : ∀ i σ H, i ≤ xs.length → Pv i σ H → SqT K H a xs)
    (hs : ∀ i x σ H, xs[i]? = some x → Pv i σ H → g x σ H fun σ2 H2 => tb { D with nx := Pv (i + 1), ct := Pv (i + 1), bk := D.nx } σ2 H2) (hd : ∀ σ H, Pv xs.length σ H → D.nx σ H) :
    ∃ W : Nat → Nat → St → Hp → Prop, (∃ m, W 0 m σ H) ∧ ∀ i m σ H, W i m σ H →
      ((Itt K a).stop i H ∧ D.nx σ H) ∨ ((Itt K a).go i H ∧ ∃ N : St → Hp → Prop, (∀ σ' H', N σ' H' → ∃ m', m' < m ∧ W (i + 1) m' σ' H') ∧ ∀ x H', (Itt K a).yld i H x H' → g x σ H' fun σ2 H2 => tb { D with nx := N, ct := N, bk := D.nx } σ2 H2) := by
  refine ⟨fun i m σ H => m = xs.length - i ∧ i ≤ xs.length ∧ Pv i σ H, ⟨xs.length, by simp, Nat.zero_le _, h0⟩, ?_⟩
  rintro i m σ H ⟨rfl, hi, p⟩
  have q := hl i σ H hi p
  by_cases hlt : i < xs.length
  · refine .inr ⟨⟨xs, xs[i], q, by simp [hlt]⟩, Pv (i + 1), fun σ' H' p' => ⟨xs.length - (i + 1), by omega, rfl, hlt, p'⟩, fun x H' y => ?_⟩
    obtain ⟨e, y⟩ := y
    subst e
    exact hs i x σ _ (y xs q) p
  · have e : i = xs.length := by omega
    subst e
    exact .inl ⟨⟨xs, q, Nat.le_refl _⟩, hd σ H p⟩
theorem for_range {lo : Int} {n : Nat} {g : TG} {tb : TS} {D : Ends} {σ : St} {H : Hp} (Pv : Nat → St → Hp → Prop) (h0 : Pv 0 σ H)
    (hs : ∀ i σ H, i < n → Pv i σ H → g (.int (lo + i)) σ H fun σ2 H2 => tb { D with nx := Pv (i + 1), ct := Pv (i + 1), bk := D.nx } σ2 H2) (hd : ∀ σ H, Pv n σ H → D.nx σ H) :
    ∃ W : Nat → Nat → St → Hp → Prop, (∃ m, W 0 m σ H) ∧ ∀ i m σ H, W i m σ H →
      ((Itr lo n).stop i H ∧ D.nx σ H) ∨ ((Itr lo n).go i H ∧ ∃ N : St → Hp → Prop, (∀ σ' H', N σ' H' → ∃ m', m' < m ∧ W (i + 1) m' σ' H') ∧ ∀ x H', (Itr lo n).yld i H x H' → g x σ H' fun σ2 H2 => tb { D with nx := N, ct := N, bk := D.nx } σ2 H2) := by
  refine ⟨fun i m σ H => m = n - i ∧ i ≤ n ∧ Pv i σ H, ⟨n, by simp, Nat.zero_le _, h0⟩, ?_⟩
  rintro i m σ H ⟨rfl, hi, p⟩
  by_cases hlt : i < n
  · refine .inr ⟨hlt, Pv (i + 1), fun σ' H' p' => ⟨n - (i + 1), by omega, rfl, hlt, p'⟩, fun x H' y => ?_⟩
    obtain ⟨e, y⟩ := y
    subst e y
    exact hs i σ _ hlt p
  · have e : i = n := by omega
    subst e
    exact .inl ⟨Nat.le_refl _, hd σ H p⟩
end L2
namespace L2
open PySem PySem.Spec PyProof.Rows
abbrev R2 := V → V → Hp → VK → Prop
def OpR (X : Cx) (f : Value → Value → Sem Value) (r : R2) : Prop :=
  ∀ (pins : List (Addr × Obj)) (s : Shared) (σ : St) (H : Hp) (x y : V) (v u : Value) (Q : VK), Inv X pins σ H s → RelV x v → RelV y u → r x y H Q →
    wpAny (model X.prog X.w) X.A (f v u) (EP X pins σ Q) X.xe s
def UnR (X : Cx) (f : Value → Sem Value) (r : V → Hp → VK → Prop) : Prop :=
  ∀ (pins : List (Addr × Obj)) (s : Shared) (σ : St) (H : Hp) (x : V) (v : Value) (Q : VK), Inv X pins σ H s → RelV x v → r x H Q →
    wpAny (model X.prog X.w) X.A (f v) (EP X pins σ Q) X.xe s
def CallR (X : Cx) (f : Value) (r : List V → Hp → VK → Prop) : Prop :=
  ∀ (pins : List (Addr × Obj)) (s : Shared) (σ : St) (H : Hp) (xs : List V) (us : List Value) (Q : VK), Inv X pins σ H s → Vals xs us → r xs H Q →
    wpAny (model X.prog X.w) X.A (call f us) (EP X pins σ Q) X.xe s
def tOp (r : R2) (ta tb : TE) : TE := fun σ H Q => ta σ H fun x H1 => tb σ H1 fun y H2 => r x y H2 Q
def tUn (r : V → Hp → VK → Prop) (ta : TE) : TE := fun σ H Q => ta σ H fun x H1 => r x H1 Q
def rI (C : Int → Int → Prop) (g : Int → Int → V) : R2 := fun x y H Q => ∃ i j, x = .int i ∧ y = .int j ∧ C i j ∧ Q (g i j) H
def rI0 (g : Int → Int → V) : R2 := fun x y H Q => ∃ i j, x = .int i ∧ y = .int j ∧ Q (g i j) H
def rU (g : Int → V) : V → Hp → VK → Prop := fun x H Q => ∃ i, x = .int i ∧ Q (g i) H
section
variable {X : Cx} {a b c : Expr} {ta tb tc : TE} {pos : Pos}
theorem binT (ha : PE X a ta) (hb : PE X b tb) {pins : List (Addr × Obj)} {s : Shared} {σ : St} {H : Hp} {R : V → V → Hp → Prop} (I : Inv X pins σ H s)
    (h : ta σ H fun x H1 => tb σ H1 fun y H2 => R x y H2) {Q : Value → Shared → Prop} {f : Value → Value → Sem Value}
    (hf : ∀ v u s2 x y H2, Inv X pins σ H2 s2 → RelV x v → RelV y u → R x y H2 → wpAny (model X.prog X.w) X.A (f v u) Q X.xe s2) :
    wpAny (model X.prog X.w) X.A (eval a X.env) (fun v s₁ => wpAny (model X.prog X.w) X.A (eval b X.env) (fun u s₂ => wpAny (model X.prog X.w) X.A (f v u) Q X.xe s₂) X.xe s₁) X.xe s := by
  refine thn (ha pins s σ H _ I h) fun v s1 ⟨x, H1, I1, r1, q1⟩ => ?_
  refine thn (hb pins s1 σ H1 _ I1 q1) fun u s2 ⟨y, H2, I2, r2, q2⟩ => ?_
  exact hf v u s2 x y H2 I2 r1 r2 q2
theorem pe_op {op : Operator} {r : R2} (ho : OpR X (binaryOp op) r) (ha : PE X a ta) (hb : PE X b tb) : PE X (.BinOp a op b pos) (tOp r ta tb) := by
  intro pins s σ H Q I h
  exact wpAny_BinOp (binT ha hb I h fun v u s2 x y H2 I2 rx ry q => ho pins s2 σ H2 x y v u Q I2 rx ry q)
theorem pe_un {op : UnaryOp} {r : V → Hp → VK → Prop} (ho : UnR X (unaryOp op) r) (ha : PE X a ta) : PE X (.UnaryOp op a pos) (tUn r ta) := by
  intro pins s σ H Q I h
  exact UnaryOp_ (thn (ha pins s σ H _ I h) fun v s1 ⟨x, H1, I1, r1, q1⟩ => ho pins s1 σ H1 x v Q I1 r1 q1)
theorem opI {f : Value → Value → Sem Value} {C : Int → Int → Prop} {g : Int → Int → Int}
    (rule : ∀ (i j : Int) (t u : Tok) (s : Shared) (Q : Value → Shared → Prop) (E : Value → Shared → Prop), C i j → Q (.int (g i j) s.toks) { s with toks := s.toks + 1 } → wpAny (model X.prog X.w) X.A (f (.int i t) (.int j u)) Q E s) :
    OpR X f (rI C fun i j => .int (g i j)) := by
  intro pins s σ H x y v u Q I rx ry h
  obtain ⟨i, j, rfl, rfl, hc, q⟩ := h
  obtain ⟨t, rfl⟩ := rx
  obtain ⟨t', rfl⟩ := ry
  exact rule i j t t' s _ _ hc ⟨.int (g i j), H, I.tok _, ⟨_, rfl⟩, q⟩
theorem opI0 {f : Value → Value → Sem Value} {g : Int → Int → Int}
    (rule : ∀ (i j : Int) (t u : Tok) (s : Shared) (Q : Value → Shared → Prop) (E : Value → Shared → Prop), Q (.int (g i j) s.toks) { s with toks := s.toks + 1 } → wpAny (model X.prog X.w) X.A (f (.int i t) (.int j u)) Q E s) :
    OpR X f (rI0 fun i j => .int (g i j)) := by
  intro pins s σ H x y v u Q I rx ry h
  obtain ⟨i, j, rfl, rfl, q⟩ := h
  obtain ⟨t, rfl⟩ := rx
  obtain ⟨t', rfl⟩ := ry
  exact rule i j t t' s _ _ ⟨.int (g i j), H, I.tok _, ⟨_, rfl⟩, q⟩
theorem opB0 {f : Value → Value → Sem Value} {g : Int → Int → Bool}
    (rule : ∀ (i j : Int) (t u : Tok) (s : Shared) (Q : Value → Shared → Prop) (E : Value → Shared → Prop), Q (.bool (g i j)) s → wpAny (model X.prog X.w) X.A (f (.int i t) (.int j u)) Q E s) :
    OpR X f (rI0 fun i j => .bl (g i j)) := by
  intro pins s σ H x y v u Q I rx ry h
  obtain ⟨i, j, rfl, rfl, q⟩ := h
  obtain ⟨t, rfl⟩ := rx
  obtain ⟨t', rfl⟩ := ry
  exact rule i j t t' s _ _ ⟨.bl (g i j), H, I, rfl, q⟩
def CDiv (i j : Int) : Prop := 0 < j ∧ j < 1073741824
def CPow (i j : Int) : Prop := 0 ≤ j ∧ j ≤ 1000000 ∧ i.natAbs < 2 ^ 64
def CMul (i j : Int) : Prop := (-(2 ^ 64) < i ∧ i < 2 ^ 64) ∨ (-(2 ^ 64) < j ∧ j < 2 ^ 64)
theorem CMul.ok {i j : Int} (h : CMul i j) : IntMulOk i j := by
  rcases h with ⟨h1, h2⟩ | ⟨h1, h2⟩
  · exact .of_left (intBits_le_64 h1 h2)
  · exact .of_right (intBits_le_64 h1 h2)
theorem op_add : OpR X (binaryOp .Add) (rI0 fun i j => .int (i + j)) := opI0 fun _ _ _ _ _ _ _ q => add_int q
theorem op_sub : OpR X (binaryOp .Sub) (rI0 fun i j => .int (i - j)) := opI0 fun _ _ _ _ _ _ _ q => sub_int q
theorem op_mul : OpR X (binaryOp .Mult) (rI CMul fun i j => .int (i * j)) := opI fun _ _ _ _ _ _ _ hc q => mul_int q hc.ok
theorem op_fdiv : OpR X (binaryOp .FloorDiv) (rI CDiv fun i j => .int (i / j)) := opI fun i j _ _ _ _ _ hc q => by
  have h1 : (0 : Int) < j := hc.1
  have h2 : j < 1073741824 := hc.2
  exact floordiv_int (by omega) (by rw [Int.fdiv_eq_ediv_of_nonneg i (by omega)]; exact q) (.inl (PyProof.noPylong_small (by omega)))
theorem op_mod : OpR X (binaryOp .Mod) (rI (fun _ j => 0 < j) fun i j => .int (i % j)) := opI fun i j _ _ _ _ _ hc q => by
  have h1 : (0 : Int) < j := hc
  exact mod_int' (by omega) (by rw [Int.fmod_eq_emod_of_nonneg i (by omega)]; exact q)
theorem op_pow : OpR X (binaryOp .Pow) (rI CPow fun i j => .int (i ^ j.toNat)) := opI fun _ _ _ _ _ _ _ hc q => pow_int_small hc.1 hc.2.1 hc.2.2 q
theorem unI {f : Value → Sem Value} {g : Int → Int}
    (rule : ∀ (i : Int) (t : Tok) (s : Shared) (Q : Value → Shared → Prop) (E : Value → Shared → Prop), Q (.int (g i) s.toks) { s with toks := s.toks + 1 } → wpAny (model X.prog X.w) X.A (f (.int i t)) Q E s) :
    UnR X f (rU fun i => .int (g i)) := by
  intro pins s σ H x v Q I rx h
  obtain ⟨i, rfl, q⟩ := h
  obtain ⟨t, rfl⟩ := rx
  exact rule i t s _ _ ⟨.int (g i), H, I.tok _, ⟨_, rfl⟩, q⟩
theorem un_neg : UnR X (unaryOp .USub) (rU fun i => .int (-i)) := unI fun _ _ _ _ _ q => neg_int q
end
def scal : V → V → Bool
  | .non, .non => true | .non, .int _ => true | .int _, .non => true | .non, .bl _ => true | .bl _, .non => true | .non, .str _ => true | .str _, .non => true
  | .int _, .int _ => true | .bl _, .bl _ => true | .str _, .str _ => true | .byt _, .byt _ => true
  | .int _, .str _ => true | .str _, .int _ => true | .bl _, .str _ => true | .str _, .bl _ => true
  | _, _ => false
def rEq : R2 := fun x y H Q => scal x y = true ∧ Q (.bl (decide (x = y))) H
def rNe : R2 := fun x y H Q => scal x y = true ∧ Q (.bl (!decide (x = y))) H
theorem dec_int {i j : Int} : decide (V.int i = V.int j) = (i == j) := by
  rw [Bool.eq_iff_iff]
  simp
theorem dec_bl {i j : Bool} : decide (V.bl i = V.bl j) = (i == j) := by
  rw [Bool.eq_iff_iff]
  simp
theorem dec_str {i j : Str} : decide (V.str i = V.str j) = (i == j) := by
  rw [Bool.eq_iff_iff]
  simp
theorem dec_byt {i j : Array UInt8} : decide (V.byt i = V.byt j) = (i.toList == j.toList) := by
  rw [Bool.eq_iff_iff]
  cases i
  cases j
  simp
section
variable {X : Cx} {a b c : Expr} {ta tb tc : TE} {pos : Pos}
theorem fin_bl {pins : List (Addr × Obj)} {σ : St} {H : Hp} {s : Shared} {Q : VK} {k k' : Bool} (I : Inv X pins σ H s) (q : Q (.bl k) H) (e : k = k') : EP X pins σ Q (.bool k') s := by
  subst e
  exact ⟨.bl k, H, I, rfl, q⟩
theorem op_eq : OpR X (compareOp .Eq) rEq := by
  intro pins s σ H x y v u Q I rx ry h
  obtain ⟨hs, q⟩ := h
  cases x with
  | non =>
    cases rx
    cases y with
    | non => cases ry; exact PySem.EqNone.eq_none_none (fin_bl I q (by simp))
    | bl j => cases ry; exact PySem.EqNone.eq_none_bool (fin_bl I q (by simp))
    | int j => obtain ⟨t', rfl⟩ := ry; exact PySem.EqNone.eq_none_int (fin_bl I q (by simp))
    | str j => obtain ⟨t', rfl⟩ := ry; exact PySem.EqNone.eq_none_str (fin_bl I q (by simp))
    | _ => exact absurd (show false = true from hs) Bool.false_ne_true
  | bl i =>
    cases rx
    cases y with
    | non => cases ry; exact PySem.EqNone.eq_bool_none (fin_bl I q (by simp))
    | bl j => cases ry; exact eq_bool (fin_bl I q dec_bl)
    | str j => obtain ⟨t', rfl⟩ := ry; exact PySem.EqMixed.eq_bool_str (fin_bl I q (by simp))
    | _ => exact absurd (show false = true from hs) Bool.false_ne_true
  | int i =>
    obtain ⟨t, rfl⟩ := rx
    cases y with
    | non => cases ry; exact PySem.EqNone.eq_int_none (fin_bl I q (by simp))
    | int j => obtain ⟨t', rfl⟩ := ry; exact eq_int (fin_bl I q dec_int)
    | str j => obtain ⟨t', rfl⟩ := ry; exact PySem.EqMixed.eq_int_str (fin_bl I q (by simp))
    | _ => exact absurd (show false = true from hs) Bool.false_ne_true
  | str i =>
    obtain ⟨t, rfl⟩ := rx
    cases y with
    | non => cases ry; exact PySem.EqNone.eq_str_none (fin_bl I q (by simp))
    | bl j => cases ry; exact PySem.EqMixed.eq_str_bool (fin_bl I q (by simp))
    | int j => obtain ⟨t', rfl⟩ := ry; exact PySem.EqMixed.eq_str_int (fin_bl I q (by simp))
    | str j => obtain ⟨t', rfl⟩ := ry; exact eq_str (fin_bl I q dec_str)
    | _ => exact absurd (show false = true from hs) Bool.false_ne_true
  | byt i =>
    obtain ⟨t, rfl⟩ := rx
    cases y with
    | byt j => obtain ⟨t', rfl⟩ := ry; exact PySem.W.eq_bytes (fin_bl I q dec_byt)
    | _ => exact absurd (show false = true from hs) Bool.false_ne_true
  | _ => cases y <;> exact absurd (show false = true from hs) Bool.false_ne_true
theorem op_ne : OpR X (compareOp .NotEq) rNe := by
  intro pins s σ H x y v u Q I rx ry h
  obtain ⟨hs, q⟩ := h
  cases x with
  | non =>
    cases rx
    cases y with
    | non => cases ry; exact PySem.EqNone.ne_none_none (fin_bl I q (by simp))
    | bl j => cases ry; exact PySem.EqNone.ne_none_bool (fin_bl I q (by simp))
    | int j => obtain ⟨t', rfl⟩ := ry; exact PySem.EqNone.ne_none_int (fin_bl I q (by simp))
    | str j => obtain ⟨t', rfl⟩ := ry; exact PySem.EqNone.ne_none_str (fin_bl I q (by simp))
    | _ => exact absurd (show false = true from hs) Bool.false_ne_true
  | bl i =>
    cases rx
    cases y with
    | non => cases ry; exact PySem.EqNone.ne_bool_none (fin_bl I q (by simp))
    | bl j => cases ry; exact ne_bool (fin_bl I q (congrArg not dec_bl))
    | str j => obtain ⟨t', rfl⟩ := ry; exact PySem.EqMixed.ne_bool_str (fin_bl I q (by simp))
    | _ => exact absurd (show false = true from hs) Bool.false_ne_true
  | int i =>
    obtain ⟨t, rfl⟩ := rx
    cases y with
    | non => cases ry; exact PySem.EqNone.ne_int_none (fin_bl I q (by simp))
    | int j => obtain ⟨t', rfl⟩ := ry; exact ne_int (fin_bl I q (congrArg not dec_int))
    | str j => obtain ⟨t', rfl⟩ := ry; exact PySem.EqMixed.ne_int_str (fin_bl I q (by simp))
    | _ => exact absurd (show false = true from hs) Bool.false_ne_true
  | str i =>
    obtain ⟨t, rfl⟩ := rx
    cases y with
    | non => cases ry; exact PySem.EqNone.ne_str_none (fin_bl I q (by simp))
    | bl j => cases ry; exact PySem.EqMixed.ne_str_bool (fin_bl I q (by simp))
    | int j => obtain ⟨t', rfl⟩ := ry; exact PySem.EqMixed.ne_str_int (fin_bl I q (by simp))
    | str j => obtain ⟨t', rfl⟩ := ry; exact ne_str (fin_bl I q (congrArg not dec_str))
    | _ => exact absurd (show false = true from hs) Bool.false_ne_true
  | byt i =>
    obtain ⟨t, rfl⟩ := rx
    cases y with
    | byt j => obtain ⟨t', rfl⟩ := ry; exact PySem.W.ne_bytes (fin_bl I q (congrArg not dec_byt))
    | _ => exact absurd (show false = true from hs) Bool.false_ne_true
  | _ => cases y <;> exact absurd (show false = true from hs) Bool.false_ne_true
theorem op_lt : OpR X (compareOp .Lt) (rI0 fun i j => .bl (decide (i < j))) := opB0 fun _ _ _ _ _ _ _ q => lt_int q
theorem op_le : OpR X (compareOp .LtE) (rI0 fun i j => .bl (decide (i ≤ j))) := opB0 fun _ _ _ _ _ _ _ q => le_int q
theorem op_gt : OpR X (compareOp .Gt) (rI0 fun i j => .bl (decide (j < i))) := opB0 fun _ _ _ _ _ _ _ q => gt_int q
theorem op_in_str : OpR X (compareOp .In) (fun x y H Q => ∃ i j, x = .str i ∧ y = .str j ∧ Q (.bl (!(Builtin.Str.occurrences j i 0 j.length 1).isEmpty)) H) := by
  intro pins s σ H x y v u Q I rx ry h
  obtain ⟨i, j, rfl, rfl, q⟩ := h
  obtain ⟨t, rfl⟩ := rx
  obtain ⟨t', rfl⟩ := ry
  exact in_str (fin_bl I q rfl)
theorem nomark (b : Expr) {op : CmpOp} (h : op ≠ .In := by decide) (h2 : op ≠ .NotIn := by decide) : behindInMarks op b = false := by
  have e1 : (op == CmpOp.In) = false := by cases op <;> first | rfl | exact absurd rfl h
  have e2 : (op == CmpOp.NotIn) = false := by cases op <;> first | rfl | exact absurd rfl h2
  cases b <;> simp [behindInMarks, e1, e2]
theorem pe_cmpR {op : CmpOp} {r : R2} (ho : OpR X (compareOp op) r) (ha : PE X a ta) (hb : PE X b tb) (hm : behindInMarks op b = false) : PE X (.Compare a [op] [b] pos) (tOp r ta tb) := by
  intro pins s σ H Q I h
  exact wpAny_Compare1 (binT ha hb I h fun v u s2 x y H2 I2 rx ry q => ho pins s2 σ H2 x y v u Q I2 rx ry q) hm
def tTest (t : TE) : TT := fun σ H Q => t σ H fun x H' => ∃ k, x = .bl k ∧ Q k H'
theorem pt_cmpR {op : CmpOp} {r : R2} (ho : OpR X (compareOp op) r) (ha : PE X a ta) (hb : PE X b tb) (hm : behindInMarks op b = false) : PT X (.Compare a [op] [b] pos) (tTest (tOp r ta tb)) := by
  intro pins s σ H Q I h
  refine wpAny_isTrue_Compare1 (thn (ha pins s σ H _ I h) fun v s1 ⟨x, H1, I1, r1, q1⟩ => thn (hb pins s1 σ H1 _ I1 q1) fun u s2 ⟨y, H2, I2, r2, q2⟩ =>
    thn (ho pins s2 σ H2 x y v u _ I2 r1 r2 q2) fun c s3 ⟨z, H3, I3, r3, k, e, q3⟩ => ?_) hm
  subst e
  cases r3
  exact wpAny_truthy_bool ⟨H3, I3, q3⟩
def tChain (r r' : R2) (ta tb tc : TE) : TE := fun σ H Q => ta σ H fun x H1 => tb σ H1 fun y H2 => r x y H2 fun z H3 => ∃ k, z = .bl k ∧
  (if k = true then tc σ H3 fun w' H4 => r' y w' H4 Q else Q (.bl false) H3)
theorem pt_chain {op op' : CmpOp} {r r' : R2} (ho : OpR X (compareOp op) r) (ho' : OpR X (compareOp op') r') (ha : PE X a ta) (hb : PE X b tb) (hc : PE X c tc)
    (hm : lastMarks [op, op'] [b, c] = false := by with_unfolding_all rfl) : PT X (.Compare a [op, op'] [b, c] pos) (tTest (tChain r r' ta tb tc)) := by
  intro pins s σ H Q I h
  refine isTrue_chain (thn (ha pins s σ H _ I h) fun v s1 ⟨x, H1, I1, r1, q1⟩ => test_link (thn (hb pins s1 σ H1 _ I1 q1) fun u s2 ⟨y, H2, I2, r2, q2⟩ =>
    thn (ho pins s2 σ H2 x y v u _ I2 r1 r2 q2) fun d s3 ⟨z, H3, I3, r3, k, e, q3⟩ => ?_)) hm
  subst e
  cases r3
  refine wpAny_truthy_bool ?_
  cases k with
  | false =>
    obtain ⟨k', e', q'⟩ := q3
    cases e'
    exact ite_ff ⟨H3, I3, q'⟩
  | true =>
    refine ite_tt (test_last (thn (hc pins s3 σ H3 _ I3 q3) fun w' s4 ⟨z', H4, I4, r4, q4⟩ => thn (ho' pins s4 σ H4 y z' u w' _ I4 r2 r4 q4) fun d' s5 ⟨z2, H5, I5, r5, k2, e2, q5⟩ => ?_))
    subst e2
    cases r5
    exact wpAny_truthy_bool ⟨H5, I5, q5⟩
theorem line63 : (sizeLine : Nat) < 2 ^ 63 := by rw [sizeLine_eq]; decide
theorem op_add_str : OpR X (binaryOp .Add) (fun x y H Q => ∃ i j, x = .str i ∧ y = .str j ∧ i.length + j.length ≤ sizeLine ∧ Q (.str (i ++ j)) H) := by
  intro pins s σ H x y v u Q I rx ry h
  obtain ⟨i, j, rfl, rfl, hz, q⟩ := h
  obtain ⟨t, rfl⟩ := rx
  obtain ⟨t', rfl⟩ := ry
  exact add_str (fun t' tk => ⟨.str (i ++ j), H, I.tok _, ⟨_, rfl⟩, q⟩) hz
theorem vals1 {x : V} {us : List Value} (r : Vals [x] us) : ∃ u, us = [u] ∧ RelV x u := by
  cases r with
  | cons r1 r2 => cases r2; exact ⟨_, rfl, r1⟩
theorem vals2 {x y : V} {us : List Value} (r : Vals [x, y] us) : ∃ u w', us = [u, w'] ∧ RelV x u ∧ RelV y w' := by
  cases r with
  | cons r1 r2 =>
    cases r2 with
    | cons r3 r4 => cases r4; exact ⟨_, _, rfl, r1, r3⟩
theorem call_int1 : CallR X (.type "int") (fun xs H Q => (∃ i, xs = [.int i] ∧ Q (.int i) H) ∨ ∃ k, xs = [.bl k] ∧ Q (.int (if k then 1 else 0)) H) := by
  intro pins s σ H xs us Q I r h
  rcases h with ⟨i, rfl, q⟩ | ⟨k, rfl, q⟩
  · obtain ⟨u, rfl, t, rfl⟩ := vals1 r
    exact call_int_int ⟨.int i, H, I, ⟨_, rfl⟩, q⟩
  · obtain ⟨u, rfl, r1⟩ := vals1 r
    cases r1
    exact call_int_bool ⟨.int (if k then 1 else 0), H, I.tok _, ⟨_, rfl⟩, q⟩
def LenV (K : PySem.W.Frag) (x : V) (H : Hp) (n : Nat) : Prop :=
  match x with
  | .str y => y.length ≤ sizeLine ∧ n = y.length
  | .byt y => y.size ≤ sizeLine ∧ n = y.size
  | .ref p => (∃ xs, SqL K H p xs ∧ n = xs.length) ∨ ∃ xs, SqT K H p xs ∧ n = xs.length
  | _ => False
theorem call_len : CallR X (.builtin "len") (fun xs H Q => ∃ x n, xs = [x] ∧ LenV X.K x H n ∧ Q (.int n) H) := by
  intro pins s σ H xs us Q I r h
  obtain ⟨x, n, rfl, e, q⟩ := h
  obtain ⟨u, rfl, rx⟩ := vals1 r
  have hl := line63
  have hs : sizeLine = 16777216 := sizeLine_eq
  cases x with
  | str y =>
    obtain ⟨t, rfl⟩ := rx
    obtain ⟨hy, e'⟩ : y.length ≤ sizeLine ∧ n = y.length := e
    subst e'
    exact len_str (by omega) ⟨.int _, H, I.tok _, ⟨_, rfl⟩, q⟩
  | byt y =>
    obtain ⟨t, rfl⟩ := rx
    obtain ⟨hy, e'⟩ : y.size ≤ sizeLine ∧ n = y.size := e
    subst e'
    exact PySem.W.len_bytes (by omega) ⟨.int _, H, I.tok _, ⟨_, rfl⟩, q⟩
  | ref p =>
    cases rx
    have e' : (∃ xs, SqL X.K H p xs ∧ n = xs.length) ∨ ∃ xs, SqT X.K H p xs ∧ n = xs.length := e
    rcases e' with ⟨xs, hx, e'⟩ | ⟨xs, hx, e'⟩
    · subst e'
      obtain ⟨its, r', pl, hz⟩ := I.list hx
      have hlen := r'.length
      exact Calls.call_len_list pl.isList (by simp only [List.size_toArray]; omega) ⟨.int xs.length, H, I.tok _, ⟨_, by simp only [List.size_toArray]; rw [hlen]⟩, q⟩
    · subst e'
      obtain ⟨its, r', pl, hz⟩ := I.tuple hx
      have hlen := r'.length
      exact len_tuple pl (by simp only [List.size_toArray]; omega) ⟨.int xs.length, H, I.tok _, ⟨_, by simp only [List.size_toArray]; rw [hlen]⟩, q⟩
  | _ => exact (show False from e).elim
end
end L2
namespace L2
open PySem PySem.Spec PyProof.Rows
structure ObjM (h : Heap) (x dx C : Addr) (mA : Str → Option Value) : Prop where
  obj : h.get? x = some (PySem.W.instObj C dx)
  ns : h.Ns1 dx mA
  ne : dx ≠ x
theorem lookIn_ns {h : Heap} {dx : Addr} {mA : Str → Option Value} (n : h.Ns1 dx mA) : ∃ od, h.get? dx = some od ∧ ∀ name, PySem.W.lookIn name od = some (mA name) := by
  obtain ⟨o, es, ep, ho, hd, hk, _, hm⟩ := n
  refine ⟨o, ho, fun name => ?_⟩
  have e := hm name
  unfold nsFind findBy at e
  rw [← Array.find?_toList] at e
  unfold PySem.W.lookIn
  rw [hd]
  dsimp only
  split
  · rename_i y q
    rw [q] at e
    exact congrArg some e
  · rename_i q
    rw [q] at e
    have a : es.toList.any (·.refKey) = false := by
      rw [List.any_eq_false]
      intro y hy
      obtain ⟨z, t, hkey⟩ := hk y (Array.mem_toList_iff.mp hy)
      simp [DictEntry.refKey, hkey]
    have a' : ¬ es.toList.any (·.refKey) = true := by rw [a]; exact Bool.false_ne_true
    rw [if_neg a']
    exact congrArg some e
theorem ObjM.look {h : Heap} {x dx C : Addr} {mA : Str → Option Value} (I : ObjM h x dx C mA) : ∃ od, PySem.W.InstAt h x (PySem.W.instObj C dx) C (some od) ∧ ∀ name, PySem.W.lookIn name od = some (mA name) :=
  let ⟨od, ho, hl⟩ := lookIn_ns I.ns
  ⟨od, ⟨I.obj, rfl, rfl, ho⟩, hl⟩
section
variable {prog : Program} {w : World} {A : Around} {E : Value → Shared → Prop} {s : Shared} {K : PySem.W.Frag} {x dx C f : Addr} {mA : Str → Option Value} {name : Str} {v : Value}
end
section
variable {P : Program} {w : World} {H H' : Hp} {h h' : Heap} {a C dx : Addr} {fs fs' : List (Str × V)}
theorem ins_get (hok : HOk P w H h) (e : H a = some (.ins C dx fs)) : ∃ mA, ObjM h a dx C mA ∧ (∀ f, RelO (fs.lookup f) (mA f)) ∧ PySem.Within mA (fs.map (·.1)) ∧ fs.length ≤ 1000 ∧ H dx = some (.own a) := by
  obtain ⟨d, z, ne, ob, mA, n, r, q⟩ := (show ObjOk P w H h a (.ins C dx fs) from hok a _ e)
  exact ⟨mA, ⟨ob, n, ne⟩, r, q, z, d⟩
end
structure Cls (K : PySem.W.Frag) (C : Addr) : Prop where
  pg : PySem.W.plainGet K C Str.empty = true
  hd : PySem.W.hasDictIn K C = true
  po : PySem.W.plainOver K C = true
  sa : PySem.W.findIn K (.ref C) "__setattr__" = some (some (.builtin "object.__setattr__"))
theorem Cls.get {K : PySem.W.Frag} {C : Addr} (c : Cls K C) (f : Str) : PySem.W.plainGet K C f = true := c.pg
structure Con (K : PySem.W.Frag) (C : Addr) (f : Str) (v : V) (u : Value) : Prop where
  at_ : PySem.W.findIn K (.ref C) f = some (some u)
  rel : RelV v u
  get : PySem.W.specialIn K u "__get__" = some none
  cp : PySem.W.copiedNames.contains f = false
structure Meth (K : PySem.W.Frag) (C : Addr) (m : Str) (f : Addr) : Prop where
  at_ : PySem.W.findIn K (.ref C) m = some (some (.ref f))
  fn : PySem.W.isFn K (.ref f) = true
  kp : PySem.W.keepIn K (.ref f) = true
section
variable {X : Cx} {pins : List (Addr × Obj)} {σ : St} {H : Hp} {s : Shared} {a C dx : Addr} {fs : List (Str × V)} {f : Str} {v : V} {A : Around} {E : Value → Shared → Prop}
end
section
variable {X : Cx} {o e value : Expr} {f : Str} {pos pos' tpos : Pos} {ta tv : TE}
end
section
variable {X : Cx} {pins : List (Addr × Obj)} {σ : St} {H : Hp} {s : Shared} {A : Around} {E : Value → Shared → Prop} {Q : Value → Shared → Prop} {c : Value} {b : Bool}
inductive TyOf (K : PySem.W.Frag) (H : Hp) : V → Value → Prop where
  | non : TyOf K H .non (.type "NoneType")
  | bl (x : Bool) : TyOf K H (.bl x) (.type "bool")
  | int (i : Int) : TyOf K H (.int i) (.type "int")
  | str (x : Str) : TyOf K H (.str x) (.type "str")
  | flt (x : UInt64) : TyOf K H (.flt x) (.type "float")
  | lst {a : Addr} {xs : List V} (e : H a = some (.lst xs)) : TyOf K H (.ref a) (.type "list")
  | frz {a : Addr} {o : Obj} {xs : List V} (e : H a = some (.frz o (.lst xs))) : TyOf K H (.ref a) (.type "list")
  | tup {a : Addr} {xs : List V} (e : H a = some (.tup xs)) : TyOf K H (.ref a) (.type "tuple")
  | dK {a : Addr} {kvs : List (Key × V)} (e : H a = some (.dK kvs)) : TyOf K H (.ref a) (.type "dict")
  | dT {a : Addr} {kvs : List (List Key × V)} (e : H a = some (.dT kvs)) : TyOf K H (.ref a) (.type "dict")
  | ins {a C dx : Addr} {fs : List (Str × V)} (e : H a = some (.ins C dx fs)) (cl : Cls K C) (ha : PySem.W.findIn K (.ref C) "__class__" = some (some (.builtin "object.__class__")))
      (hn : PySem.W.specialIn K (.builtin "object.__class__") "__get__" = some (some (.builtin "getset_descriptor.__get__"))) (htk : PySem.W.takesIn K (.builtin "object.__class__") = some true)
      (hm : PySem.W.mroIn K C (.type "object") = some true) : TyOf K H (.ref a) (.ref C)
theorem isinst_ok {x : V} {u t : Value} (I : Inv X pins σ H s) (rx : RelV x u) (ty : TyOf X.K H x t) (e : PySem.W.kitOne X.K t c = some b) (h : ∀ tk, Q (.bool b) { s with toks := tk }) :
    wpAny (model X.prog X.w) A (call (.builtin "isinstance") [u, c]) Q E s := by
  cases ty with
  | non => cases (show u = Value.none from rx); exact PySem.W.kia_one PySem.W.kitx_none I.kIn True.intro e (fun z => nomatch z) h
  | bl y => cases (show u = Value.bool y from rx); exact PySem.W.kia_one PySem.W.kitx_bool I.kIn True.intro e (fun z => nomatch z) h
  | int i => obtain ⟨t, q⟩ := (show ∃ t, u = Value.int i t from rx); cases q; exact PySem.W.kia_one PySem.W.kitx_int I.kIn True.intro e (fun z => nomatch z) h
  | str y => obtain ⟨t, q⟩ := (show ∃ t, u = Value.str y t from rx); cases q; exact PySem.W.kia_one PySem.W.kitx_str I.kIn True.intro e (fun z => nomatch z) h
  | flt y => obtain ⟨t, q⟩ := (show ∃ t, u = Value.float y t from rx); cases q; exact PySem.W.kia_one PySem.W.kitx_float I.kIn True.intro e (fun z => nomatch z) h
  | @lst a xs ea =>
    cases (show u = Value.ref a from rx)
    obtain ⟨_, _, n, _, h1⟩ := (show ObjOk X.prog X.w H s.heap a (.lst xs) from I.hok a _ ea)
    exact PySem.W.kia_one PySem.W.kitx_list I.kIn ⟨_, h1, rfl⟩ e (fun z => nomatch z) h
  | @frz a ob xs ea =>
    cases (show u = Value.ref a from rx)
    obtain ⟨_, _, _, n, _, h1⟩ := (show ObjOk X.prog X.w H s.heap a (.frz ob (.lst xs)) from I.hok a _ ea)
    exact PySem.W.kia_one PySem.W.kitx_list I.kIn ⟨_, h1, rfl⟩ e (fun z => nomatch z) h
  | @tup a xs ea =>
    cases (show u = Value.ref a from rx)
    obtain ⟨_, _, _, p⟩ := (show ObjOk X.prog X.w H s.heap a (.tup xs) from I.hok a _ ea)
    obtain ⟨o, h1, h2, _⟩ := p
    exact PySem.W.kia_one PySem.W.kitx_tuple I.kIn ⟨o, h1, h2⟩ e (fun z => nomatch z) h
  | @dK a kvs ea =>
    cases (show u = Value.ref a from rx)
    obtain ⟨_, _, vs, _, p⟩ := (show ObjOk X.prog X.w H s.heap a (.dK kvs) from I.hok a _ ea)
    obtain ⟨o, es, ep, h1, h2, _⟩ := p
    exact PySem.W.kia_one PySem.W.kitx_dict I.kIn ⟨o, h1, h2.1⟩ e (fun z => nomatch z) h
  | @dT a kvs ea =>
    cases (show u = Value.ref a from rx)
    obtain ⟨_, _, xs, _, o, es, ep, h1, h2, _⟩ := (show ObjOk X.prog X.w H s.heap a (.dT kvs) from I.hok a _ ea)
    exact PySem.W.kia_one PySem.W.kitx_dict I.kIn ⟨o, h1, h2.1⟩ e (fun z => nomatch z) h
  | @ins a C dx fs ea cl ha hn htk hm =>
    cases (show u = Value.ref a from rx)
    obtain ⟨mA, O, _⟩ := ins_get I.hok ea
    obtain ⟨od, J, _⟩ := O.look
    exact PySem.W.kia_one (PySem.W.kitx_own (cl.get _) cl.hd ha hn htk hm) I.kIn J e (fun z => nomatch z) h
end
end L2
namespace L2
open PySem PySem.Spec PyProof.Rows
structure Room (k : Nat) (A : Around) : Prop where
  hd : A.handled = none
  dp : A.depth + 3 * k + 5 < recursionLimit
  un : A.units + 16 * k + 200 < cLine
theorem Room.mono {j k : Nat} {A : Around} (r : Room k A) (h : j ≤ k) : Room j A := ⟨r.hd, by have := r.dp; omega, by have := r.un; omega⟩
theorem Room.deeper {k : Nat} {A : Around} (r : Room (k + 1) A) (env : Env) : Room k (A.deeper env) :=
  ⟨r.hd, by have := r.dp; show A.depth + 1 + 3 * k + 5 < _; omega, by have := r.un; show A.units + 3 + 16 * k + 200 < _; omega⟩
theorem Room.in1 {k : Nat} {A : Around} (r : Room (k + 1) A) : Room k A.in1 :=
  ⟨r.hd, by have := r.dp; show A.depth + 3 * k + 5 < _; omega, by have := r.un; show A.units + 1 + 16 * k + 200 < _; omega⟩
theorem Room.depth {k : Nat} {A : Around} (r : Room k A) : A.depth < recursionLimit := by have := r.dp; omega
theorem Room.units {k : Nat} {A : Around} (r : Room k A) : A.units + 64 < cLine := by have := r.un; omega
def tNil : TA := fun _ H Q => Q [] H
def tCons (ta : TE) (tr : TA) : TA := fun σ H Q => ta σ H fun x H1 => tr σ H1 fun xs H2 => Q (x :: xs) H2
section
variable {X : Cx} {e : Expr} {es : List Expr} {te : TE} {t : TA} {pos : Pos}
theorem pa_nil : PA X [] tNil := fun _ _ _ _ H Q I h => Calls.spliced_nil ⟨[], H, I, .nil, h⟩
theorem pa_cons (ha : PE X e te) (hr : PA X es t) (hs : starEach (e :: es) X.env = (false, eval e X.env) :: starEach es X.env := by rfl) : PA X (e :: es) (tCons te t) := by
  intro pos pins s σ H Q I h
  rw [hs]
  show wpAny _ _ (spliced ((false, eval e X.env) :: backTo pos (starEach es X.env))) _ _ s
  refine Calls.spliced_cons (thn (ha pins s σ H _ I h) fun u s1 ⟨x, H1, I1, r1, q1⟩ => ?_)
  exact thn (hr pos pins s1 σ H1 _ I1 q1) fun us s2 ⟨xs, H2, I2, r2, q2⟩ => ⟨x :: xs, H2, I2, .cons r1 r2, q2⟩
def tTup (t : TA) : TE := fun σ H Q => t σ H fun xs H1 => xs.length ≤ sizeLine ∧ ∀ p, H1 p = none → Q (.ref p) (upd H1 p (.tup xs))
def tLst (t : TA) : TE := fun σ H Q => t σ H fun xs H1 => xs.length ≤ sizeLine ∧ ∀ p, H1 p = none → Q (.ref p) (upd H1 p (.lst xs))
theorem pe_tup {x1} (h : PA X es t) : PE X (.Tuple es x1 pos) (tTup t) := by
  intro pins s σ H Q I hq
  refine wpAny_Tuple_spliced (thn (h pos pins s σ H _ I hq) fun us s1 ⟨xs, H1, I1, r, z, q⟩ => ⟨by rw [← r.length]; exact z, ?_⟩)
  have hf : H1 s1.heap.objs.size = none := I1.hok.fresh (Nat.le_refl _)
  refine ⟨.ref s1.heap.objs.size, upd H1 s1.heap.objs.size (.tup xs), I1.laid (t' := s1.toks) (fun b u e => Heap.get?_push_of_some _ e) (Nat.le_refl _) ?_, rfl, q _ hf⟩
  exact ⟨z, us, r, ⟨_, Heap.get?_push_size _ rfl, rfl, _, rfl⟩⟩
theorem pe_lst (h : PA X es t) : PE X (.List es pos) (tLst t) := by
  intro pins s σ H Q I hq
  refine wpAny_List_spliced (thn (h pos pins s σ H _ I hq) fun us s1 ⟨xs, H1, I1, r, z, q⟩ => ⟨by rw [← r.length]; exact z, ?_⟩)
  have hf : H1 s1.heap.objs.size = none := I1.hok.fresh (Nat.le_refl _)
  refine ⟨.ref s1.heap.objs.size, upd H1 s1.heap.objs.size (.lst xs), I1.laid (t' := s1.toks) (fun b u e => Heap.get?_push_of_some _ e) (Nat.le_refl _) ?_, rfl, q _ hf⟩
  exact ⟨z, us, 0, r, Heap.get?_push_size _ rfl⟩
end
abbrev Sp := List V → Hp → VK → XK → Prop
abbrev CXT := List Env → Hp → Shared → XK → Value → Shared → Prop
structure Env0 (P : Program) (w : World) (K : PySem.W.Frag) (mg : Str → Option Value) (base : Heap) (A : Around) (outer : List Env) (s : Shared) (H : Hp) : Prop where
  frames : A.frames = some outer
  mod : Mod K mg base
  bs : ∀ b o, base.get? b = some o → s.heap.get? b = some o ∧ H b = none
  bsz : base.objs.size ≤ s.heap.objs.size
  funs : s.heap.FunFrames base outer
  frf : ∀ b ∈ frs outer, H b = none
  hok : HOk P w H s.heap
  bare : AllBare s.gens
def CE (outer : List Env) (P : Program) (w : World) (H : Hp) (s : Shared) (Q : VK) (u : Value) (s' : Shared) : Prop :=
  ∃ v H', s'.os = s.os ∧ AllBare s'.gens ∧ Un (frs outer) [] H H' s.heap s'.heap ∧ HOk P w H' s'.heap ∧ RelV v u ∧ Q v H'
def CR (CX : CXT) (outer : List Env) (P : Program) (w : World) (H : Hp) (s : Shared) (Q : VK) (E : XK) (r : Result) (s' : Shared) : Prop :=
  match r with
  | .ok (.ret u) => CE outer P w H s Q u s'
  | .ok _ => False
  | .error e => CX outer H s E e s'
structure FnOk (P : Program) (w : World) (K : PySem.W.Frag) (mg : Str → Option Value) (base : Heap) (CX : CXT) (k : Nat) (f : Addr) (fd : FuncData) (ps : List Str) (sp : Sp) : Prop where
  len : ∀ vs H Q E, sp vs H Q E → vs.length = ps.length
  run : ∀ (A : Around) (outer : List Env) (s : Shared) (H : Hp) (args : Args) (us : List Value) (vs : List V) (Q : VK) (E : XK), Room k A → Env0 P w K mg base A outer s H → BindsTo s fd args (ps.zip us) → Vals vs us → sp vs H Q E →
    codeAny (model P w) A (.call (.ref f) args) (CR CX outer P w H s Q E) s
theorem FnOk.mono {P : Program} {w : World} {K : PySem.W.Frag} {mg : Str → Option Value} {base : Heap} {CX : CXT} {j k : Nat} {f : Addr} {fd : FuncData} {ps : List Str} {sp : Sp} (F : FnOk P w K mg base CX j f fd ps sp) (h : j ≤ k) :
    FnOk P w K mg base CX k f fd ps sp := ⟨F.len, fun A outer s H args us vs Q E hr => F.run A outer s H args us vs Q E (hr.mono h)⟩
theorem FnOk.imp {P : Program} {w : World} {K : PySem.W.Frag} {mg : Str → Option Value} {base : Heap} {CX : CXT} {k : Nat} {f : Addr} {fd : FuncData} {ps : List Str} {sp sp' : Sp} (F : FnOk P w K mg base CX k f fd ps sp)
    (h : ∀ vs H Q E, sp' vs H Q E → sp vs H Q E) : FnOk P w K mg base CX k f fd ps sp' :=
  ⟨fun vs H Q E q => F.len vs H Q E (h _ _ _ _ q), fun A outer s H args us vs Q E hr he hb hv hs => F.run A outer s H args us vs Q E hr he hb hv (h _ _ _ _ hs)⟩
theorem Env0.in1 {P : Program} {w : World} {K : PySem.W.Frag} {mg : Str → Option Value} {base : Heap} {A : Around} {outer : List Env} {s : Shared} {H : Hp} (e : Env0 P w K mg base A outer s H) :
    Env0 P w K mg base A.in1 outer s H := ⟨e.frames, e.mod, e.bs, e.bsz, e.funs, e.frf, e.hok, e.bare⟩
section
variable {X : Cx} {pins : List (Addr × Obj)} {σ : St} {H : Hp} {s s' : Shared}
theorem Inv.env0 (I : Inv X pins σ H s) : Env0 X.prog X.w X.K X.mg X.base X.A X.stack s H :=
  ⟨I.ok.frames, I.ok.mod, I.bs, Nat.le_trans I.ok.bsz I.sz, I.stack, I.stkFree, I.hok, I.bare⟩
theorem Inv.after {Q : VK} {u : Value} (I : Inv X pins σ H s) (h : CE X.stack X.prog X.w H s Q u s') : EP X pins σ Q u s' := by
  obtain ⟨v, H', os, bare, un, hok, r, q⟩ := h
  obtain ⟨hh, g, d, t, os'⟩ := s'
  obtain rfl : os' = s.os := os
  exact ⟨v, H', I.call (h' := hh) (g' := g) (d' := d) (t' := t) (ch := []) un hok bare (fun b z => absurd z (by simp)), r, q⟩
end
def tCall (sp : Sp) (dvs : List V) (E : XK) (t : TA) : TE := fun σ H Q => t σ H fun vs H1 => sp (vs ++ dvs) H1 Q E
def Binds (K : PySem.W.Frag) (fd : FuncData) (ps : List Str) (ds : List Value) : Prop :=
  ∀ (s : Shared) (us : List Value), K.In s.heap → (us ++ ds).length = ps.length → BindsTo s fd ⟨us, []⟩ (ps.zip (us ++ ds))
theorem Binds.all {K : PySem.W.Frag} {fd : FuncData} {ps : List Str} (h : ∀ us : List Value, us.length = ps.length → bindArgs fd ⟨us, []⟩ = pure (ps.zip us)) : Binds K fd ps [] := fun s us _ hl => by
  rw [List.append_nil] at hl ⊢
  exact .of_eq (h us hl)
def Passes (CX : CXT) (X : Cx) (E : XK) : Prop := ∀ (pins : List (Addr × Obj)) (σ : St) (H : Hp) (s : Shared) (e : Value) (s' : Shared), Inv X pins σ H s → CX X.stack H s E e s' → X.xe e s'
section
variable {X : Cx} {CX : CXT} {k : Nat} {f C : Addr} {fd : FuncData} {ps : List Str} {sp : Sp} {dvs : List V} {ds : List Value} {E : XK} {x m : Str} {p pos apos : Pos} {e o : Expr} {es : List Expr} {ta : TE} {t : TA}
theorem run_fn {pins : List (Addr × Obj)} {σ : St} {H : Hp} {s : Shared} {Q : VK} {us : List Value} {vs : List V} (F : FnOk X.prog X.w X.K X.mg X.base CX k f fd ps sp) (hr : Room k X.A) (hb : Binds X.K fd ps ds) (hd : Vals dvs ds) (hx : Passes CX X E)
    (I : Inv X pins σ H s) (r : Vals vs us) (h : sp (vs ++ dvs) H Q E) : wpAny (model X.prog X.w) X.A (call (.ref f) us) (EP X pins σ Q) X.xe s := by
  have r2 : Vals (vs ++ dvs) (us ++ ds) := r.append hd
  have hl : (us ++ ds).length = ps.length := by rw [← r2.length]; exact F.len _ _ _ _ h
  refine wpAny_call (codeAny_mono (F.run X.A X.stack s H ⟨us, []⟩ (us ++ ds) (vs ++ dvs) Q E hr I.env0 (hb s us I.kIn hl) r2 h) fun r s' hq => ?_)
  cases r with
  | error e => exact hx pins σ H s e s' I hq
  | ok fl =>
    cases fl with
    | ret u => exact I.after hq
    | next => exact False.elim hq
    | brk => exact False.elim hq
    | cont => exact False.elim hq
theorem pe_call (F : FnOk X.prog X.w X.K X.mg X.base CX k f fd ps sp) (hr : Room k X.A) (hg : Gl X x) (hm : X.mg x = some (.ref f)) (hk : PySem.W.keepIn X.K (.ref f) = true) (hb : Binds X.K fd ps ds) (hd : Vals dvs ds) (hx : Passes CX X E)
    (ha : PA X (e :: es) t) (hdb : (x == ("__debug__" : Str)) = false := by decide) (he : starEach (e :: es) X.env = (false, eval e X.env) :: starEach es X.env := by rfl) (hpl : (backTo pos (starEach es X.env)).any (·.1) = false := by rfl) :
    PE X (.Call (.Name x p) (e :: es) [] pos) (tCall sp dvs E t) := by
  intro pins s σ H Q I h
  refine wpAny_Call_Name_kw (ld_glob I hg hm ?_ hdb)
  refine PySem.W.callWith_K (h₀ := X.base) I.ok.mod.kin hk (thn (ha pos pins s σ H _ I h) fun us s1 ⟨vs, H1, I1, r, q⟩ => ⟨I1.kIn, ?_⟩) he hpl
  exact run_fn F hr hb hd hx I1 r q
structure Mk (K : PySem.W.Frag) (C f : Addr) : Prop where
  makes : PySem.W.makesIn K C = true
  init : PySem.W.findIn K (.ref C) "__init__" = some (some (.ref f))
  fn : PySem.W.isFn K (.ref f) = true
  kp : PySem.W.keepIn K (.ref C) = true
end
section
variable {X : Cx} {CX : CXT} {k : Nat} {f C : Addr} {fd : FuncData} {ps ks : List Str} {sp : Sp} {E : XK} {x m : Str} {p pos apos kpos : Pos} {e o : Expr} {es : List Expr} {kws : List Keyword} {te ta : TE} {t tk : TA} {nm : Option Str}
structure KBinds (K : PySem.W.Frag) (fd : FuncData) (ps ks : List Str) (g : List Value → List Value → List Value) (gV : List V → List V → List V) : Prop where
  to : ∀ (s : Shared) (us ws : List Value), K.In s.heap → (g us ws).length = ps.length → BindsTo s fd ⟨us, ks.zip ws⟩ (ps.zip (g us ws))
  rel : ∀ {vs : List V} {us : List Value} {zs : List V} {ws : List Value}, Vals vs us → Vals zs ws → Vals (gV vs zs) (g us ws)
variable {g : List Value → List Value → List Value} {gV : List V → List V → List V}
end
structure FnScope (N P : List Str) (sc : Scope) : Prop where
  kind : sc.kind = .function
  co : sc.isCoroutine = false
  gen : sc.isGenerator = false
  nd : N.Nodup
  pre : N.take P.length = P
  par : ∀ x ∈ P, sc.names.lookup x = some .local ∨ sc.names.lookup x = some .cell
  nofree : ∀ y ∈ sc.names, y.2 ≠ .free
theorem bindL_out {kindOf : Str → Option NameKind} {x : Str} : ∀ {binds : List (Str × Value)} {m : Str → Option Value}, (∀ v, (x, v) ∉ binds) → bindL kindOf binds m x = m x
  | [], _, _ => rfl
  | (n, v) :: r, m, h => by
    unfold bindL
    rw [bindL_out fun w hw => h w (List.mem_cons_of_mem _ hw)]
    split
    · have : x ≠ n := by rintro rfl; exact h v List.mem_cons_self
      simp [this]
    · rfl
theorem bindC_out {kindOf : Str → Option NameKind} {x : Str} : ∀ {binds : List (Str × Value)} {m : Str → Option Value}, (∀ v, (x, v) ∉ binds) → bindC kindOf binds m x = m x
  | [], _, _ => rfl
  | (n, v) :: r, m, h => by
    unfold bindC
    rw [bindC_out fun w hw => h w (List.mem_cons_of_mem _ hw)]
    split
    · rfl
    · have : x ≠ n := by rintro rfl; exact h v List.mem_cons_self
      simp [this]
theorem bindL_get {kindOf : Str → Option NameKind} {x : Str} {v : Value} : ∀ {P : List Str} {vs : List Value} {i : Nat} {m : Str → Option Value}, P.Nodup → P[i]? = some x → vs[i]? = some v → kindOf x = some .local →
    bindL kindOf (P.zip vs) m x = some v
  | [], _, _, _, _, h, _, _ => by simp at h
  | _ :: _, [], _, _, _, _, h, _ => by simp at h
  | p :: P, w :: vs, 0, m, nd, h1, h2, hk => by
    simp at h1 h2; subst h1; subst h2
    show bindL kindOf ((p, w) :: P.zip vs) m p = _
    unfold bindL
    rw [bindL_out fun v hv => (List.nodup_cons.mp nd).1 (List.of_mem_zip hv).1, if_pos hk]
    simp
  | p :: P, w :: vs, i + 1, m, nd, h1, h2, hk => by
    show bindL kindOf ((p, w) :: P.zip vs) m x = _
    unfold bindL
    exact bindL_get (i := i) (List.nodup_cons.mp nd).2 (by simpa using h1) (by simpa using h2) hk
theorem bindC_get {kindOf : Str → Option NameKind} {x : Str} {v : Value} : ∀ {P : List Str} {vs : List Value} {i : Nat} {m : Str → Option Value}, P.Nodup → P[i]? = some x → vs[i]? = some v → kindOf x ≠ some .local →
    bindC kindOf (P.zip vs) m x = some v
  | [], _, _, _, _, h, _, _ => by simp at h
  | _ :: _, [], _, _, _, _, h, _ => by simp at h
  | p :: P, w :: vs, 0, m, nd, h1, h2, hk => by
    simp at h1 h2; subst h1; subst h2
    show bindC kindOf ((p, w) :: P.zip vs) m p = _
    unfold bindC
    rw [bindC_out fun v hv => (List.nodup_cons.mp nd).1 (List.of_mem_zip hv).1, if_neg hk]
    simp
  | p :: P, w :: vs, i + 1, m, nd, h1, h2, hk => by
    show bindC kindOf ((p, w) :: P.zip vs) m x = _
    unfold bindC
    exact bindC_get (i := i) (List.nodup_cons.mp nd).2 (by simpa using h1) (by simpa using h2) hk
def start (N : List Str) (vs : List V) : St := vs.map some ++ List.replicate (N.length - vs.length) none
def cxOf (CX : CXT) (P : Program) (w : World) (K : PySem.W.Frag) (mg : Str → Option Value) (base : Heap) (N : List Str) (qual : Str) (scope : Scope) (f : Addr) (cd : Value) (A : Around) (outer : List Env) (s : Shared) (H : Hp) (E : XK) : Cx where
  prog := P
  w := w
  K := K
  mg := mg
  base := base
  A := A.deeper (envOfC qual scope s.heap.objs.size f cd)
  N := N
  s₀ := s
  H₀ := H
  env := envOfC qual scope s.heap.objs.size f cd
  outer := outer
  stack := envOfC qual scope s.heap.objs.size f cd :: outer
  ex := []
  calm := true
  fn := fun _ => true
  pn := []
  xe := fun e s' => wpAny (model P w) (A.deeper (envOfC qual scope s.heap.objs.size f cd)) (leaving (envOfC qual scope s.heap.objs.size f cd) e) (fun _ s'' => CX outer H s E e s'') (fun e' s'' => CX outer H s E e' s'') s'
theorem cell_has {sc : Scope} {n : Nat} {x : Str} (h : sc.names.lookup x = some .cell) : ∃ c, (cellsFrom n sc.names []).lookup x = some c := by
  have q := PySem.W.cellsFrom_some sc.names n [] (.inl h)
  exact Option.isSome_iff_exists.mp q
theorem inv_start {CX : CXT} {P : Program} {w : World} {K : PySem.W.Frag} {mg : Str → Option Value} {base : Heap} {N ps : List Str} {qual : Str} {scope : Scope} {f : Addr} {cd : Value} {A : Around} {outer : List Env} {s s1 : Shared} {H : Hp} {E : XK} {us : List Value} {vs : List V}
    (S : FnScope N ps scope) (hd : A.handled = none) (e0 : Env0 P w K mg base A outer s H) (hl : vs.length = ps.length) (r : Vals vs us)
    (x : InCallC s s.heap.objs.size (bindL (envOfC qual scope s.heap.objs.size f cd).kindOf (ps.zip us) fun _ => none) (cellsFrom (s.heap.objs.size + 1) scope.names []) (bindC (envOfC qual scope s.heap.objs.size f cd).kindOf (ps.zip us) fun _ => none) s1) :
    Inv (cxOf CX P w K mg base N qual scope f cd A outer s H E) [] (start N vs) H s1 := by
  have hpl : ps.length ≤ N.length := by have := congrArg List.length S.pre; rw [List.length_take] at this; omega
  obtain ⟨h1, tk, rfl, hk⟩ := x.done
  have noA : ∀ b : Addr, b ∉ (cxOf CX P w K mg base N qual scope f cd A outer s H E).ex := fun b z => absurd (show b ∈ ([] : List Addr) from z) (by simp)
  refine ⟨⟨e0.mod, S.kind, rfl, rfl, Nat.le_refl _, fun y z c h1 h2 => ?_, fun y hy => ?_, fun y c _ h => ?_, fun _ => hd, Around.frames_deeper e0.frames, .inr ⟨rfl, rfl⟩, fun b z => absurd z (noA b), e0.bs, e0.bsz, fun b _ _ => noA b, fun b z => absurd z (noA b), e0.funs, e0.frf⟩,
    rfl, e0.bare, Un.kept hk, ⟨_, x.toInCall.ns, fun i y v h1 h2 h3 => ?_⟩, fun y c h => ⟨_, x.cell y c h⟩, e0.hok.fresh (Nat.le_refl _), fun y c h => ?_, fun p hp => absurd (show p ∈ ([] : List (Addr × Obj)) from hp) (by simp), e0.hok.kept hk, ?_⟩
  · exact name_of_addr x.apart (PySem.mem_of_lookup h1) (PySem.mem_of_lookup h2)
  · have hy : scope.names.lookup y = some .cell ∨ scope.names.lookup y = some .free := hy
    rcases hy with hy | hy
    · exact cell_has hy
    · exact absurd rfl (S.nofree _ (PySem.mem_of_lookup hy))
  · exact Nat.le_of_lt (x.above y c (PySem.mem_of_lookup h))
  · have hi : i < vs.length := by
      unfold start at h2
      by_cases hi : i < vs.length
      · exact hi
      · rw [List.getElem?_append_right (by simpa using hi)] at h2
        rw [List.getElem?_replicate] at h2
        split at h2 <;> cases h2
    have ha : vs[i]? = some v := by
      unfold start at h2
      rw [List.getElem?_append_left (by simpa using hi), List.getElem?_map] at h2
      cases e : vs[i]? with
      | none => rw [e] at h2; cases h2
      | some a => rw [e] at h2; cases h2; rfl
    obtain ⟨u, hu, rv⟩ := r.get ha
    have hp : ps[i]? = some y := by
      rw [← S.pre, List.getElem?_take_of_lt (by omega)]; exact h1
    have ndP : ps.Nodup := by rw [← S.pre]; exact S.nd.sublist (List.take_sublist _ _)
    refine ⟨u, rv, ?_⟩
    rcases S.par y (List.mem_of_getElem? hp) with k | k
    · exact .inl ⟨k, bindL_get ndP hp hu k⟩
    · obtain ⟨c, e⟩ := cell_has (n := s.heap.objs.size + 1) k
      refine .inr ⟨.inl k, c, e, ?_⟩
      have q := x.cell y c e
      rw [bindC_get ndP hp hu (by show scope.names.lookup y ≠ _; rw [k]; decide)] at q
      exact q
  · exact e0.hok.fresh (Nat.le_of_lt (x.above y c (PySem.mem_of_lookup h)))
  · unfold start
    show _ = N.length
    rw [List.length_append, List.length_map, List.length_replicate]
    omega
theorem fn_of {CX : CXT} {P : Program} {w : World} {K : PySem.W.Frag} {mg : Str → Option Value} {base : Heap} {k : Nat} {f : Addr} {name qual : Str} {params : Arguments} {body : List Stmt} {scope : Scope} {dV kV doc pm cdv ct oc : Value} {an od : Option Addr}
    {osl : Array (Option Value)} {N ps : List Str} {sp : Sp} (lk : K.lookup f = some ⟨oc, od, .func (PySem.W.fnOf name qual params body scope dV kV doc pm an cdv ct), osl⟩) (hcd : PySem.W.codeIn K cdv qual = true) (S : FnScope N ps scope)
    (len : ∀ vs H Q E, sp vs H Q E → vs.length = ps.length)
    (hbody : ∀ (A : Around) (outer : List Env) (s : Shared) (H : Hp) (vs : List V) (Q : VK) (E : XK), Room k (A.deeper (envOfC qual scope s.heap.objs.size f cdv)) → sp vs H Q E →
      ∃ t, PSs (cxOf CX P w K mg base N qual scope f cdv A outer s H E) body t ∧ t { nx := fun _ H' => Q .non H', rt := Q } (start N vs) H) :
    FnOk P w K mg base CX (k + 1) f (PySem.W.fnOf name qual params body scope dV kV doc pm an cdv ct) ps sp := by
  refine ⟨len, fun A outer s H args us vs Q E hr e0 hb r hsp => ?_⟩
  have hl := len _ _ _ _ hsp
  have KX : K.In s.heap := e0.mod.kin.keeps fun b o e => (e0.bs b o e).1
  have lim : s.heap.NoLimit := e0.mod.nolimit.keeps fun b o e => (e0.bs b o e).1
  have hkind : ∀ y ∈ ps.zip us, scope.names.lookup y.1 = some .local ∨ (scope.names.lookup y.1 = some .cell ∧ ((cellsFrom (s.heap.objs.size + 1) scope.names []).lookup y.1).isSome = true) := fun ⟨n, v⟩ hy => by
    rcases S.par n (List.of_mem_zip hy).1 with q | q
    · exact .inl q
    · exact .inr ⟨q, PySem.W.cellsFrom_some _ _ _ (.inl q)⟩
  refine codeAny_call_function hr.depth (KX _ _ lk) rfl S.co S.gen rfl (PySem.W.codeRec_of KX hcd) (hb _ _ _ _ ?_)
  refine wpAny_newFunctionEnv_cells S.kind hkind fun env he s1 x => ?_
  subst he
  refine ⟨lim.keeps x.toInCall.keep, codeAny_func ?_⟩
  obtain ⟨t, ht, hq⟩ := hbody A outer s H vs Q E (hr.deeper _) hsp
  have I : Inv (cxOf CX P w K mg base N qual scope f cdv A outer s H E) [] (start N vs) H s1 := inv_start S hr.hd e0 hl r x
  refine wpAny_mono (ht [] s1 (start N vs) H _ I hq) (fun fl s' hs => ?_) fun e s' hs => hs
  have fin : ∀ {σ' : St} {H' : Hp} {v : V} {u : Value}, Inv (cxOf CX P w K mg base N qual scope f cdv A outer s H E) [] σ' H' s' → RelV v u → Q v H' → CE outer P w H s Q u s' :=
    fun {σ' H' v u} J rv q => ⟨v, H', J.os, J.bare, J.base, J.hok, rv, q⟩
  cases fl with
  | ret u =>
    obtain ⟨v, σ', H', J, rv, q⟩ := hs
    exact fin J rv q
  | next =>
    obtain ⟨σ', H', J, q⟩ := hs
    exact fin (v := V.non) (u := Value.none) J rfl q
  | brk =>
    obtain ⟨_, _, _, q⟩ := hs
    exact False.elim q
  | cont =>
    obtain ⟨_, _, _, q⟩ := hs
    exact False.elim q
end L2
namespace L2
open PySem PySem.Spec PyProof.Rows
section
variable {X : Cx} {x : Str} {p pos : Pos} {e : Expr} {es : List Expr} {t : TA} {id T : String} {r : List V → Hp → VK → Prop}
def tCB (r : List V → Hp → VK → Prop) (t : TA) : TE := fun σ H Q => t σ H fun vs H1 => r vs H1 Q
theorem pe_callB (hc : CallR X (.builtin id) r) (hg : Gl X x) (hm : X.mg x = none) (hv : bootBuiltins x = some (.builtin id)) (ha : PA X (e :: es) t) (hn : x ≠ "__name__" := by decide) (hdb : (x == ("__debug__" : Str)) = false := by decide)
    (he : starEach (e :: es) X.env = (false, eval e X.env) :: starEach es X.env := by rfl) (hpl : (backTo pos (starEach es X.env)).any (·.1) = false := by rfl) : PE X (.Call (.Name x p) (e :: es) [] pos) (tCB r t) := by
  intro pins s σ H Q I h
  refine wpAny_Call_Name_kw (ld_blt I hg hm hv ?_ hn hdb)
  exact PyProof.Rows.callWith_builtin1 (thn (ha pos pins s σ H _ I h) fun us s1 ⟨vs, H1, I1, r1, q1⟩ => hc pins s1 σ H1 vs us Q I1 r1 q1) he hpl
theorem pe_callTy (hc : CallR X (.type T) r) (hg : Gl X x) (hm : X.mg x = none) (hv : bootBuiltins x = some (.type T)) (ha : PA X (e :: es) t) (hn : x ≠ "__name__" := by decide) (hdb : (x == ("__debug__" : Str)) = false := by decide)
    (he : starEach (e :: es) X.env = (false, eval e X.env) :: starEach es X.env := by rfl) (hpl : (backTo pos (starEach es X.env)).any (·.1) = false := by rfl) : PE X (.Call (.Name x p) (e :: es) [] pos) (tCB r t) := by
  intro pins s σ H Q I h
  refine wpAny_Call_Name_kw (ld_blt I hg hm hv ?_ hn hdb)
  exact PyProof.Rows.callWith_type1 (thn (ha pos pins s σ H _ I h) fun us s1 ⟨vs, H1, I1, r1, q1⟩ => hc pins s1 σ H1 vs us Q I1 r1 q1) he hpl
end
end L2
namespace HT
open PySem PyProof.Rows
section
open PySem.SeqAt
open PySem.AutoSeq1 (wpAny_loadPart')
open PySem.MeetsSeq PySem.MeetsSeq2 PySem.MeetsSeq3
end
section
variable {prog : Program} {w : World} {A : Around} {E : Value → Shared → Prop} {s : Shared}
theorem cat_tup {t b : Addr} {vs ws : List Value} {Q : Value → Shared → Prop} (ht : IsTup s.heap t vs.toArray) (hb : IsTup s.heap b ws.toArray) (hv : vs ≠ [])
    (h1 : ws = [] → Q (.ref t) s) (h2 : ws ≠ [] → Q (.ref s.heap.objs.size) { s with heap := s.heap.push { cls := .type "tuple", data := .seq (vs ++ ws).toArray } })
    (hsz : vs.length + ws.length ≤ sizeLine) : wpAny (model prog w) A (binaryOp .Add (.ref t) (.ref b)) Q E s := by
  obtain ⟨⟨cls, dd, data, sl⟩, ho, hc, n, hd⟩ := id ht
  obtain ⟨⟨cls2, dd2, data2, sl2⟩, ho2, hc2, n2, hd2⟩ := id hb
  simp only at hc hd hc2 hd2
  subst hc hd hc2 hd2
  have e : vs.toArray ++ ws.toArray = (vs ++ ws).toArray := by simp
  by_cases hw : ws = []
  · exact concat_meets ⟨_, ho, rfl⟩ ⟨_, ho2, rfl⟩ noFill_tuple_add seq_tuple_add PySem.F.slot_tuple_add PySem.F.entry_tuple_add (PySem.F.args_tuple_add_2 _ _)
      (tuple_addW1 t b vs.toArray ws.toArray n n2 dd dd2 sl sl2 (by simpa using hv) (by simp [hw])) ⟨ho, ho2, h1 hw⟩
  · refine concat_meets ⟨_, ho, rfl⟩ ⟨_, ho2, rfl⟩ noFill_tuple_add seq_tuple_add PySem.F.slot_tuple_add PySem.F.entry_tuple_add (PySem.F.args_tuple_add_2 _ _)
      (tuple_addW2 t b vs.toArray ws.toArray n n2 dd dd2 sl sl2 (by simpa using hv) (by simpa using hw) (by rw [List.size_toArray, List.size_toArray]; exact hsz)) ⟨ho, ho2, ?_⟩
    rw [e]
    exact h2 hw
def sIx (n d : Nat) : Option Int → Nat
  | none => d
  | some v => if v < 0 then (v + (n : Int)).toNat else min v.toNat n
theorem sIx_none (n d : Nat) : sIx n d none = d := rfl
theorem sIx_nat (n d k : Nat) : sIx n d (some (k : Int)) = min k n := by
  show (if (k : Int) < 0 then ((k : Int) + (n : Int)).toNat else min (k : Int).toNat n) = min k n
  rw [if_neg (by omega), Int.toNat_natCast]
theorem sIx_le (n d : Nat) (hd : d ≤ n) (o : Option Int) : sIx n d o ≤ n := by
  cases o with
  | none => exact hd
  | some v =>
    show (if v < 0 then (v + (n : Int)).toNat else min v.toNat n) ≤ n
    by_cases hv : v < 0
    · rw [if_pos hv]; omega
    · rw [if_neg hv]; exact Nat.min_le_right _ _
theorem clip_eq (v : Int) (n d : Nat) : (if v < 0 then max (v + (n : Int)) 0 else min v (n : Int)) = ((sIx n d (some v) : Nat) : Int) := by
  show (if v < 0 then max (v + (n : Int)) 0 else min v (n : Int)) = (((if v < 0 then (v + (n : Int)).toNat else min v.toNat n) : Nat) : Int)
  by_cases hv : v < 0
  · simp only [if_pos hv]; omega
  · simp only [if_neg hv]; omega
theorem adjust_gen (lo hi : Option Int) (n : Nat) : Builtin.Slice.sliceAdjust lo hi 1 (n : Int) = (((sIx n 0 lo : Nat) : Int), ((sIx n n hi : Nat) : Int)) := by
  have h1 : ¬ ((1 : Int) < 0) := by omega
  unfold Builtin.Slice.sliceAdjust
  simp only [h1, if_false]
  refine Prod.ext ?_ ?_
  · cases lo with
    | none => rfl
    | some v => exact clip_eq v n 0
  · cases hi with
    | none => rfl
    | some v => exact clip_eq v n n
theorem places_gen (i j : Nat) : Builtin.Slice.slicePlaces (i : Int) (j : Int) 1 = j - i := by
  unfold Builtin.Slice.slicePlaces
  have h1 : (1 : Int) > 0 := by omega
  simp only [h1, if_true, Int.ediv_one]
  split <;> omega
theorem slicePart_ {v : Value} {o : Option Int} {Q : Option Int → Shared → Prop} (p : IsPart v o) (h : Q o s) : wpAny (model prog w) A (Builtin.Slice.slicePartIndex v) Q E s := by
  cases p with
  | none => exact slicePart_none h
  | int i t => exact slicePart_int h
theorem sliceApplied_gen {sl : Addr} {vl vu : Value} {lo hi : Option Int} {n : Nat} {Q : Int × Int × Nat → Shared → Prop} (hs : s.heap.IsSliceOf sl vl vu .none) (pl : IsPart vl lo) (pu : IsPart vu hi)
    (h : Q (((sIx n 0 lo : Nat) : Int), 1, sIx n n hi - sIx n 0 lo) s) : wpAny (model prog w) A (Builtin.Slice.sliceApplied (.ref sl) (pure (n : Int))) Q E s := by
  obtain ⟨os, hos, hcs, hds⟩ := id hs
  unfold Builtin.Slice.sliceApplied Builtin.Slice.sliceFields
  refine wpAny_bind (wpAny_bind (wpAny_field hos hds (x := vl) rfl (wpAny_bind (wpAny_field hos hds (x := vu) rfl (wpAny_bind (wpAny_field hos hds (x := .none) rfl (wpAny_pure ?_)))))))
  refine wpAny_bind (slicePart_none ?_)
  show wpAny _ _ (if ((1 : Int) == 0) = true then _ else _) _ _ s
  rw [if_neg (by decide)]
  refine wpAny_bind (slicePart_ pl (wpAny_bind (slicePart_ pu (wpAny_bind (wpAny_pure ?_)))))
  show wpAny _ _ (match Builtin.Slice.sliceAdjust lo hi 1 (n : Int) with | (lo, hi) => pure (lo, (1 : Int), Builtin.Slice.slicePlaces lo hi 1)) _ _ s
  rw [adjust_gen lo hi n]
  show wpAny _ _ (pure (((sIx n 0 lo : Nat) : Int), (1 : Int), Builtin.Slice.slicePlaces ((sIx n 0 lo : Nat) : Int) ((sIx n n hi : Nat) : Int) 1)) _ _ s
  rw [places_gen]
  exact wpAny_pure h
theorem pick_gen (xs : Array Value) (i k : Nat) : ((List.range k).filterMap fun (m : Nat) => xs[((i : Int) + (m : Int) * 1).toNat]?).toArray = ((xs.toList.drop i).take k).toArray := by
  have e : (fun (m : Nat) => xs[((i : Int) + (m : Int) * 1).toNat]?) = fun m => xs[i + m]? := by
    funext m
    have : ((i : Int) + (m : Int) * 1).toNat = i + m := by omega
    rw [this]
  rw [e]
  have := pick_run xs i k
  rw [List.filterMap_map] at this
  have e2 : ((fun x => xs[x]?) ∘ fun x => i + x) = fun m => xs[i + m]? := rfl
  rw [e2] at this
  rw [this]
theorem getItem_tuple_cut {t sl : Addr} {items : Array Value} {vl vu : Value} {lo hi : Option Int} {Q : Value → Shared → Prop} (ht : IsTup s.heap t items) (hs : s.heap.IsSliceOf sl vl vu .none) (pl : IsPart vl lo) (pu : IsPart vu hi)
    (hw : ¬ (sIx items.size 0 lo = 0 ∧ sIx items.size items.size hi = items.size))
    (h : Q (.ref s.heap.objs.size) { s with heap := s.heap.push { cls := .type "tuple", data := .seq ((items.toList.drop (sIx items.size 0 lo)).take (sIx items.size items.size hi - sIx items.size 0 lo)).toArray } })
    (hsz : items.size ≤ sizeLine) : wpAny (model prog w) A (getItem (.ref t) (.ref sl)) Q E s := by
  have htake : sizeOk (.seq ((items.toList.drop (sIx items.size 0 lo)).take (sIx items.size items.size hi - sIx items.size 0 lo)).toArray) := by
    show ((items.toList.drop (sIx items.size 0 lo)).take (sIx items.size items.size hi - sIx items.size 0 lo)).toArray.size ≤ sizeLine
    rw [List.size_toArray, List.length_take, List.length_drop, Array.length_toList]
    omega
  have hj : sIx items.size items.size hi ≤ items.size := sIx_le _ _ (Nat.le_refl _) hi
  obtain ⟨os, hos, hcs, hds⟩ := id hs
  have hTs : s.TypeIs (.ref sl) "slice" := ⟨os, hos, hcs⟩
  unfold getItem
  try with_reducible refine wpAny_holding ?_
  first | refine wpAny_bind (wpAny_pure ?_) | skip
  refine wpAny_bind (wpAny_sequenceKey ht.typeIs (by decide) ?_)
  refine wpAny_bind (wpAny_callSpecial?_slot (name := Str.ofString "__getitem__") ht.typeIs PyProof.Rows.slot_tuple_getitem
    (wpAny_call_entry PyProof.Rows.slot_tuple_getitem ht.typeIs entry_tuple_getitem ?_ (args_tuple_getitem _ _)))
  show wpAny _ _ (Builtin.Tuple.tupleItemsOf (.ref t) >>= _) _ _ s
  refine wpAny_bind (tupleItemsOf_ ht ?_)
  refine wpAny_bind (wpAny_typeOf hTs ?_)
  rw [if_pos (by decide)]
  refine wpAny_bind (sliceApplied_gen hs pl pu ?_)
  have hno : ¬ ((((sIx items.size 0 lo : Nat) : Int) == 0 && (1 : Int) == 1 && (sIx items.size items.size hi - sIx items.size 0 lo) == items.size) = true) := by
    intro q
    rw [Bool.and_eq_true, Bool.and_eq_true] at q
    have q1 : ((sIx items.size 0 lo : Nat) : Int) = 0 := eq_of_beq q.1.1
    have q2 : sIx items.size items.size hi - sIx items.size 0 lo = items.size := eq_of_beq q.2
    exact hw ⟨by omega, by omega⟩
  show wpAny _ _ (if (((sIx items.size 0 lo : Nat) : Int) == 0 && (1 : Int) == 1 && (sIx items.size items.size hi - sIx items.size 0 lo) == items.size) = true then _ else _) _ _ s
  rw [if_neg hno, pick_gen]
  first
    | exact wpAny_bind (m := Builtin.Tuple.tupleExact _) (wpAny_newObj_type (wpAny_pure ⟨_, rfl, wpAny_pure h⟩) htake)
    | exact wpAny_bind (m := Builtin.Tuple.tupleExact _) (wpAny_newObj_type (wpAny_bind (wpAny_pure (wpAny_pure ⟨_, rfl, wpAny_pure h⟩))) htake)
    | exact wpAny_bind (wpAny_bind (m := Builtin.Tuple.tupleExact _) (wpAny_newObj_type (wpAny_pure (wpAny_pure ⟨_, rfl, wpAny_pure h⟩)) htake))
    | exact wpAny_bind (wpAny_bind (m := Builtin.Tuple.tupleExact _) (wpAny_newObj_type (wpAny_pure ⟨_, rfl, wpAny_pure h⟩) htake))
end
end HT
namespace L2
open PySem PySem.Spec PyProof.Rows
abbrev TO := St → Hp → (Option Int → Hp → Prop) → Prop
def PO (X : Cx) (e : Option Expr) (t : TO) : Prop :=
  ∀ (pins : List (Addr × Obj)) (s : Shared) (σ : St) (H : Hp) (Q : Option Int → Hp → Prop), Inv X pins σ H s → t σ H Q →
    wpAny (model X.prog X.w) X.A (evalPart e X.env) (fun u s' => ∃ o H', Inv X pins σ H' s' ∧ IsPart u o ∧ Q o H') X.xe s
def tNoPart : TO := fun _ H Q => Q none H
def tPart (t : TE) : TO := fun σ H Q => t σ H fun x H1 => ∃ i, x = .int i ∧ Q (some i) H1
section
variable {X : Cx} {e : Expr} {te : TE} {lo hi : Option Expr} {tl th : TO} {pos p2 : Pos}
theorem po_none : PO X none tNoPart := by
  intro pins s σ H Q I h
  rw [evalPart_none]
  exact wpAny_pure ⟨none, H, I, .none, h⟩
theorem po_some (h : PE X e te) : PO X (some e) (tPart te) := by
  intro pins s σ H Q I hw
  rw [evalPart_some]
  refine thn (h pins s σ H _ I hw) fun u s1 ⟨x, H1, I1, r1, q1⟩ => ?_
  obtain ⟨i, rfl, q⟩ := q1
  obtain ⟨t, rfl⟩ := r1
  exact ⟨some i, H1, I1, .int i t, q⟩
def SlR (X : Cx) (r : V → Option Int → Option Int → Hp → VK → Prop) : Prop :=
  ∀ (pins : List (Addr × Obj)) (s : Shared) (σ : St) (H : Hp) (x : V) (v vl vu : Value) (lo hi : Option Int) (sl : Addr) (Q : VK), Inv X pins σ H s → RelV x v → s.heap.IsSliceOf sl vl vu .none → IsPart vl lo → IsPart vu hi → r x lo hi H Q →
    ∃ T id, typeLookup (.type T) "__getitem__" = pure (some (.builtin id)) ∧ s.TypeIs v T ∧ wpAny (model X.prog X.w) X.A (getItem v (.ref sl)) (EP X pins σ Q) X.xe s
def tSl (r : V → Option Int → Option Int → Hp → VK → Prop) (te : TE) (tl th : TO) : TE := fun σ H Q => te σ H fun x H1 => tl σ H1 fun l H2 => th σ H2 fun u H3 => r x l u H3 Q
theorem pe_slice {r : V → Option Int → Option Int → Hp → VK → Prop} (hr : SlR X r) (he : PE X e te) (hl : PO X lo tl) (hu : PO X hi th) : PE X (.Subscript e (.Slice lo hi none p2) pos) (tSl r te tl th) := by
  intro pins s σ H Q I h
  refine Subscript_ (thn (he pins s σ H _ I h) fun v s1 ⟨x, H1, I1, r1, q1⟩ => ?_)
  refine wpAny_Slice (thn (hl pins s1 σ H1 _ I1 q1) fun vl s2 ⟨l, H2, I2, pl, q2⟩ => thn (hu pins s2 σ H2 _ I2 q2) fun vu s3 ⟨u, H3, I3, pu, q3⟩ => ?_)
  rw [evalPart_none]
  refine wpAny_pure ?_
  have I4 : Inv X pins σ H3 { s3 with heap := s3.heap.push { cls := .type "slice", data := .fields #[vl, vu, .none] } } := I3.kept (t' := s3.toks) fun b ob q => Heap.get?_push_of_some _ q
  obtain ⟨T, id, hT, ht, hg⟩ := hr pins { s3 with heap := s3.heap.push { cls := .type "slice", data := .fields #[vl, vu, .none] } } σ H3 x v vl vu l u s3.heap.objs.size Q I4 r1 (Heap.IsSliceOf.new ..) pl pu q3
  show wpAny (model X.prog X.w) X.A (subscriptTail e (.Slice lo hi none p2) v (.ref s3.heap.objs.size)) (EP X pins σ Q) X.xe { s3 with heap := s3.heap.push { cls := .type "slice", data := .fields #[vl, vu, .none] } }
  exact tail_any (ops := [.ref s3.heap.objs.size, v]) ht hT hg (by with_unfolding_all rfl)
def cutV (xs : List V) (lo hi : Option Int) : List V := (xs.drop (HT.sIx xs.length 0 lo)).take (HT.sIx xs.length xs.length hi - HT.sIx xs.length 0 lo)
theorem cutV_length (xs : List V) (lo hi : Option Int) : (cutV xs lo hi).length ≤ xs.length := by
  unfold cutV
  rw [List.length_take, List.length_drop]
  omega
def rSlT (K : PySem.W.Frag) : V → Option Int → Option Int → Hp → VK → Prop := fun x lo hi H Q => ∃ a xs, x = .ref a ∧ SqT K H a xs ∧
  ¬ (HT.sIx xs.length 0 lo = 0 ∧ HT.sIx xs.length xs.length hi = xs.length) ∧ ∀ p, H p = none → Q (.ref p) (upd H p (.tup (cutV xs lo hi)))
theorem sl_tup : SlR X (rSlT X.K) := by
  intro pins s σ H x v vl vu lo hi sl Q I rx hs pl pu h
  obtain ⟨a, xs, rfl, hx, hw, q⟩ := h
  cases rx
  obtain ⟨its, r, ht, hz⟩ := I.tuple hx
  have hlen : its.toArray.size = xs.length := by rw [List.size_toArray]; exact r.length.symm
  refine ⟨"tuple", _, PyProof.Rows.slot_tuple_getitem.lookup, ht.typeIs, ?_⟩
  refine HT.getItem_tuple_cut ht hs pl pu (by rw [hlen]; exact hw) ?_ (by rw [hlen]; exact hz)
  rw [hlen]
  refine ⟨.ref s.heap.objs.size, _, I.laid (t' := s.toks) (o := .tup (cutV xs lo hi)) (fun b ob q => Heap.get?_push_of_some _ q) (Nat.le_refl _) ?_, rfl, q _ (I.hok.fresh (Nat.le_refl _))⟩
  exact ⟨Nat.le_trans (cutV_length xs lo hi) hz, _, (r.drop (HT.sIx xs.length 0 lo)).take (HT.sIx xs.length xs.length hi - HT.sIx xs.length 0 lo), IsTup.new _ _⟩
def rCatT (K : PySem.W.Frag) : R2 := fun x y H Q => ∃ a b xs ys, x = .ref a ∧ y = .ref b ∧ SqT K H a xs ∧ SqT K H b ys ∧ xs ≠ [] ∧ xs.length + ys.length ≤ sizeLine ∧
  (ys = [] → Q (.ref a) H) ∧ (ys ≠ [] → ∀ p, H p = none → Q (.ref p) (upd H p (.tup (xs ++ ys))))
theorem Vals.nil_iff {xs : List V} {us : List Value} (r : Vals xs us) : us = [] ↔ xs = [] := by
  cases r with
  | nil => simp
  | cons _ _ => simp
theorem op_catT : OpR X (binaryOp .Add) (rCatT X.K) := by
  intro pins s σ H x y v u Q I rx ry h
  obtain ⟨a, b, xs, ys, rfl, rfl, ha, hb, hx, hz, q1, q2⟩ := h
  cases rx
  cases ry
  obtain ⟨its, r1, p1, _⟩ := I.tuple ha
  obtain ⟨its2, r2, p2, _⟩ := I.tuple hb
  refine HT.cat_tup p1 p2 (fun z => hx (r1.nil_iff.mp z)) (fun z => ⟨.ref a, H, I, rfl, q1 (r2.nil_iff.mp z)⟩) (fun z => ?_) (by rw [← r1.length, ← r2.length]; exact hz)
  refine ⟨.ref s.heap.objs.size, _, I.laid (t' := s.toks) (o := .tup (xs ++ ys)) (fun b ob q => Heap.get?_push_of_some _ q) (Nat.le_refl _) ?_, rfl, q2 (fun w => z (r2.nil_iff.mpr w)) _ (I.hok.fresh (Nat.le_refl _))⟩
  exact ⟨by rw [List.length_append]; exact hz, _, r1.append r2, IsTup.new _ _⟩
end
end L2
namespace L2
open PySem PySem.Spec PyProof.Rows
def ixN (n : Nat) (i : Int) : Option Nat := if 0 ≤ i then (if i < n then some i.toNat else none) else if -(n : Int) ≤ i then some (i + n).toNat else none
def atI {α : Type} (xs : List α) (i : Int) : Option α := (ixN xs.length i).bind fun j => xs[j]?
theorem ixN_seq {n : Nat} {i : Int} {j : Nat} (h : ixN n i = some j) : seqIndex? i n = some j ∧ j < n ∧ -(n : Int) ≤ i ∧ i < n := by
  unfold ixN at h
  by_cases h0 : 0 ≤ i
  · rw [if_pos h0] at h
    by_cases h1 : i < n
    · rw [if_pos h1] at h
      have e : i.toNat = j := Option.some.inj h
      exact ⟨by rw [seqIndex_of h0 h1, e], by omega, by omega, h1⟩
    · rw [if_neg h1] at h; cases h
  · rw [if_neg h0] at h
    by_cases h1 : -(n : Int) ≤ i
    · rw [if_pos h1] at h
      have e : (i + n).toNat = j := Option.some.inj h
      exact ⟨by rw [seqIndex_neg (by omega) h1, e], by omega, h1, by omega⟩
    · rw [if_neg h1] at h; cases h
theorem atI_get {α : Type} {xs : List α} {i : Int} {v : α} (h : atI xs i = some v) : ∃ j, seqIndex? i xs.length = some j ∧ xs[j]? = some v ∧ j < xs.length ∧ -(xs.length : Int) ≤ i ∧ i < xs.length := by
  unfold atI at h
  cases e : ixN xs.length i with
  | none => rw [e] at h; cases h
  | some j =>
    rw [e] at h
    obtain ⟨h1, h2, h3, h4⟩ := ixN_seq e
    exact ⟨j, h1, h, h2, h3, h4⟩
theorem atI_nat {α : Type} {xs : List α} {j : Nat} {v : α} (h : xs[j]? = some v) : atI xs (j : Int) = some v := by
  have hj : j < xs.length := (List.getElem?_eq_some_iff.mp h).1
  have e : ixN xs.length (j : Int) = some j := by
    unfold ixN
    rw [if_pos (by omega), if_pos (by omega)]; simp
  unfold atI; rw [e]; exact h
def PlainIx (b : Expr) : Prop := ∀ o i, subscripted b false o i = operate [o, i] (getItem o i)
def IxR (X : Cx) (r : R2) : Prop :=
  ∀ (value slice : Expr) (pins : List (Addr × Obj)) (s : Shared) (σ : St) (H : Hp) (x y : V) (v u : Value) (Q : VK), Inv X pins σ H s → RelV x v → RelV y u → r x y H Q →
    subscripted slice false v u = operate [v, u] (getItem v u) → wpAny (model X.prog X.w) X.A (subscriptTail value slice v u) (EP X pins σ Q) X.xe s
def MtR (X : Cx) (id : String) (r : V → List V → Hp → VK → Prop) : Prop :=
  ∀ (pins : List (Addr × Obj)) (s : Shared) (σ : St) (H : Hp) (x : V) (xs : List V) (v : Value) (us : List Value) (Q : VK), Inv X pins σ H s → RelV x v → Vals xs us → r x xs H Q →
    wpAny (model X.prog X.w) X.A (call (.builtin id) (v :: us)) (EP X pins σ Q) X.xe s
section
variable {X : Cx} {a b : Expr} {ta tb : TE} {pos : Pos}
theorem pe_ix {r : R2} (hr : IxR X r) (ha : PE X a ta) (hb : PE X b tb) (hs : PlainIx b) : PE X (.Subscript a b pos) (tOp r ta tb) := by
  intro pins s σ H Q I h
  exact Subscript_ (binT ha hb I h fun v u s2 x y H2 I2 rx ry q => hr a b pins s2 σ H2 x y v u Q I2 rx ry q (hs _ _))
def rIxL (K : PySem.W.Frag) : R2 := fun x y H Q => ∃ p xs i v, x = .ref p ∧ y = .int i ∧ SqL K H p xs ∧ atI xs i = some v ∧ Q v H
def rIxT (K : PySem.W.Frag) : R2 := fun x y H Q => ∃ p xs i v, x = .ref p ∧ y = .int i ∧ SqT K H p xs ∧ atI xs i = some v ∧ Q v H
def rIxS : R2 := fun x y H Q => ∃ z i c, x = .str z ∧ y = .int i ∧ z.length ≤ sizeLine ∧ atI z.cps.toList i = some c ∧ Q (.str ⟨#[c]⟩) H
theorem ix_list : IxR X (rIxL X.K) := by
  intro value slice pins s σ H x y v u Q I rx ry h hs
  obtain ⟨p, xs, i, z, rfl, rfl, hq, he, q⟩ := h
  cases rx
  obtain ⟨t, rfl⟩ := ry
  obtain ⟨its, r, pl, hz⟩ := I.list hq
  obtain ⟨j, h1, h2, h3, h4, h5⟩ := atI_get he
  obtain ⟨w, ew, rw'⟩ := r.get h2
  have hl := r.length
  have hn := line63
  have fin : EP X pins σ Q w s := ⟨z, H, I, rw', q⟩
  by_cases h0 : 0 ≤ i
  · have hj : i.toNat = j := by
      rw [seqIndex_of h0 h5] at h1
      exact Option.some.inj h1
    exact item_listR pl.isList h0 (by omega) (by rw [hj]; simpa using ew) fin hs
  · have hj : (i + (its.toArray.size : Int)).toNat = j := by
      rw [seqIndex_neg (by omega) h4] at h1
      rw [List.size_toArray, ← hl]
      exact Option.some.inj h1
    exact subscriptTail_builtinR (x := w) pl.isList.typeIs slot_list_getitem.lookup
      (wpAny_getItem_list_neg (Q := fun r s' => r = w ∧ EP X pins σ Q r s') pl.isList (by omega) (by rw [List.size_toArray] <;> omega) (by omega) (by rw [hj]; simpa using ew) ⟨rfl, fin⟩) hs
theorem ix_tup : IxR X (rIxT X.K) := by
  intro value slice pins s σ H x y v u Q I rx ry h hs
  obtain ⟨p, xs, i, z, rfl, rfl, hq, he, q⟩ := h
  cases rx
  obtain ⟨t, rfl⟩ := ry
  obtain ⟨its, r, pl, hz⟩ := I.tuple hq
  obtain ⟨j, h1, h2, h3, h4, h5⟩ := atI_get he
  obtain ⟨w, ew, rw'⟩ := r.get h2
  have hl := r.length
  have hn := line63
  have fin : EP X pins σ Q w s := ⟨z, H, I, rw', q⟩
  exact subscriptTail_builtinR (x := w) pl.typeIs slot_tuple_getitem.lookup
    (getItem_tuple (j := j) (Q := fun r s' => r = w ∧ EP X pins σ Q r s') pl (by omega) (by omega) (by rw [List.size_toArray, ← hl]; exact h1) (by simpa using ew) ⟨rfl, fin⟩) hs
theorem ix_str : IxR X rIxS := by
  intro value slice pins s σ H x y v u Q I rx ry h hs
  obtain ⟨z, i, c, rfl, rfl, hz, he, q⟩ := h
  obtain ⟨t, rfl⟩ := rx
  obtain ⟨t', rfl⟩ := ry
  obtain ⟨j, h1, h2, h3, h4, h5⟩ := atI_get he
  have hl : z.cps.toList.length = z.length := by simp [Str.length]
  rw [hl] at h1 h4 h5
  have hn := line63
  exact tail_any (typeIs_str s z t) slot_str_getitem.lookup (getItem_str (c := c) (by
    have e1 : decide (i < -(2 ^ 63 : Int)) = false := decide_eq_false (by omega)
    have e2 : decide (i ≥ 2 ^ 63) = false := decide_eq_false (by omega)
    rw [e1, e2, Bool.or_false]) (by rw [h1]; simpa using h2) ⟨.str ⟨#[c]⟩, H, I.tok _, ⟨_, rfl⟩, q⟩) hs
theorem mapSeq_set (its : List Value) (n j : Nat) (u : Value) : Obj.mapSeq (·.setIfInBounds j u) { cls := .type "list", data := .seq its.toArray n } = { cls := .type "list", data := .seq (its.set j u).toArray n } := by
  simp [Obj.mapSeq]
theorem Inv.lst {pins : List (Addr × Obj)} {σ : St} {H : Hp} {s : Shared} {p : Addr} {xs : List V} (I : Inv X pins σ H s) (h : H p = some (.lst xs)) :
    ∃ (its : List Value) (n : Nat), Vals xs its ∧ s.heap.get? p = some { cls := .type "list", data := .seq its.toArray n } ∧ xs.length ≤ sizeLine := by
  obtain ⟨z, its, n, r, e⟩ := I.hok p _ h
  exact ⟨its, n, r, e, z⟩
theorem Inv.lstUpd {pins : List (Addr × Obj)} {σ : St} {H : Hp} {s : Shared} {p : Addr} {xs ys : List V} {its its' : List Value} {n n' : Nat} {f : Obj → Obj} (I : Inv X pins σ H s) (h : H p = some (.lst xs))
    (ho : s.heap.get? p = some { cls := .type "list", data := .seq its.toArray n }) (hf : f { cls := .type "list", data := .seq its.toArray n } = { cls := .type "list", data := .seq its'.toArray n' }) (r : Vals ys its') (hz : ys.length ≤ sizeLine) (t : Nat) :
    Inv X pins σ (upd H p (.lst ys)) { s with heap := s.heap.update p f, toks := t } := by
  have e : (s.heap.update p f).get? p = some { cls := .type "list", data := .seq its'.toArray n' } := by
    rw [Heap.get?_update_self f ho (by rw [hf] <;> rfl), hf]
  refine I.write (x := p) (e := p) (by rw [h]; trivial) (.inl rfl) (fun b u hb q => (Heap.get?_update_other _ _ (Ne.symm hb)).trans q) ⟨_, e⟩ ?_
  exact ⟨hz, its', n', r, e⟩
def rSetL : V → V → V → Hp → (Hp → Prop) → Prop := fun o i v H Q => ∃ p xs k j, o = .ref p ∧ i = .int k ∧ H p = some (.lst xs) ∧ ixN xs.length k = some j ∧ Q (upd H p (.lst (xs.set j v)))
theorem set_list : PSet X rSetL := by
  intro pins s σ H o i v ov iv u Q I ro ri rv h
  obtain ⟨p, xs, k, j, rfl, rfl, hp, hj, q⟩ := h
  cases ro
  obtain ⟨t, rfl⟩ := ri
  obtain ⟨its, n, r, ho, hz⟩ := I.lst hp
  obtain ⟨h1, h2, h3, h4⟩ := ixN_seq hj
  have hl := r.length
  have hn := line63
  have I' : Inv X pins σ (upd H p (.lst (xs.set j v))) { s with heap := s.heap.update p (Obj.mapSeq (·.setIfInBounds j u)) } :=
    I.lstUpd hp ho (mapSeq_set its n j u) (r.set rv j) (by rw [List.length_set]; exact hz) s.toks
  by_cases h0 : 0 ≤ k
  · have hk : k.toNat = j := by
      rw [seqIndex_of h0 h4] at h1
      exact Option.some.inj h1
    exact PySem.W.ki_setAt ho h0 (by omega) (by rw [List.size_toArray, ← hl]; exact h4) (by rw [hk]; exact ⟨_, I', q⟩)
  · have hk : (k + (its.toArray.size : Int)).toNat = j := by
      rw [seqIndex_neg (by omega) h3] at h1
      rw [List.size_toArray, ← hl]
      exact Option.some.inj h1
    exact PySem.W.ki_setBack ho (by omega) (by rw [List.size_toArray, ← hl]; exact h3) (by omega) (by rw [hk]; exact ⟨_, I', q⟩)
theorem slice_bounds (lo hi : Option Int) (n : Nat) : (sliceBounds lo hi none n).1 = ((HT.sIx n 0 lo : Nat) : Int) ∧ (sliceBounds lo hi none n).2.1 = ((HT.sIx n n hi : Nat) : Int) ∧ (sliceBounds lo hi none n).2.2 = 1 := by
  refine ⟨?_, ?_, rfl⟩
  · cases lo with
    | none => simp [sliceBounds, HT.sIx]
    | some i =>
      simp only [sliceBounds, HT.sIx, Option.getD_none, show (1 : Int) > 0 by decide, if_true]
      by_cases h : i < 0
      · simp only [h, if_true] <;> omega
      · simp only [h, if_false] <;> omega
  · cases hi with
    | none => simp [sliceBounds, HT.sIx]
    | some i =>
      simp only [sliceBounds, HT.sIx, Option.getD_none, show (1 : Int) > 0 by decide, if_true]
      by_cases h : i < 0
      · simp only [h, if_true] <;> omega
      · simp only [h, if_false] <;> omega
theorem slicePick_cut (its : List Value) (lo hi : Option Int) : slicePick its.toArray lo hi none = ((its.drop (HT.sIx its.length 0 lo)).take (HT.sIx its.length its.length hi - HT.sIx its.length 0 lo)).toArray := by
  obtain ⟨h1, h2, h3⟩ := slice_bounds lo hi its.toArray.size
  unfold slicePick
  rw [h1, h2, h3]
  simp only [sliceRange_one, pick_run, List.size_toArray] <;> rfl
def rSlL (K : PySem.W.Frag) : V → Option Int → Option Int → Hp → VK → Prop := fun x lo hi H Q => ∃ a xs, x = .ref a ∧ SqL K H a xs ∧ ∀ p, H p = none → Q (.ref p) (upd H p (.lst (cutV xs lo hi)))
theorem sl_list : SlR X (rSlL X.K) := by
  intro pins s σ H x v vl vu lo hi sl Q I rx hs pl pu h
  obtain ⟨a, xs, rfl, hx, q⟩ := h
  cases rx
  obtain ⟨its, r, ht, hz⟩ := I.list hx
  have hlen := r.length
  refine ⟨"list", _, slot_list_getitem.lookup, ht.isList.typeIs, ?_⟩
  refine wpAny_getItem_list_slice ht.isList hs pl pu .none (by simp) ?_ (by rw [List.size_toArray] <;> omega)
  rw [slicePick_cut, ← hlen]
  refine ⟨.ref s.heap.objs.size, _, I.laid (t' := s.toks) (o := .lst (cutV xs lo hi)) (fun b ob q => Heap.get?_push_of_some _ q) (Nat.le_refl _) ?_, rfl, q _ (I.hok.fresh (Nat.le_refl _))⟩
  exact ⟨Nat.le_trans (cutV_length xs lo hi) hz, _, 0, (r.drop (HT.sIx xs.length 0 lo)).take (HT.sIx xs.length xs.length hi - HT.sIx xs.length 0 lo), Heap.get?_push_size _ rfl⟩
theorem call_list_of : CallR X (.type "list") (fun xs H Q => ∃ p ys, xs = [.ref p] ∧ (SqL X.K H p ys ∨ SqT X.K H p ys) ∧ ∀ l, H l = none → Q (.ref l) (upd H l (.lst ys))) := by
  intro pins s σ H xs us Q I r h
  obtain ⟨p, ys, rfl, hq, q⟩ := h
  obtain ⟨u, rfl, rx⟩ := vals1 r
  cases rx
  have fin : ∀ (its : List Value), Vals ys its → ys.length ≤ sizeLine → ∀ (h' : Heap) (c' : Nat), (∀ b o', s.heap.get? b = some o' → h'.get? b = some o') →
      h'.get? s.heap.objs.size = some { cls := .type "list", dict := none, data := .seq its.toArray c', slots := #[] } → EP X pins σ Q (.ref s.heap.objs.size) { s with heap := h' } := fun its r' hz h' c' kp e =>
    ⟨.ref s.heap.objs.size, _, I.laid (t' := s.toks) kp (Nat.le_refl _) (show ObjOk X.prog X.w _ h' _ (.lst ys) from ⟨hz, its, c', r', e⟩), rfl, q _ (I.hok.fresh (Nat.le_refl _))⟩
  rcases hq with hq | hq
  · obtain ⟨its, r', pl, hz⟩ := I.list hq
    have hlen := r'.length
    obtain ⟨o, ho, hc, n, hd⟩ := pl.isList
    exact call_list_seq p (.inl rfl) ho hc hd (fun h' c' kp e => fin its r' hz h' c' kp e) (by simp only [List.size_toArray] <;> omega)
  · obtain ⟨its, r', pl, hz⟩ := I.tuple hq
    have hlen := r'.length
    obtain ⟨o, ho, hc, n, hd⟩ := pl
    exact call_list_seq p (.inr rfl) ho hc hd (fun h' c' kp e => fin its r' hz h' c' kp e) (by simp only [List.size_toArray] <;> omega)
theorem call_tuple_of : CallR X (.type "tuple") (fun xs H Q => ∃ p ys, xs = [.ref p] ∧ ((SqL X.K H p ys ∧ ∀ l, H l = none → Q (.ref l) (upd H l (.tup ys))) ∨ (SqT X.K H p ys ∧ Q (.ref p) H))) := by
  intro pins s σ H xs us Q I r h
  obtain ⟨p, ys, rfl, h⟩ := h
  obtain ⟨u, rfl, rx⟩ := vals1 r
  cases rx
  rcases h with ⟨hq, q⟩ | ⟨hq, q⟩
  · obtain ⟨its, r', pl, hz⟩ := I.list hq
    have hlen := r'.length
    refine call_tuple_list pl.isList (fun h' kp => ?_) (by simp only [List.size_toArray] <;> omega)
    have I1 : Inv X pins σ H { s with heap := h' } := I.kept (t' := s.toks) kp
    have I2 : Inv X pins σ (upd H h'.objs.size (.tup ys)) { s with heap := h'.push { cls := .type "tuple", data := .seq its.toArray } } :=
      I1.laid (t' := s.toks) (fun b o e => Heap.get?_push_of_some _ e) (Nat.le_refl _) (show ObjOk X.prog X.w _ _ _ (.tup ys) from ⟨hz, its, r', IsTup.new _ _⟩)
    exact ⟨.ref h'.objs.size, _, I2, rfl, q _ (I1.hok.fresh (Nat.le_refl _))⟩
  · obtain ⟨its, r', pl, hz⟩ := I.tuple hq
    exact call_tuple_same pl ⟨.ref p, H, I, rfl, q⟩
def tyV (K : PySem.W.Frag) (T : String) (x : V) (H : Hp) : Prop := match x with
  | .str _ => T = "str"
  | .int _ => T = "int"
  | .ref p => (T = "list" ∧ ∃ xs, SqL K H p xs) ∨ (T = "tuple" ∧ ∃ o, K.lookup p = some o ∧ o.cls = .type "tuple" ∧ o.dict = none) ∨
      (T = "dict" ∧ ((∃ kvs, H p = some (.dK kvs)) ∨ ∃ kvs, H p = some (.dT kvs))) ∨ (T = "set" ∧ ∃ S n, H p = some (.set S n))
  | _ => False
theorem tyV_is {pins : List (Addr × Obj)} {σ : St} {H : Hp} {s : Shared} {T : String} {x : V} {v : Value} (I : Inv X pins σ H s) (r : RelV x v) (ty : tyV X.K T x H) :
    s.TypeIs v T ∧ ∀ a, v = .ref a → ∃ ob, s.heap.get? a = some ob ∧ ob.dict = none := by
  cases x with
  | str z =>
    obtain ⟨t, rfl⟩ := r
    cases (show T = "str" from ty)
    exact ⟨typeIs_str s z t, fun _ e => nomatch e⟩
  | int i =>
    obtain ⟨t, rfl⟩ := r
    cases (show T = "int" from ty)
    exact ⟨typeIs_int s i t, fun _ e => nomatch e⟩
  | ref p =>
    cases r
    rcases ty with ⟨rfl, xs, hq⟩ | ⟨rfl, o, hk, hc, hd⟩ | ⟨rfl, hk⟩ | ⟨rfl, S, n, hk⟩
    · obtain ⟨its, _, pl, _⟩ := I.list hq
      refine ⟨pl.isList.typeIs, fun a e => ?_⟩
      cases e
      obtain ⟨o, n, e, c, hd, _⟩ := pl
      exact ⟨o, e, hd⟩
    · refine ⟨⟨o, I.kIn p o hk, hc⟩, fun a e => ?_⟩
      cases e
      exact ⟨o, I.kIn _ o hk, hd⟩
    · have z : ∃ o, s.heap.get? p = some o ∧ o.ExactDict := by
        rcases hk with ⟨kvs, hk⟩ | ⟨kvs, hk⟩
        · obtain ⟨_, _, _, _, o, _, _, e, ex, _⟩ := I.hok p _ hk
          exact ⟨o, e, ex⟩
        · obtain ⟨_, _, _, _, o, _, _, e, ex, _⟩ := I.hok p _ hk
          exact ⟨o, e, ex⟩
      obtain ⟨o, e, ex⟩ := z
      refine ⟨⟨o, e, ex.1⟩, fun a e2 => ?_⟩
      cases e2
      exact ⟨o, e, ex.2.1⟩
    · obtain ⟨o, _, _, _, e, ex, _⟩ := I.hok p _ hk
      refine ⟨⟨o, e, ex.1⟩, fun a e2 => ?_⟩
      cases e2
      exact ⟨o, e, ex.2.1⟩
  | _ => exact False.elim ty
def tBM0 (K : PySem.W.Frag) (T : String) (r : V → List V → Hp → VK → Prop) (to : TE) : TE := fun σ H Q => to σ H fun x H1 => tyV K T x H1 ∧ r x [] H1 Q
def tBM (K : PySem.W.Frag) (T : String) (r : V → List V → Hp → VK → Prop) (to : TE) (t : TA) : TE := fun σ H Q => to σ H fun x H1 => tyV K T x H1 ∧ t σ H1 fun xs H2 => r x xs H2 Q
variable {o e : Expr} {es : List Expr} {to : TE} {t : TA} {name : Str} {apos cpos : Pos} {T id : String} {r : V → List V → Hp → VK → Prop}
theorem pe_bm0 (pa : PlainAttrs T) (slot : Slot T name id) (hty : typeOf (.builtin id) = pure (.type "method_descriptor")) (hm : MtR X id r) (ho : PE X o to)
    (hbase : attributeBase o name X.env (eval o X.env) = eval o X.env := by rfl) (hline : (apos.endLine == cpos.line) = true := by rfl) : PE X (.Call (.Attribute o name apos) [] [] cpos) (tBM0 X.K T r to) := by
  intro pins s σ H Q I h
  refine wpAny_Call_method0_late hbase hline (thn (ho pins s σ H _ I h) fun v s1 ⟨x, H1, I1, r1, ty, q1⟩ => ?_)
  obtain ⟨h1, h2⟩ := tyV_is I1 r1 ty
  exact ⟨T, id, pa, slot, hty, h1, h2, Calls.callWith_builtin rfl (PySem.evalArgs_none (hm pins s1 σ H1 x [] v [] Q I1 r1 .nil q1))⟩
theorem pe_bm (pa : PlainAttrs T) (slot : Slot T name id) (hty : typeOf (.builtin id) = pure (.type "method_descriptor")) (hm : MtR X id r) (ho : PE X o to) (ha : PA X (e :: es) t)
    (hbase : attributeBase o name X.env (eval o X.env) = eval o X.env := by rfl)
    (hfew : ((backTo cpos (starEach (e :: es) X.env)).all (fun x => !x.1) && (backToKw cpos (keywordEach [] X.env)).all (fun x => x.1.isSome)
      && decide ((e :: es).length + ([] : List Keyword).length + (if ([] : List Keyword).isEmpty then 0 else 1) < 30)) = true := by rfl)
    (hline : (apos.endLine == cpos.line) = true := by rfl) (hs : starEach (e :: es) X.env = (false, eval e X.env) :: starEach es X.env := by rfl) (hplain : (backTo cpos (starEach es X.env)).any (·.1) = false := by rfl) :
    PE X (.Call (.Attribute o name apos) (e :: es) [] cpos) (tBM X.K T r to t) := by
  intro pins s σ H Q I h
  refine wpAny_Call_method_late hbase hfew hline rfl (thn (ho pins s σ H _ I h) fun v s1 ⟨x, H1, I1, r1, ty, q1⟩ => ?_)
  obtain ⟨h1, h2⟩ := tyV_is I1 r1 ty
  refine ⟨T, id, pa, slot, hty, h1, h2, ?_⟩
  have hA := ha cpos pins s1 σ H1 _ I1 q1
  rw [hs] at hA ⊢
  refine Calls.callWith_builtin (by show (false || (backTo cpos (starEach es X.env)).any (·.1)) = false; rw [hplain] <;> rfl) (Calls.evalArgs_plain ?_)
  exact thn hA fun us s2 ⟨vs, H2, I2, r2, q2⟩ => hm pins s2 σ H2 x vs v us Q I2 r1 r2 q2
/- xs.append(e), list.index on a module's tuple .. are MtR facts of 06m -/
end
end L2
namespace L2
open PySem PySem.Spec PyProof.Rows
def MtM (X : Cx) (id : String) (r : V → List V → Hp → VK → Prop) : Prop :=
  ∀ (pins : List (Addr × Obj)) (s : Shared) (σ : St) (H : Hp) (x : V) (xs : List V) (v : Value) (us : List Value) (Q : VK), Inv X pins σ H s → RelV x v → Vals xs us → r x xs H Q →
    wpAny (model X.prog X.w) X.A (call (.builtin id) (v :: us)) (EP X pins σ Q) X.xe s
theorem Vals.one : ∀ {x : V} {us : List Value}, Vals [x] us → ∃ u, us = [u] ∧ RelV x u
  | _, _, .cons r .nil => ⟨_, rfl, r⟩
theorem Vals.zero : ∀ {us : List Value}, Vals [] us → us = []
  | _, .nil => rfl
theorem Vals.reverse {xs : List V} {us : List Value} (h : Vals xs us) : Vals xs.reverse us.reverse := by
  induction h with
  | nil => exact .nil
  | cons r t ih => rw [List.reverse_cons, List.reverse_cons]; exact Vals.append ih (.cons r .nil)
section
variable {X : Cx} {pins : List (Addr × Obj)} {σ : St} {H : Hp} {s : Shared} {l b : Addr} {xs ys zs : List V}
theorem Inv.lset {its its' : List Value} {n : Nat} {f : Array Value → Array Value} {t' : Nat} (I : Inv X pins σ H s) (hH : H l = some (.lst xs))
    (e : s.heap.get? l = some { cls := .type "list", data := .seq its.toArray n }) (hf : f its.toArray = its'.toArray) (hv : Vals ys its') (hz : ys.length ≤ sizeLine) :
    Inv X pins σ (upd H l (.lst ys)) { s with heap := s.heap.update l (Obj.mapSeq f), toks := t' } := by
  have q := PySem.IsL.update e f
  rw [hf] at q
  refine I.write (x := l) (e := l) (by rw [hH]; exact trivial) (.inl rfl) (fun b' u hb hu => (Heap.get?_update_other s.heap (Obj.mapSeq f) (Ne.symm hb)).trans hu) ⟨_, q⟩ ?_
  exact ⟨hz, its', _, hv, q⟩
theorem Inv.lnew {its : List Value} {t' : Nat} (I : Inv X pins σ H s) (hv : Vals ys its) (hz : ys.length ≤ sizeLine) :
    Inv X pins σ (upd H s.heap.objs.size (.lst ys)) { s with heap := s.heap.push { cls := .type "list", data := .seq its.toArray }, toks := t' } :=
  I.laid (fun _ _ q => Heap.get?_push_of_some _ q) (Nat.le_refl _) ⟨hz, its, 0, hv, Heap.get?_push_size _ rfl⟩
theorem Inv.fresh (I : Inv X pins σ H s) : H s.heap.objs.size = none := I.hok.fresh (Nat.le_refl _)
theorem Inv.lstM (I : Inv X pins σ H s) (hH : H l = some (.lst xs)) : xs.length ≤ sizeLine ∧ ∃ (its : List Value) (n : Nat), Vals xs its ∧ xs.length = its.length ∧ s.heap.get? l = some { cls := .type "list", data := .seq its.toArray n } := by
  obtain ⟨z, its, n, r, e⟩ := I.hok l _ hH
  exact ⟨z, its, n, r, r.length, e⟩
theorem notLongL {n : Nat} (h : n ≤ sizeLine) : Builtin.List.listTooLong n = false := by
  unfold Builtin.List.listTooLong
  exact decide_eq_false (by omega)
end
section
variable {X : Cx}
def rAppend : V → List V → Hp → VK → Prop := fun x vs H Q => ∃ l xs y, x = .ref l ∧ vs = [y] ∧ H l = some (.lst xs) ∧ xs.length < sizeLine ∧ Q .non (upd H l (.lst (xs ++ [y])))
theorem mt_append : MtM X "list.append" rAppend := by
  intro pins s σ H x vs v us Q I rx rv h
  obtain ⟨l, xs, y, rfl, rfl, hH, hz, q⟩ := h
  cases rx
  obtain ⟨u, rfl, ru⟩ := rv.one
  obtain ⟨z, its, n, r, hl, e⟩ := I.lstM hH
  refine call_meets F.slot_list_append ⟨_, e, rfl⟩ F.entry_list_append (F.args_list_append_2 _ _) (PySem.list_append l its.toArray n u (by rw [List.size_toArray]; omega)) ⟨e, ?_⟩
  refine ⟨.non, _, I.lset (its' := its ++ [u]) hH e (by simp) (r.append (.cons ru .nil)) ?_, rfl, q⟩
  rw [List.length_append, List.length_singleton]
  omega
def rExtend : V → List V → Hp → VK → Prop := fun x vs H Q => ∃ l b xs zs, x = .ref l ∧ vs = [.ref b] ∧ H l = some (.lst xs) ∧ H b = some (.lst zs) ∧ xs.length + zs.length ≤ sizeLine ∧ Q .non (upd H l (.lst (xs ++ zs)))
theorem mt_extend : MtM X "list.extend" rExtend := by
  intro pins s σ H x vs v us Q I rx rv h
  obtain ⟨l, b, xs, zs, rfl, rfl, hH, hB, hz, q⟩ := h
  cases rx
  obtain ⟨u, rfl, ru⟩ := rv.one
  cases ru
  obtain ⟨z, its, n, r, hl, e⟩ := I.lstM hH
  obtain ⟨z2, its2, n2, r2, hl2, e2⟩ := I.lstM hB
  have hsz : its.toArray.size + its2.toArray.size ≤ sizeLine := by rw [List.size_toArray, List.size_toArray]; omega
  have hlong : ¬ (!its.toArray.isEmpty && Builtin.List.listTooLong (its.toArray.size + its2.toArray.size)) = true := by
    rw [notLongL hsz, Bool.and_false]
    exact Bool.false_ne_true
  refine call_meets F.slot_list_extend ⟨_, e, rfl⟩ F.entry_list_extend (F.args_list_extend_2 _ _)
    (AutoSeq1.list_extend_list_list_0 l its.toArray n b its2.toArray n2 hlong (by rw [List.size_toArray]; omega) (by omega)) ⟨e, e2, ?_⟩
  refine ⟨.non, _, I.lset (its' := its ++ its2) hH e (by simp) (r.append r2) ?_, rfl, q⟩
  rw [List.length_append]
  omega
def rCat : R2 := fun x y H Q => ∃ l b xs zs, x = .ref l ∧ y = .ref b ∧ H l = some (.lst xs) ∧ H b = some (.lst zs) ∧ xs.length + zs.length ≤ sizeLine ∧ ∀ p, H p = none → Q (.ref p) (upd H p (.lst (xs ++ zs)))
theorem op_cat : OpR X (binaryOp .Add) rCat := by
  intro pins s σ H x y v u Q I rx ry h
  obtain ⟨l, b, xs, zs, rfl, rfl, hH, hB, hz, q⟩ := h
  cases rx
  cases ry
  obtain ⟨z, its, n, r, hl, e⟩ := I.lstM hH
  obtain ⟨z2, its2, n2, r2, hl2, e2⟩ := I.lstM hB
  refine PySem.P.add_list e e2 ?_ (by rw [List.size_toArray, List.size_toArray]; omega)
  have ea : its.toArray ++ its2.toArray = (its ++ its2).toArray := by simp
  rw [ea]
  exact ⟨.ref _, _, I.lnew (t' := s.toks) (r.append r2) (by rw [List.length_append]; omega), rfl, q _ I.fresh⟩
end
section
variable {prog : Program} {w : World} {A : Around} {E : Value → Shared → Prop} {s : Shared}
end
section
variable {X : Cx}
end
end L2
namespace L2
open PySem PySem.Spec PyProof.Rows
section
variable {κ : Type} [DecidableEq κ]
def valV (kvs : List (κ × V)) (k : κ) : Option V := (kvs.find? fun kv => decide (kv.1 = k)).map (·.2)
def putK (kvs : List (κ × V)) (k : κ) (v : V) : List (κ × V) :=
  if (kvs.any fun kv => decide (kv.1 = k)) = true then kvs.map (fun kv => if kv.1 = k then (kv.1, v) else kv) else kvs ++ [(k, v)]
def dropK (kvs : List (κ × V)) (k : κ) : List (κ × V) := kvs.filter fun kv => decide (kv.1 ≠ k)
theorem valV_pos {p : κ × V} {r : List (κ × V)} {k : κ} (e : p.1 = k) : valV (p :: r) k = some p.2 := by simp [valV, List.find?_cons, e]
theorem valV_neg {p : κ × V} {r : List (κ × V)} {k : κ} (e : ¬ p.1 = k) : valV (p :: r) k = valV r k := by simp [valV, List.find?_cons, e]
theorem RelO.getD {o : Option V} {u : Option Value} {d : V} {d' : Value} (r : RelO o u) (rd : RelV d d') : RelV (o.getD d) (u.getD d') := by
  cases o with
  | none => cases u with
    | none => exact rd
    | some _ => exact (show False from r).elim
  | some _ => cases u with
    | none => exact (show False from r).elim
    | some _ => exact r
theorem KV.val {kvs : List (κ × V)} {vs : List (κ × Value)} (r : KV kvs vs) (k : κ) : RelO (valV kvs k) (valueAt vs k) := by
  unfold KV at r
  induction r with
  | nil => exact True.intro
  | @cons p q ps qs h t ih =>
    obtain ⟨h1, h2⟩ := h
    by_cases e : p.1 = k
    · have e' : q.1 = k := h1.symm.trans e
      have b : valueAt (q :: qs) k = some q.2 := by simp [valueAt, List.find?_cons, e']
      rw [valV_pos e, b]; exact h2
    · have e' : ¬ q.1 = k := fun z => e (h1.trans z)
      have b : valueAt (q :: qs) k = valueAt qs k := by simp [valueAt, List.find?_cons, e']
      rw [valV_neg e, b]; exact ih
theorem KV.any {kvs : List (κ × V)} {vs : List (κ × Value)} (r : KV kvs vs) (k : κ) : (kvs.any fun kv => decide (kv.1 = k)) = vs.any fun kv => decide (kv.1 = k) := by
  unfold KV at r
  induction r with
  | nil => rfl
  | cons h t ih => rw [List.any_cons, List.any_cons, ih, h.1]
theorem KV.drop {kvs : List (κ × V)} {vs : List (κ × Value)} (r : KV kvs vs) (k : κ) : KV (dropK kvs k) (without vs k) := by
  unfold KV at r ⊢
  unfold dropK without
  induction r with
  | nil => exact .nil
  | @cons p q ps qs h t ih =>
    obtain ⟨h1, h2⟩ := h
    rw [List.filter_cons, List.filter_cons]
    by_cases e : p.1 = k
    · have a : ¬ decide (p.1 ≠ k) = true := by simp [e]
      have b : ¬ decide (q.1 ≠ k) = true := by simp [h1.symm.trans e]
      rw [if_neg a, if_neg b]; exact ih
    · have e' : ¬ q.1 = k := fun z => e (h1.trans z)
      have a : decide (p.1 ≠ k) = true := by simp [e]
      have b : decide (q.1 ≠ k) = true := by simp [e']
      rw [if_pos a, if_pos b]; exact .cons ⟨h1, h2⟩ ih
theorem KV.keys {kvs : List (κ × V)} {vs : List (κ × Value)} (r : KV kvs vs) : kvs.map (·.1) = vs.map (·.1) := by
  unfold KV at r
  induction r with
  | nil => rfl
  | cons h t ih => rw [List.map_cons, List.map_cons, ih, h.1]
theorem KV.length {kvs : List (κ × V)} {vs : List (κ × Value)} (r : KV kvs vs) : kvs.length = vs.length := Paired.length r
end
abbrev KT (H : Hp) : List (List Key × V) → List (List Key × Addr × Value) → Prop := Paired fun p q => p.1 = q.1 ∧ H q.2.1 = some (.tup (p.1.map kV)) ∧ RelV p.2 q.2.2
theorem KT.val {H : Hp} {kvs : List (List Key × V)} {xs : List (List Key × Addr × Value)} (r : KT H kvs xs) (k : List Key) : RelO (valV kvs k) ((atKey xs k).map (·.2)) := by
  induction r with
  | nil => exact True.intro
  | @cons p q ps qs h t ih =>
    obtain ⟨h1, _, h2⟩ := h
    by_cases e : p.1 = k
    · have e' : q.1 = k := h1.symm.trans e
      have b : atKey (q :: qs) k = some q.2 := by simp [atKey, List.find?_cons, e']
      rw [valV_pos e, b]; exact h2
    · have e' : ¬ q.1 = k := fun z => e (h1.trans z)
      have b : atKey (q :: qs) k = atKey qs k := by simp [atKey, List.find?_cons, e']
      rw [valV_neg e, b]; exact ih
theorem KT.keeps {H H' : Hp} {kvs : List (List Key × V)} {xs : List (List Key × Addr × Value)} (r : KT H kvs xs) (ht : ∀ b ys, H b = some (.tup ys) → H' b = some (.tup ys)) : KT H' kvs xs :=
  Paired.mapP r fun _ _ z => ⟨z.1, ht _ _ z.2.1, z.2.2⟩
section
variable {P : Program} {w : World} {H : Hp} {h : Heap} {a : Addr}
end
def DGet (H : Hp) (a : Addr) (y : V) (r : Option V) : Prop :=
  (∃ kvs k, Rd H a (.dK kvs) ∧ y = kV k ∧ r = valV kvs k) ∨ ∃ kvs k b, Rd H a (.dT kvs) ∧ y = .ref b ∧ H b = some (.tup (k.map kV)) ∧ r = valV kvs k
def DPut (H : Hp) (a : Addr) (y v : V) (H' : Hp) : Prop :=
  (∃ kvs k, H a = some (.dK kvs) ∧ y = kV k ∧ kvs.length < sizeLine ∧ H' = upd H a (.dK (putK kvs k v))) ∨
  ∃ kvs k b, H a = some (.dT kvs) ∧ y = .ref b ∧ H b = some (.tup (k.map kV)) ∧ kvs.length < sizeLine ∧ H' = upd H a (.dT (putK kvs k v))
theorem DGet.k {H : Hp} {a : Addr} {kvs : List (Key × V)} {k : Key} (e : H a = some (.dK kvs)) : DGet H a (kV k) (valV kvs k) := .inl ⟨kvs, k, .inl e, rfl, rfl⟩
theorem DGet.t {H : Hp} {a b : Addr} {kvs : List (List Key × V)} {k : List Key} (e : H a = some (.dT kvs)) (eb : H b = some (.tup (k.map kV))) : DGet H a (.ref b) (valV kvs k) := .inr ⟨kvs, k, b, .inl e, rfl, eb, rfl⟩
theorem DPut.k {H : Hp} {a : Addr} {kvs : List (Key × V)} {k : Key} {v : V} (e : H a = some (.dK kvs)) (hl : kvs.length < sizeLine) : DPut H a (kV k) v (upd H a (.dK (putK kvs k v))) := .inl ⟨kvs, k, e, rfl, hl, rfl⟩
theorem DPut.t {H : Hp} {a b : Addr} {kvs : List (List Key × V)} {k : List Key} {v : V} (e : H a = some (.dT kvs)) (eb : H b = some (.tup (k.map kV))) (hl : kvs.length < sizeLine) :
    DPut H a (.ref b) v (upd H a (.dT (putK kvs k v))) := .inr ⟨kvs, k, b, e, rfl, eb, hl, rfl⟩
section
variable {X : Cx} {pins : List (Addr × Obj)} {σ : St} {H : Hp} {s : Shared} {a : Addr} {y v : V} {u r : Value} {o : Option V} {A : Around} {E : Value → Shared → Prop}
end
section
variable {X : Cx} {pins : List (Addr × Obj)} {σ : St} {H : Hp} {s : Shared} {a : Addr} {kvs : List (Key × V)} {k : Key} {u : Value} {A : Around} {E : Value → Shared → Prop}
end
section
variable {X : Cx} {o i e value : Expr} {pos pos' tpos : Pos} {td ty tv : TE}
end
section
variable {X : Cx} {pos : Pos}
end
structure M1 (X : Cx) (o : Expr) (m : Str) (apos : Pos) (e : Expr) (cpos : Pos) : Prop where
  base : attributeBase o m X.env (eval o X.env) = eval o X.env
  few : ((backTo cpos (starEach [e] X.env)).all (fun x => !x.1) && (backToKw cpos (keywordEach [] X.env)).all (fun x => x.1.isSome)
    && decide (([e] : List Expr).length + ([] : List Keyword).length + (if ([] : List Keyword).isEmpty then 0 else 1) < 30)) = true
  line : (apos.endLine == cpos.line) = true
  trees : backTo cpos (starEach [e] X.env) = [(false, eval e X.env)]
structure M2 (X : Cx) (o : Expr) (m : Str) (apos : Pos) (e f : Expr) (cpos : Pos) : Prop where
  base : attributeBase o m X.env (eval o X.env) = eval o X.env
  few : ((backTo cpos (starEach [e, f] X.env)).all (fun x => !x.1) && (backToKw cpos (keywordEach [] X.env)).all (fun x => x.1.isSome)
    && decide (([e, f] : List Expr).length + ([] : List Keyword).length + (if ([] : List Keyword).isEmpty then 0 else 1) < 30)) = true
  line : (apos.endLine == cpos.line) = true
  trees : backTo cpos (starEach [e, f] X.env) = [(false, eval e X.env), (false, eval f X.env)]
section
variable {X : Cx} {pins : List (Addr × Obj)} {σ : St} {H : Hp} {s : Shared} {a : Addr} {y d : V} {u r : Value} {o : Option V} {A : Around} {E : Value → Shared → Prop}
end
section
variable {X : Cx} {o e f : Expr} {apos cpos : Pos} {td ty tx : TE}
end
section
variable {X : Cx} {pins : List (Addr × Obj)} {σ : St} {H : Hp} {s : Shared} {a : Addr} {kvs : List (Key × V)} {A : Around} {E : Value → Shared → Prop}
end
section
variable {X : Cx} {pins : List (Addr × Obj)} {σ : St} {H : Hp} {s : Shared} {a : Addr} {y : V} {u : Value} {A : Around} {E : Value → Shared → Prop}
end
end L2
namespace Att
open PySem PySem.W PySem.Calls PyProof.Rows
theorem ints_of_wellAll {P : Params} {h : Heap} : ∀ (ns : List Int) (vs : List Value), WellAll P h vs (ns.map WData.int) → IntsAre vs ns := by
  intro ns
  induction ns with
  | nil =>
    intro vs w
    rw [List.map_nil] at w
    cases w
    exact .nil
  | cons n ns ih =>
    intro vs w
    rw [List.map_cons] at w
    cases w with
    | cons a b =>
      cases a
      exact .cons _ _ (ih _ b)
theorem script_of {l : OpenLaw} {n : Nat} (hn : l.most = some n) {P : Params} {h : Heap} {args : List WData} {vals : List Value}
    (hpre : l.row.toRowW.claim.pre args = true) (hwl : WellAll P h vals args) :
    ∃ a vs ns, vals = [Value.ref a] ∧ args = [WData.list (ns.map WData.int)] ∧ h.get? a = some { cls := .type "list", data := .seq vs.toArray } ∧ IntsAre vs ns ∧ ns.length ≤ n := by
  have hsh : WShape.hasAll [] args [.list .int] = true := (pre_splitW hpre).1
  have hc : l.pre.holds [] { args := args } = true := (pre_splitW hpre).2
  obtain ⟨d, r, rfl, h1, h2⟩ := hasAllW_cons hsh
  obtain rfl := hasAllW_nil h2
  obtain ⟨xs, rfl, h3⟩ := hasW_list h1
  obtain ⟨ns, rfl⟩ := items_int h3
  have hlen : ns.length ≤ n := by
    unfold OpenLaw.pre at hc
    have h4 : (WTm.not (.lt (.lit (.int (n : Int))) (.len (.arg 0)))).holds [] { args := [.list (ns.map .int)] } = true := by
      have h4 := (holds_andW hc).1
      rw [hn] at h4
      exact h4
    have h5 := condW_of h4 (w_not (w_lt w_lit (w_len_list (w_arg rfl))))
    rw [List.length_map] at h5
    refine Nat.le_of_not_lt fun q => ?_
    have q' : (n : Int) < ((ns.length : Nat) : Int) := by omega
    first
      | (rw [decide_eq_true q'] at h5; exact absurd h5 (by decide))
      | (simp at h5; omega)
  cases hwl with
  | cons w1 w2 =>
    cases w2
    cases w1 with
    | list ho hall => exact ⟨_, _, ns, rfl, rfl, ho, ints_of_wellAll ns _ hall, hlen⟩
theorem post_true (l : OpenLaw) (args : List WData) : l.row.toRowW.claim.post args (.bool true) args = true :=
  postW_of (r := l.row.toRowW) (X := (true == true))
    (show WShape.has [] (.bool true) .bool = true by first | rfl | decide | simp [WShape.has, WShape.arms, WShape.armsAll])
    (show (WTm.eq .res (.lit (.bool true))).value [] { args := args, res := some (.bool true), after := args } = some (.bool (true == true)) from w_eq_bool (w_res rfl) w_lit) rfl
theorem attach_call {l : OpenLaw} {n : Nat} {q : Program} {loose : List Str} {XP : (Str → Option Value) → Heap → Prop} {YP : World → Heap → Prop} {d : DefRec}
    (hn : l.most = some n) (hdf : d.params.defaults = [])
    (call : ∀ (w : World) (s₀ s₁ : Shared) (mg mb : Str → Option Value) (fa : Addr) (o : Obj) (pm cd doc : Value) (a : Addr) (vs : List Value) (ns : List Int),
      Ground q loose [] XP w s₀ mg mb s₁.heap → YP w s₁.heap →
      s₁.heap.get? fa = some o → o.data = .func (docDef d.name d.params d.body d.scope pm cd doc) → s₁.heap.CodeRec cd d.name → mg d.name = some (.ref fa) →
      s₁.heap.get? a = some { cls := .type "list", data := .seq vs.toArray } → IntsAre vs ns → ns.length ≤ n → s₁.gens = #[] →
      codeAny (model l.prog w) callerA (.call (.ref fa) ⟨[.ref a], []⟩) (fun r s' => r = .ok (.ret (.bool true)) ∧ OldK s₁.heap s'.heap ∧ s'.os = s₁.os ∧ AllBare s'.gens) s₁) :
    WalkO q loose XP YP l.row.toRowW d [] (fun f vs => PySem.call f vs) := by
  intro w s₀ s₁ mg mb G Y fa o pm cd doc dV kV ho hd hcd hD hmg hg args vals as hpre hlay hrd hwl hlo
  obtain rfl : dV = .none := Dflts.none hD hdf
  obtain rfl : kV = .none := Dflts.noKw hD
  obtain ⟨a, vs, ns, rfl, rfl, hobj, hints, hlen⟩ := script_of hn hpre hwl
  refine enter_call (codeAny_mono (call w s₀ s₁ mg mb fa o pm cd doc a vs ns G Y ho (fd_plain hd) hcd hmg hobj hints hlen hg) fun r s' hq => ?_)
  obtain ⟨rfl, h2, h3, h4⟩ := hq
  exact ⟨.inl ⟨.bool true, .bool true, [], rfl, fun _ => rfl, .bool true, post_true l _, fun _ => ⟨List.Pairwise.nil, fun _ hm => (nomatch hm)⟩⟩, h2, h3, h4⟩
section
variable {prog : Program} {w : World} {A : Around} {E : Value → Shared → Prop} {s : Shared} {K : Frag}
end
end Att
namespace L2
open PySem PySem.Spec PyProof.Rows
theorem vals_ints : ∀ {vs : List Value} {ns : List Int}, IntsAre vs ns → Vals (ns.map V.int) vs
  | _, _, .nil => .nil
  | _, _, .cons n t h => .cons ⟨t, rfl⟩ (vals_ints h)
def Only (H : Hp) : Prop := ∀ b, H b = none ∨ ∃ o xs, H b = some (.frz o (.lst xs))
theorem law_call {P : Program} {w : World} {K : PySem.W.Frag} {mg mb : Str → Option Value} {CX : CXT} {k : Nat} {fa a : Addr} {fd : FuncData} {x : Str} {sp : Sp} {s₁ : Shared} {vs : List Value} {ns : List Int}
    (KX : K.In s₁.heap) (hns : s₁.heap.Ns mainGlobals mg) (hb : s₁.heap.Ns builtinsNs mb) (hbb : ∀ x : Str, x ≠ "__name__" → mb x = bootBuiltins x) (hlim : s₁.heap.NoLimit) (hg : s₁.gens = #[])
    (ha : s₁.heap.get? a = some { cls := .type "list", data := .seq vs.toArray }) (hi : IntsAre vs ns) (hl : ns.length ≤ sizeLine) (hr : Room k callerA)
    (F : ∀ base : Heap, K.In base → base.Ns mainGlobals mg → FnOk P w K mg base CX k fa fd [x] sp) (hbind : ∀ (s : Shared) (u : Value), BindsTo s fd ⟨[u], []⟩ [(x, u)])
    (hsp : ∀ H : Hp, Only H → SqL K H a (ns.map V.int) → sp [.ref a] H (fun v _ => v = .bl true) fun _ _ _ => False)
    (hCX : ∀ H e s', CX [] H s₁ (fun _ _ _ => False) e s' → False) :
    codeAny (model P w) callerA (.call (.ref fa) ⟨[.ref a], []⟩) (fun r s' => r = .ok (.ret (.bool true)) ∧ OldK s₁.heap s'.heap ∧ s'.os = s₁.os ∧ AllBare s'.gens) s₁ := by
  have rv := vals_ints hi
  have lenV := hi.length
  have core : ∀ H : Hp, Only H → SqL K H a (ns.map V.int) → HOk P w H s₁.heap → (∀ b, H b ≠ none → b = a) → (H a ≠ none → K.lookup a = none) →
      codeAny (model P w) callerA (.call (.ref fa) ⟨[.ref a], []⟩) (fun r s' => r = .ok (.ret (.bool true)) ∧ OldK s₁.heap s'.heap ∧ s'.os = s₁.os ∧ AllBare s'.gens) s₁ := by
    intro H hO hS hok hA hK
    have base_of : ∀ {b : Addr} {o : Obj}, s₁.heap.get? b = some o → H b = none → (hidT s₁.heap H).get? b = some o := fun e n => hidT_get e n
    have noA : ∀ {b : Addr} {o : Obj} {es : Array DictEntry} {ep : Nat}, s₁.heap.get? b = some o → o.data = .dict es ep → H b = none := fun {b o es ep} e d => by
      cases q : H b with
      | none => rfl
      | some u =>
        have e' : b = a := hA b (by rw [q]; simp)
        subst e'
        rw [ha] at e; cases e
        have d' : Data.seq vs.toArray _ = Data.dict es ep := d
        cases d'
    have nsK : ∀ {b : Addr} {m : Str → Option Value}, s₁.heap.Ns b m → (hidT s₁.heap H).Ns b m := fun {b m} ⟨o, es, ep, e, d, r⟩ => ⟨o, es, ep, base_of e (noA e d), d, r⟩
    have hKb : K.In (hidT s₁.heap H) := fun b o e => base_of (KX b o e) (by
      cases q : H b with
      | none => rfl
      | some u =>
        have e' : b = a := hA b (by rw [q]; simp)
        subst e'
        rw [hK (by rw [q]; simp)] at e; cases e)
    have hM : Mod K mg (hidT s₁.heap H) := ⟨hKb, nsK hns, ⟨mb, nsK hb, hbb⟩, let ⟨mc, h1, h2⟩ := hlim; ⟨mc, nsK h1, h2⟩⟩
    have e0 : Env0 P w K mg (hidT s₁.heap H) callerA [] s₁ H := ⟨rfl, hM, fun b o e => of_hidT e, Nat.le_of_eq (hidT_size _ _), trivial, fun b hb => absurd (show b ∈ ([] : List Addr) from hb) (by simp), hok, .of_eq hg⟩
    refine codeAny_mono ((F _ hKb (nsK hns)).run callerA [] s₁ H ⟨[.ref a], []⟩ [.ref a] [.ref a] _ _ hr e0 (hbind s₁ (.ref a)) (.cons rfl .nil) (hsp H hO hS)) fun r s' h => ?_
    cases r with
    | error e => exact (hCX H e s' h).elim
    | ok fl =>
      cases fl with
      | next => exact False.elim h
      | brk => exact False.elim h
      | cont => exact False.elim h
      | ret u =>
        obtain ⟨v, H', os, bare, un, hok', r', q⟩ := h
        have q' : v = .bl true := q
        subst q'
        obtain rfl : u = Value.bool true := r'
        refine ⟨rfl, OldK.of_keep fun b o e => ?_, os, bare⟩
        cases q : H b with
        | none => exact un.keep b o e q (by intro z; exact absurd (show b ∈ ([] : List Addr) from z) (by simp)) (by simp)
        | some u =>
          rcases hO b with z | ⟨ob, xs, z⟩
          · rw [q] at z; cases z
          · have z2 := un.frzs b ob _ z
            obtain ⟨e1, _⟩ := hok b _ z
            obtain ⟨e2, _⟩ := hok' b _ z2
            rw [e] at e1; cases e1
            exact e2
  cases hk : K.lookup a with
  | some o =>
    have e := KX a o hk
    rw [ha] at e
    cases e
    refine core (fun _ => none) (fun _ => .inl rfl) (.inr ⟨_, vs.toArray, _, hk, rfl, rfl, rfl, by rw [List.size_toArray, lenV]; exact hl, by simpa using rv⟩) (fun b u z => by have z' : (none : Option HO) = some u := z; cases z') (fun b z => absurd rfl z) fun z => absurd rfl z
  | none =>
    refine core (fun b => if b = a then some (.frz { cls := .type "list", data := .seq vs.toArray } (.lst (ns.map V.int))) else none) (fun b => ?_) (.inl (.inr ⟨{ cls := .type "list", data := .seq vs.toArray }, if_pos rfl⟩)) (fun b u z => ?_) (fun b z => ?_) fun _ => hk
    · by_cases hb : b = a
      · exact .inr ⟨_, _, if_pos hb⟩
      · exact .inl (if_neg hb)
    · by_cases hb : b = a
      · have z' := (if_pos hb).symm.trans z
        cases z'
        subst hb
        exact ⟨ha, by rw [List.length_map]; exact hl, vs, _, rv, ha⟩
      · have z' := (if_neg hb).symm.trans z
        cases z'
    · by_cases hb : b = a
      · exact hb
      · exact absurd (if_neg hb) z
end L2
namespace L2
open PySem PySem.Spec PyProof.Rows
abbrev KOf {K : PySem.W.Frag} {h : Heap} (_ : K.In h) : PySem.W.Frag := K
theorem walk_of {l : PySem.W.OpenLaw} {n k : Nat} {q : Program} {loose : List Str} {XP : (Str → Option Value) → Heap → Prop} {YP : World → Heap → Prop} {d : DefRec} {K : Params → PySem.W.Frag} {CX : World → CXT} {sp : World → Sp} {x : Str}
    (hn : l.most = some n) (hn2 : n ≤ sizeLine) (hdf : d.params.defaults = []) (hr : Room k callerA)
    (hY : ∀ (w : World) (h : Heap), YP w h → (K w.params).In h)
    (F : ∀ (w : World) (mg : Str → Option Value) (fa : Addr) (h : Heap), (K w.params).In h → h.Ns mainGlobals mg → mg d.name = some (.ref fa) →
      ∃ fd : FuncData, (∀ (s : Shared) (u : Value), BindsTo s fd ⟨[u], []⟩ [(x, u)]) ∧
        ∀ base : Heap, (K w.params).In base → base.Ns mainGlobals mg → FnOk l.prog w (K w.params) mg base (CX w) k fa fd [x] (sp w))
    (hsp : ∀ (w : World) (H : Hp) (a : Addr) (ns : List Int), ns.length ≤ n → Only H → SqL (K w.params) H a (ns.map V.int) → sp w [.ref a] H (fun v _ => v = .bl true) fun _ _ _ => False)
    (hCX : ∀ (w : World) (H : Hp) (s : Shared) (e : Value) (s' : Shared), CX w [] H s (fun _ _ _ => False) e s' → False) :
    PySem.W.WalkO q loose XP YP l.row.toRowW d [] (fun f vs => PySem.call f vs) := by
  refine Att.attach_call hn hdf fun w s₀ s₁ mg mb fa o pm cd doc a vs ns G Y ho hd hcd hmg hobj hints hlen hg => ?_
  have KX := hY w _ Y
  obtain ⟨fd, hb, hF⟩ := F w mg fa _ KX G.T.g hmg
  exact law_call KX G.T.g G.T.b G.T.builtins G.T.nolimit hg hobj hints (Nat.le_trans hlen hn2) hr hF hb (fun H hO hS => hsp w H a ns hlen hO hS) fun H e s' => hCX w H s₁ e s'
theorem walk_ofK {l : PySem.W.OpenLaw} {n k : Nat} {q : Program} {loose : List Str} {XP : (Str → Option Value) → Heap → Prop} {YP : World → Heap → Prop} {d : DefRec} {K : Params → PySem.W.Frag} {CX : CXT} {sp : PySem.W.Frag → Sp} {x : Str}
    (hn : l.most = some n) (hn2 : n ≤ sizeLine) (hdf : d.params.defaults = []) (hr : Room k callerA)
    (hY : ∀ (w : World) (h : Heap), YP w h → (K w.params).In h)
    (F : ∀ (w : World) (mg : Str → Option Value) (fa : Addr) (h : Heap), (K w.params).In h → h.Ns mainGlobals mg → mg d.name = some (.ref fa) →
      ∃ fd : FuncData, (∀ (s : Shared) (u : Value), BindsTo s fd ⟨[u], []⟩ [(x, u)]) ∧
        ∀ base : Heap, (K w.params).In base → base.Ns mainGlobals mg → FnOk l.prog w (K w.params) mg base CX k fa fd [x] (sp (K w.params)))
    (hsp : ∀ (K : PySem.W.Frag) (H : Hp) (a : Addr) (ns : List Int), ns.length ≤ n → Only H → SqL K H a (ns.map V.int) → sp K [.ref a] H (fun v _ => v = .bl true) fun _ _ _ => False)
    (hCX : ∀ (H : Hp) (s : Shared) (e : Value) (s' : Shared), CX [] H s (fun _ _ _ => False) e s' → False) :
    PySem.W.WalkO q loose XP YP l.row.toRowW d [] (fun f vs => PySem.call f vs) :=
  walk_of (K := K) (CX := fun _ => CX) (sp := fun w => sp (K w.params)) hn hn2 hdf hr hY F (fun w H a ns h1 h2 h3 => hsp (K w.params) H a ns h1 h2 h3) fun _ H s e s' => hCX H s e s'
end L2
/- THE LAST THEOREM (shape; LID, My.* are yours):
   My.Adr: a structure of the addresses that your layer names (classes, functions); My.Txt K t: a structure (Prop) of the equations over K;
   My.txt_mk : {K} {implicit addresses ..} (e1 : nsIn K mainGlobals "law" = some (some (.ref f))) (e2 : K.lookup f = some ⟨oc, od, .func (fnOf "law" "law" params body scope dV kV doc pm an cdv ct), sl⟩) (e3 : codeIn K cdv "law" = true) .. : ∃ t, My.Txt K t
set_option maxRecDepth 100000 in
set_option maxHeartbeats 0 in
theorem PySem.Challenge.cw_LID_holds : PySem.Challenge.rw_LID.Holds := by
  w_on; o_law; k_head; (case hw => w_witness2)
  k_fill
  refine L2.walk_of (l := PySem.Challenge.rw_LID) (n := 63) (k := 40) (x := "script") (CX := fun w => ..) (sp := fun _ => My.sp_law) rfl (by decide) rfl ⟨rfl, by decide, by decide⟩ (fun w h Y => PySem.W.kIn_of Y) ?F ?S ?C
  case F =>
    intro w mg fa h KX G hmg
    have T : ∃ t, My.Txt (L2.KOf KX) t := by
      dsimp only [L2.KOf]                          -- K must stand as «<heap const> w.params» for k_is
      refine' My.txt_mk ?e1 ?e2 ?e3 ..
      (case e1 => PySem.W.k_is)                    -- in the order: a name -> its address -> its object -> its parts
      (case e2 => PySem.W.k_is)
      ..
    obtain ⟨t, T⟩ := T
    have e0 := hmg.symm.trans (PySem.W.mg_of KX G T.law)
    cases e0                                       -- fa is the law's own address
    exact ⟨_, fun s u => .of_eq rfl, fun base kb nb => My.law_fn T kb nb⟩     -- if «.of_eq rfl» comes too early: refine' ⟨_, ?b, fun base kb nb => My.law_fn T kb nb⟩; exact fun s u => .of_eq rfl
  case S => exact fun w H a ns hl hO hS => ..
  case C => exact ..
(the tactic k_is has no namespace: write k_is) -/
namespace L2
open PySem PySem.Spec PyProof.Rows
def defArgs (s : Stmt) : Arguments := match s with
  | .FunctionDef _ a _ _ _ _ _ _ _ _ => a
  | _ => { posonlyargs := [], args := [], vararg := none, kwonlyargs := [], kw_defaults := [], kwarg := none, defaults := [] }
def defBody (s : Stmt) : List Stmt := match s with
  | .FunctionDef _ _ b _ _ _ _ _ _ _ => b
  | _ => []
def defScope (s : Stmt) : Scope := match s with
  | .FunctionDef _ _ _ _ _ _ sc _ _ _ => sc
  | _ => { kind := .function, names := [], isGenerator := false, isCoroutine := false }
abbrev CX0 : CXT := fun _ _ _ _ _ _ => False
abbrev E0 : XK := fun _ _ _ => False
theorem pass0 {X : Cx} : Passes CX0 X E0 := fun _ _ _ _ _ _ _ h => h.elim
structure Fun (K : PySem.W.Frag) (x qual : Str) (st : Stmt) (f : Addr) (fd : FuncData) : Prop where
  ex : ∃ (oc : Value) (od : Option Addr) (kV doc pm : Value) (an : Option Addr) (cdv ct : Value) (osl : Array (Option Value)),
    fd = PySem.W.fnOf x qual (defArgs st) (defBody st) (defScope st) .none kV doc pm an cdv ct ∧ K.lookup f = some ⟨oc, od, .func fd, osl⟩ ∧ PySem.W.codeIn K cdv qual = true
  kp : PySem.W.keepIn K (.ref f) = true
section
variable {P : Program} {w : World} {K : PySem.W.Frag} {mg : Str → Option Value} {base : Heap}
theorem Fun.ok {x qual : Str} {st : Stmt} {f : Addr} {fd : FuncData} {N ps : List Str} {k : Nat} {sp : Sp} (F : Fun K x qual st f fd) (S : FnScope N ps (defScope st)) (len : ∀ vs H Q E, sp vs H Q E → vs.length = ps.length)
    (hbody : ∀ (cdv : Value) (A : Around) (outer : List Env) (s : Shared) (H : Hp) (vs : List V) (Q : VK) (E : XK), Room k (A.deeper (envOfC qual (defScope st) s.heap.objs.size f cdv)) → sp vs H Q E →
      ∃ t, PSs (cxOf CX0 P w K mg base N qual (defScope st) f cdv A outer s H E).nox (defBody st) t ∧ t { nx := fun _ H' => Q .non H', rt := Q } (start N vs) H) : FnOk P w K mg base CX0 (k + 1) f fd ps sp := by
  obtain ⟨oc, od, kV, doc, pm, an, cdv, ct, osl, rfl, lk, hcd⟩ := F.ex
  refine fn_of lk hcd S len fun A outer s H vs Q E hr hsp => ?_
  obtain ⟨t, h, q⟩ := hbody cdv A outer s H vs Q E hr hsp
  exact ⟨t, h.nox, q⟩
theorem Fun.binds {x qual : Str} {st : Stmt} {f : Addr} {fd : FuncData} {ps : List Str} (F : Fun K x qual st f fd)
    (h : ∀ (kV doc pm : Value) (an : Option Addr) (cdv ct : Value) (us : List Value), us.length = ps.length → bindArgs (PySem.W.fnOf x qual (defArgs st) (defBody st) (defScope st) .none kV doc pm an cdv ct) ⟨us, []⟩ = pure (ps.zip us)) : Binds K fd ps [] := by
  obtain ⟨oc, od, kV, doc, pm, an, cdv, ct, osl, rfl, lk, hcd⟩ := F.ex
  exact .all (h kV doc pm an cdv ct)
theorem fun_mk {x qual : Str} {st : Stmt} {f : Addr} {oc : Value} {od an : Option Addr} {osl : Array (Option Value)} {kV doc pm cdv ct : Value} (l : K.lookup f = some ⟨oc, od, .func (PySem.W.fnOf x qual (defArgs st) (defBody st) (defScope st) .none kV doc pm an cdv ct), osl⟩)
    (c : PySem.W.codeIn K cdv qual = true) (k : PySem.W.keepIn K (.ref f) = true) : Fun K x qual st f (PySem.W.fnOf x qual (defArgs st) (defBody st) (defScope st) .none kV doc pm an cdv ct) := ⟨⟨oc, od, kV, doc, pm, an, cdv, ct, osl, rfl, l, c⟩, k⟩
end
theorem small1000 {n : Nat} (h : n ≤ 1000) : n < sizeLine := Nat.lt_of_le_of_lt h (by decide)
section
variable {X : Cx}
theorem pv (i : Nat) {x : Str} {pos : Pos} (hN : X.N[i]? = some x := by rfl) (hv : Vis X.env.scope x := by first | exact Or.inl rfl | exact Or.inr (Or.inl rfl) | exact Or.inr (Or.inr rfl)) (hd : (x == ("__debug__" : Str)) = false := by decide)
    (hcd : (x == ("__classdict__" : Str)) = false := by decide) : PE X (.Name x pos) (tVar i) := pe_var hN hv hd hcd
end
theorem iteF {A B : Prop} (h : B) : if false = true then A else B := by
  rw [if_neg Bool.false_ne_true]
  exact h
theorem iteT {A B : Prop} (h : A) : if true = true then A else B := by
  rw [if_pos rfl]
  exact h
theorem ite2 {c A B : Prop} [Decidable c] (h1 : c → A) (h2 : ¬ c → B) : if c then A else B := by
  by_cases h : c
  · rw [if_pos h]
    exact h1 h
  · rw [if_neg h]
    exact h2 h
def Same (H H' : Hp) : Prop := ∀ b o, H b = some o → H' b = some o
theorem Same.refl (H : Hp) : Same H H := fun _ _ h => h
theorem Same.trans {H H1 H2 : Hp} (a : Same H H1) (b : Same H1 H2) : Same H H2 := fun c o h => b c o (a c o h)
theorem Same.free {H H' : Hp} (e : Same H H') {l : Addr} (h : H' l = Option.none) : H l = Option.none := by
  cases q : H l with
  | none => rfl
  | some o =>
    rw [e l o q] at h
    cases h
theorem Same.seq {K : PySem.W.Frag} {H H' : Hp} {a : Addr} {xs : List V} (e : Same H H') (h : SqL K H a xs) : SqL K H' a xs := by
  rcases h with (h | ⟨o, h⟩) | h
  · exact .inl (.inl (e _ _ h))
  · exact .inl (.inr ⟨o, e _ _ h⟩)
  · exact .inr h
section
variable {X : Cx}
end
section
variable {κ : Type} [DecidableEq κ]
end
end L2
namespace L2
open PySem PySem.Spec PyProof.Rows
theorem lookup_cons_or {β : Type} {x n : Str} {b c : β} {l : List (Str × β)} (h : ((n, b) :: l).lookup x = some c) : (x = n ∧ b = c) ∨ l.lookup x = some c := by
  rw [List.lookup_cons] at h
  cases e : x == n with
  | true =>
    rw [e] at h
    exact .inl ⟨eq_of_beq e, Option.some.inj h⟩
  | false =>
    rw [e] at h
    exact .inr h
theorem lookup_cons_some {β : Type} {x n : Str} {b : β} {l : List (Str × β)} (h : x = n ∨ ∃ c, l.lookup x = some c) : ∃ c, ((n, b) :: l).lookup x = some c := by
  rw [List.lookup_cons]
  cases e : x == n with
  | true => exact ⟨b, rfl⟩
  | false =>
    rcases h with h | h
    · subst h
      simp at e
    · exact h
theorem closFor_go {env : Env} : ∀ (names : List (Str × NameKind)) (acc : List (Str × Addr)), (∀ y ∈ names, y.2 = .free → ∃ c, env.cells.lookup y.1 = some c) →
    (∀ x c, acc.lookup x = some c → env.cells.lookup x = some c) →
    ∃ cl, (forIn names acc (fun x r => if (x.2 == NameKind.free) = true then (cellOf env x.1 >>= fun c => pure (ForInStep.yield ((x.1, c) :: r))) else pure (ForInStep.yield r)) : Sem (List (Str × Addr))) = pure cl ∧
      (∀ x c, cl.lookup x = some c → env.cells.lookup x = some c) ∧ (∀ y ∈ names, y.2 = .free → ∃ c, cl.lookup y.1 = some c) ∧ (∀ x c, acc.lookup x = some c → ∃ c', cl.lookup x = some c')
  | [], acc, _, h => ⟨acc, rfl, h, (fun _ z => nomatch z), fun x c e => ⟨c, e⟩⟩
  | (n, k) :: r, acc, hn, h => by
    rw [List.forIn_cons]
    by_cases hk : k = .free
    · subst hk
      obtain ⟨c, hc⟩ := hn (n, .free) List.mem_cons_self rfl
      have e1 : (cellOf env n : Sem Addr) = pure c := by
        have hc' : env.cells.lookup n = some c := hc
        unfold cellOf
        rw [hc']
      obtain ⟨cl, e, h1, h2, h3⟩ := closFor_go r ((n, c) :: acc) (fun y hy => hn y (List.mem_cons_of_mem _ hy)) (fun x c' e => by
        rcases lookup_cons_or e with ⟨e1, e2⟩ | e
        · subst e1; subst e2; exact hc
        · exact h x c' e)
      refine ⟨cl, ?_, h1, ?_, fun x c' e => ?_⟩
      · show ((if ((n, NameKind.free).2 == NameKind.free) = true then (cellOf env n >>= fun c => pure (ForInStep.yield ((n, c) :: acc))) else pure (ForInStep.yield acc)) >>= _) = _
        rw [if_pos (show ((n, NameKind.free).2 == NameKind.free) = true from rfl), e1]
        exact e
      · intro y hy hf
        rcases List.mem_cons.mp hy with rfl | hy
        · exact h3 n c (by simp)
        · exact h2 y hy hf
      · obtain ⟨c2, e2⟩ := lookup_cons_some (n := n) (b := c) (.inr ⟨c', e⟩)
        exact h3 x c2 e2
    · obtain ⟨cl, e, h1, h2, h3⟩ := closFor_go r acc (fun y hy => hn y (List.mem_cons_of_mem _ hy)) h
      refine ⟨cl, ?_, h1, ?_, h3⟩
      · show ((if ((n, k).2 == NameKind.free) = true then (cellOf env n >>= fun c => pure (ForInStep.yield ((n, c) :: acc))) else pure (ForInStep.yield acc)) >>= _) = _
        rw [if_neg (by simpa using hk)]
        exact e
      · intro y hy hf
        rcases List.mem_cons.mp hy with rfl | hy
        · exact absurd hf hk
        · exact h2 y hy hf
theorem closFor {scope : Scope} {env : Env} (h : ∀ y ∈ scope.names, y.2 = .free → ∃ c, env.cells.lookup y.1 = some c) :
    ∃ cl, closureFor scope env = pure cl ∧ (∀ x c, cl.lookup x = some c → env.cells.lookup x = some c) ∧ (∀ y ∈ scope.names, y.2 = .free → ∃ c, cl.lookup y.1 = some c) := by
  obtain ⟨cl, e, h1, h2, _⟩ := closFor_go scope.names [] h (fun x c e => by simp at e)
  refine ⟨cl, ?_, h1, h2⟩
  unfold closureFor
  show ((forIn scope.names [] (fun x r => if (x.2 == NameKind.free) = true then (cellOf env x.1 >>= fun c => pure (ForInStep.yield ((x.1, c) :: r))) else pure (ForInStep.yield r)) : Sem (List (Str × Addr))) >>= fun r => pure r) = _
  rw [e]
  rfl
def relK (env : Env) (x : Str) (k : NameKind) : NameKind := if (k == .free && env.scope.kind == .function && env.kindOf x == some .cell) = true then .cell else k
theorem lookup_relabel {env : Env} {x : Str} : ∀ (names : List (Str × NameKind)),
    (names.map fun (n, k) => if (k == NameKind.free && env.scope.kind == .function && env.kindOf n == some .cell) = true then (n, NameKind.cell) else (n, k)).lookup x = (names.lookup x).map (relK env x)
  | [] => rfl
  | (n, k) :: r => by
    have ih := lookup_relabel (env := env) (x := x) r
    have e : (if (k == NameKind.free && env.scope.kind == .function && env.kindOf n == some .cell) = true then (n, NameKind.cell) else (n, k)) = (n, relK env n k) := by
      unfold relK
      split <;> rfl
    show List.lookup x ((if (k == NameKind.free && env.scope.kind == .function && env.kindOf n == some .cell) = true then (n, NameKind.cell) else (n, k)) :: _) = _
    rw [e, List.lookup_cons, List.lookup_cons]
    cases hx : x == n with
    | true =>
      have := eq_of_beq hx
      subst this
      rfl
    | false => exact ih
theorem kindOf_comp {scope : Scope} {cl : List (Str × Addr)} {C : Addr} {env : Env} {x : Str} : (compEnvC scope cl C env).kindOf x = (scope.names.lookup x).map (relK env x) := lookup_relabel (env := env) (x := x) scope.names
theorem relK_free {env : Env} {x : Str} : relK env x .free = .cell ∨ relK env x .free = .free := by
  unfold relK
  split
  · exact .inl rfl
  · exact .inr rfl
theorem relK_of {env : Env} {x : Str} {k : NameKind} (h : relK env x k = .cell ∨ relK env x k = .free) : k = .cell ∨ k = .free := by
  unfold relK at h
  split at h
  · rename_i z
    simp only [Bool.and_eq_true, beq_iff_eq] at z
    exact .inr z.1.1
  · exact h
def capt (caps : List (Option Nat)) (σ : St) : St := caps.map fun o => match o with
  | none => none
  | some j => (σ[j]?).join
def compOk (oN : List Str) (osc : Scope) (N : List Str) (caps : List (Option Nat)) (sc : Scope) : Bool :=
  (sc.kind == .function) && decide N.Nodup && (N.length == caps.length) && sc.names.all (fun y => !(y.2 == .cell)) &&
  sc.names.all (fun y => !(y.2 == .local) || sc.names.lookup y.1 == some .local) &&
  sc.names.all (fun y => !(y.2 == .free) || (osc.names.lookup y.1 == some .cell || osc.names.lookup y.1 == some .free)) &&
  (N.zip caps).all (fun p => match p.2 with
    | none => true
    | some j => oN[j]? == some p.1 && sc.names.lookup p.1 == some .free)
structure CompOk (oN : List Str) (osc : Scope) (N : List Str) (caps : List (Option Nat)) (sc : Scope) : Prop where
  kind : sc.kind = .function
  nd : N.Nodup
  len : N.length = caps.length
  nocell : ∀ y ∈ sc.names, y.2 ≠ .cell
  loc : ∀ y ∈ sc.names, y.2 = .local → sc.names.lookup y.1 = some .local
  fr : ∀ y ∈ sc.names, y.2 = .free → osc.names.lookup y.1 = some .cell ∨ osc.names.lookup y.1 = some .free
  cap : ∀ (i j : Nat) (x : Str), N[i]? = some x → caps[i]? = some (some j) → oN[j]? = some x ∧ sc.names.lookup x = some .free
theorem compOk_of {oN : List Str} {osc : Scope} {N : List Str} {caps : List (Option Nat)} {sc : Scope} (h : compOk oN osc N caps sc = true) : CompOk oN osc N caps sc := by
  unfold compOk at h
  simp only [Bool.and_eq_true, List.all_eq_true, decide_eq_true_eq, beq_iff_eq, Bool.or_eq_true, Bool.not_eq_true', beq_eq_false_iff_ne, ne_eq] at h
  obtain ⟨⟨⟨⟨⟨⟨h1, h2⟩, h3⟩, h4⟩, h5⟩, h6⟩, h7⟩ := h
  refine ⟨h1, h2, h3, h4, fun y hy e => ?_, fun y hy e => ?_, fun i j x hi hj => ?_⟩
  · rcases h5 y hy with z | z
    · exact absurd e z
    · exact z
  · rcases h6 y hy with z | z
    · exact absurd e z
    · exact z
  · have hm : (x, some j) ∈ N.zip caps := by
      refine List.mem_of_getElem? (i := i) ?_
      rw [List.getElem?_zip_eq_some]
      exact ⟨hi, hj⟩
    have := h7 _ hm
    simpa using this
def cxComp (X : Cx) (N : List Str) (scope : Scope) (cl : List (Str × Addr)) (C : Addr) (fp : List Addr) (s : Shared) (H : Hp) : Cx :=
  { X with N := N, s₀ := s, H₀ := H, env := compEnvC scope cl C X.env, outer := X.stack, ex := fp, fn := fun _ => false, pn := [], xe := fun _ _ => False }
section
variable {X : Cx} {pins : List (Addr × Obj)} {σ : St} {H : Hp} {s : Shared} {N : List Str} {caps : List (Option Nat)} {scope : Scope} {cl : List (Str × Addr)} {fp : List Addr}
theorem inv_comp (I : Inv X pins σ H s) (hf : ∀ b ∈ fp, FpOk X pins H b) (ho : ∀ b ∈ fp, ∃ o, s.heap.get? b = some o) (S : CompOk X.N X.env.scope N caps scope)
    (c1 : ∀ x c, cl.lookup x = some c → X.env.cells.lookup x = some c) (c2 : ∀ y ∈ scope.names, y.2 = .free → ∃ c, cl.lookup y.1 = some c)
    {h' : Heap} {m : Str → Option Value} {tk : Nat} (hn : h'.Ns s.heap.objs.size m) (hk : ∀ b u, s.heap.get? b = some u → h'.get? b = some u) :
    Inv (cxComp X N scope cl s.heap.objs.size fp s H) [] (capt caps σ) H { s with heap := h', toks := tk } := by
  have noS : ∀ b ∈ fp, b ∉ frs X.stack := fun b hb z => by
    obtain ⟨_, f1, f2, _⟩ := hf b hb
    rcases List.mem_cons.mp (I.stkSub b z) with e | e
    · exact f1 e
    · exact f2 e
  have frOf : ∀ x, scope.names.lookup x = some .free → ∃ c, cl.lookup x = some c := fun x e => c2 (x, .free) (PySem.mem_of_lookup e) rfl
  refine ⟨⟨I.ok.mod, S.kind, I.ok.glob, I.ok.blt, Nat.le_refl _, fun x y c e1 e2 => I.ok.inj x y c (c1 x c e1) (c1 y c e2), fun x hx => ?_, fun x c z _ => absurd (show false = true from z) (by decide), I.ok.hd, I.ok.frames, .inl rfl,
    fun b hb => ⟨?_, fun x c e => (hf b hb).2.2.2.2.1 x c (c1 x c e)⟩, I.bs, Nat.le_trans I.ok.bsz I.sz, fun b o e hb => ?_, noS, I.stack, I.stkFree⟩,
    rfl, I.bare, Un.kept hk, ⟨m, hn, fun i x v e1 e2 e3 => ?_⟩, fun x c e => ?_, I.hok.fresh (Nat.le_refl _), fun x c e => I.freeC x c (c1 x c e), fun p hp => absurd (show p ∈ ([] : List (Addr × Obj)) from hp) (by simp), I.hok.kept hk, ?_⟩
  · have hx' : (scope.names.lookup x).map (relK X.env x) = some .cell ∨ (scope.names.lookup x).map (relK X.env x) = some .free := by
      rw [← kindOf_comp (cl := cl) (C := s.heap.objs.size)]
      exact hx
    cases e : scope.names.lookup x with
    | none =>
      rw [e] at hx'
      rcases hx' with z | z <;> cases z
    | some k =>
      rw [e] at hx'
      have z : relK X.env x k = .cell ∨ relK X.env x k = .free := by
        rcases hx' with z | z
        · exact .inl (Option.some.inj z)
        · exact .inr (Option.some.inj z)
      rcases relK_of z with z | z
      · subst z
        exact absurd rfl (S.nocell _ (PySem.mem_of_lookup e))
      · subst z
        exact frOf x e
  · obtain ⟨o, e⟩ := ho b hb
    exact Nat.ne_of_lt (Heap.lt_size e)
  · obtain ⟨_, _, _, f3, _⟩ := hf b hb
    rcases f3 with z | z
    · exact I.ok.noex b o e z
    · exact absurd (Nat.lt_of_lt_of_le (Heap.lt_size e) (Nat.le_trans I.ok.bsz z)) (Nat.lt_irrefl _)
  · have hi : i < caps.length := by
      unfold capt at e2
      obtain ⟨h1, _⟩ := List.getElem?_eq_some_iff.mp e2
      simpa using h1
    have ec : (capt caps σ)[i]? = (caps[i]?).map fun o => match o with
        | none => none
        | some j => (σ[j]?).join := by
      unfold capt
      rw [List.getElem?_map]
    rw [e2] at ec
    cases q : caps[i]? with
    | none =>
      rw [q] at ec
      cases ec
    | some o =>
      rw [q] at ec
      cases o with
      | none =>
        cases (Option.some.inj ec)
      | some j =>
        have ej : σ[j]? = some (some v) := by
          have z : some v = (σ[j]?).join := Option.some.inj ec
          cases q2 : σ[j]? with
          | none => rw [q2] at z; cases z
          | some w => rw [q2] at z; exact congrArg some z.symm
        obtain ⟨n1, n2⟩ := S.cap i j x e1 q
        have vis : X.env.kindOf x = some .cell ∨ X.env.kindOf x = some .free := S.fr (x, .free) (PySem.mem_of_lookup n2) rfl
        obtain ⟨m0, _, hl⟩ := I.loc
        obtain ⟨u, r, l⟩ := hl j x v n1 ej (.inr vis)
        refine ⟨u, r, ?_⟩
        rcases l with ⟨k, _⟩ | ⟨_, c, ec, z⟩
        · rw [k] at vis
          rcases vis with z | z <;> cases z
        · obtain ⟨c', e'⟩ := frOf x n2
          have : c' = c := Option.some.inj ((c1 x c' e').symm.trans ec)
          subst this
          refine .inr ⟨?_, c', e', ?_⟩
          · have kk : (compEnvC scope cl s.heap.objs.size X.env).kindOf x = some (relK X.env x .free) := by rw [kindOf_comp, n2]; rfl
            rcases relK_free (env := X.env) (x := x) with z | z
            · rw [z] at kk; exact .inl kk
            · rw [z] at kk; exact .inr kk
          · obtain ⟨o, ho1, ho2⟩ := z
            exact ⟨o, hk _ _ ho1, ho2⟩
  · obtain ⟨v, o, ho1, ho2⟩ := I.cell x c (c1 x c e)
    exact ⟨v, o, hk _ _ ho1, ho2⟩
  · show (capt caps σ).length = N.length
    unfold capt
    rw [List.length_map]
    exact S.len.symm
end
end L2
namespace L2
open PySem PySem.Spec PyProof.Rows
def PF (X : Cx) (ifs : List Expr) (t : TT) : Prop :=
  ∀ (pins : List (Addr × Obj)) (s : Shared) (σ : St) (H : Hp) (Q : Bool → Hp → Prop), Inv X pins σ H s → t σ H Q →
    wpAny (model X.prog X.w) X.A (forIn ifs true fun c r => if r = true then do let ok ← isTrue c X.env (eval c X.env); pure (ForInStep.yield ok) else pure (ForInStep.yield r)) (TP X pins σ Q) X.xe s
def tYes : TT := fun _ H Q => Q true H
section
variable {X : Cx}
theorem pf_nil : PF X [] tYes := fun _ _ _ H _ I h => wpAny_pure ⟨H, I, h⟩
theorem pf_one {c : Expr} {t : TT} (hc : PT X c t) : PF X [c] t := by
  intro pins s σ H Q I h
  rw [List.forIn_cons]
  refine wpAny_bind ?_
  rw [if_pos rfl]
  refine wpAny_bind (thn (hc pins s σ H Q I h) fun ok s1 q => wpAny_pure ?_)
  exact wpAny_pure q
end
theorem compLoop_any {prog : Program} {w : World} {A : Around} {R : Result → Shared → Prop} {s : Shared} {elt target iter : Expr} {ifs : List Expr} {scope : Scope} {pos : Pos} {it acc : Value} {env : Env} (I : Nat → Shared → Prop)
    (turn : ∀ n s, I n s → wpAny (model prog w) A (pyNext it) (fun r s₁ => match r with
      | none => R (.ok .next) s₁
      | some v => wpAny (model prog w) A (letOwnedTupleGo target it v) (fun _ s₁' => wpAny (model prog w) A (assign target env v) (fun _ s₂ =>
          wpAny (model prog w) A (forIn ifs true fun c r => if r = true then do let ok ← isTrue c env (eval c env); pure (ForInStep.yield ok) else pure (ForInStep.yield r)) (fun ok s₃ =>
            if ok = true then wpAny (model prog w) A (eval elt env) (fun x s₄ =>
              wpAny (model prog w) A (call (.builtin "list.append") [acc, x]) (fun _ s₅ => ∃ m, m < n ∧ I m s₅) (fun _ _ => False) s₄) (fun _ _ => False) s₃
            else ∃ m, m < n ∧ I m s₃) (fun _ _ => False) s₂) (fun _ _ => False) s₁') (fun _ _ => False) s₁) (fun _ _ => False) s)
    (n : Nat) (h : I n s) :
    codeAny (model prog w) A (.compLoop (.ListComp elt [⟨target, iter, ifs, 0⟩] scope pos) 0 it acc env) R s := by
  refine codeAny_loop rfl I (fun n s hI => ?_) n h
  show wpAny _ A ((compTurn (.ListComp elt [⟨target, iter, ifs, 0⟩] scope pos) 0 it acc env).onRaise (fun x => do noteFrame x env; theTreesLotGoes x)) _ _ s
  refine wpAny_noted ?_
  rw [compTurn_list]
  refine wpAny_bind (wpAny_standAt (wpAny_bind (wpAny_mono (turn n s hI) (fun r s₁ h₁ => ?_) fun _ _ z => False.elim z)))
  cases r with
  | none => exact wpAny_pure h₁
  | some v =>
    refine wpAny_bind (wpAny_mono h₁ (fun _ s₁' h₁' => ?_) fun _ _ z => False.elim z)
    refine wpAny_bind (wpAny_mono h₁' (fun _ s₂ h₂ => wpAny_bind (wpAny_mono h₂ (fun ok s₃ h₃ => ?_) fun _ _ z => False.elim z)) fun _ _ z => False.elim z)
    cases ok with
    | false => exact wpAny_pure ⟨rfl, h₃⟩
    | true =>
      exact wpAny_bind (wpAny_bind (wpAny_mono h₃ (fun x s₄ h₄ => wpAny_bind (wpAny_mono h₄ (fun _ s₅ h₅ => wpAny_pure (wpAny_pure ⟨rfl, h₅⟩)) fun _ _ z => False.elim z)) fun _ _ z => False.elim z))
def CompW (J : It) (g : TG) (tf : TT) (te : TE) (D : Addr) (QE : Hp → Prop) (W : Nat → Nat → St → Hp → Prop) : Prop := ∀ i m σ H, W i m σ H →
  (J.stop i H ∧ QE H) ∨ (J.go i H ∧ ∃ N : St → Hp → Prop, (∀ σ' H', N σ' H' → ∃ m', m' < m ∧ W (i + 1) m' σ' H') ∧ ∀ x H', J.yld i H x H' → g x σ H' fun σ2 H2 => tf σ2 H2 fun b H3 =>
    if b = true then te σ2 H3 fun v H4 => ∃ xs, H4 D = some (.lst xs) ∧ xs.length < sizeLine ∧ N σ2 (upd H4 D (.lst (xs ++ [v]))) else N σ2 H3)
def tComp (caps : List (Option Nat)) (wi : TI) (g : TG) (tf : TT) (te : TE) : TE := fun σ H Q => wi σ H fun J H1 => ∀ D, H1 D = none →
  ∃ W : Nat → Nat → St → Hp → Prop, (∃ m, W 0 m (capt caps σ) (upd H1 D (.lst []))) ∧ CompW J g tf te D (fun H' => Q (.ref D) H') W
section
variable {X : Cx} {pins : List (Addr × Obj)} {σ : St} {H : Hp} {s : Shared} {N : List Str} {caps : List (Option Nat)} {scope : Scope} {elt tg iter : Expr} {ifs : List Expr} {wi : TI} {g : TG} {tf : TT} {te : TE} {pos : Pos}
theorem comp_core {RR : Value → Addr → Result → Shared → Prop} {cl : List (Str × Addr)} {Q : VK} (hc : X.calm = true) (S : CompOk X.N X.env.scope N caps scope) (hi : PI X tg iter wi)
    (hg : ∀ cl C fp s H, PG (cxComp X N scope cl C fp s H) tg g) (hf : ∀ cl C fp s H, PF (cxComp X N scope cl C fp s H) ifs tf) (he : ∀ cl C fp s H, PE (cxComp X N scope cl C fp s H) elt te)
    (c1 : ∀ x c, cl.lookup x = some c → X.env.cells.lookup x = some c) (c2 : ∀ y ∈ scope.names, y.2 = .free → ∃ c, cl.lookup y.1 = some c)
    (I : Inv X pins σ H s) (h : tComp caps wi g tf te σ H Q)
    (fin : ∀ (D C : Addr) (m : Str → Option Value) (H5 : Hp) (s5 : Shared), Inv X pins σ H5 s5 → s5.heap.Ns C m → FpOk X pins H5 C → Q (.ref D) H5 → RR (.ref D) C (.ok .next) s5) :
    wpAny (model X.prog X.w) X.A (eval iter X.env) (fun x s₁ => wpAny (model X.prog X.w) X.A (pyIter x) (fun it s₂ => wpAny (model X.prog X.w) X.A (newList []) (fun acc s₃ =>
      wpAny (model X.prog X.w) X.A (newFunctionEnv scope X.env.globals cl [] X.env.qual none .none (some X.env)) (fun cenv s₄ =>
        codeAny (model X.prog X.w) X.A (.compStart (.ListComp elt [⟨tg, iter, ifs, 0⟩] scope pos) 0 it acc { cenv with scope := relabel scope X.env }) (RR acc cenv.locals) s₄) X.xe s₃) X.xe s₂) X.xe s₁) X.xe s := by
  refine thn (hi pins s σ H _ I h) fun v s1 h1 => thn h1 fun itv s2 h2 => ?_
  obtain ⟨it, fp, tn, J, H2, e, I2, T, st2, f2, q⟩ := h2
  subst e
  have nD : H2 s2.heap.objs.size = none := I2.hok.fresh (Nat.le_refl _)
  obtain ⟨W, ⟨m0, w0⟩, turn⟩ := q s2.heap.objs.size nD
  refine wpAny_newObj_type ?_
  have I3 : Inv X pins σ (upd H2 s2.heap.objs.size (.lst [])) { s2 with heap := s2.heap.push { cls := .type "list", data := .seq ([] : List Value).toArray } } :=
    I2.laid (t' := s2.toks) (o := .lst []) (fun b ob e => Heap.get?_push_of_some _ e) (Nat.le_refl _) ⟨Nat.zero_le _, [], 0, .nil, Heap.get?_push_size _ rfl⟩
  have ob2 : ∀ b ∈ fp, ∃ o, s2.heap.get? b = some o := fun b hb => let ⟨o, e, _⟩ := T.obj 0 s2.heap st2 b hb; ⟨o, e⟩
  have nfD : ∀ b ∈ fp, b ≠ s2.heap.objs.size := fun b hb => let ⟨o, e⟩ := ob2 b hb; Nat.ne_of_lt (Heap.lt_size e)
  generalize hs3 : ({ s2 with heap := s2.heap.push { cls := .type "list", data := .seq ([] : List Value).toArray } } : Shared) = s3 at I3
  have eh : s3.heap = s2.heap.push { cls := .type "list", data := .seq ([] : List Value).toArray } := by rw [← hs3]
  generalize hD : s2.heap.objs.size = D at *
  generalize hH3 : upd H2 D (.lst []) = H3 at I3 w0
  have f3 : ∀ b ∈ fp, FpOk X pins H3 b := fun b hb => ⟨by rw [← hH3, upd_ne (nfD b hb)]; exact (f2 b hb).1, (f2 b hb).2⟩
  have ob3 : ∀ b ∈ fp, ∃ o, s3.heap.get? b = some o := fun b hb => let ⟨o, e⟩ := ob2 b hb; ⟨o, by rw [eh]; exact Heap.get?_push_of_some _ e⟩
  have st3 : tn 0 s3.heap := T.keep 0 _ _ st2 fun b hb o e => by rw [eh]; exact Heap.get?_push_of_some _ e
  show wpAny (model X.prog X.w) X.A (newFunctionEnv scope X.env.globals cl [] X.env.qual none .none (some X.env)) _ X.xe s3
  refine wpAny_newFunctionEnv S.nocell (by intro y hy; simp at hy) (fun h₁ hns₁ hsb₁ => ?_) S.kind
  have k1 : ∀ b u, s3.heap.get? b = some u → h₁.get? b = some u := fun b u e => hsb₁.extBut b u (Nat.ne_of_lt (Heap.lt_size e)) (Heap.get?_push_of_some _ e)
  have J0 := inv_comp (tk := s3.toks + ([] : List (Str × Value)).length) I3 f3 ob3 S c1 c2 hns₁ k1
  generalize hC : s3.heap.objs.size = C at *
  generalize hX' : cxComp X N scope cl C fp s3 H3 = X' at J0
  have st4 : tn 0 h₁ := T.keep 0 _ _ st3 fun b hb o e => k1 b o e
  have stat : ∀ {H' : Hp}, (∀ b ∈ fp, H' b = none) → ∀ b ∈ fp, FpOk X' [] H' b := fun {H'} hn b hb => by
    subst hX'
    exact ⟨hn b hb, (J0.ok.exf b hb).1, J0.ok.exfs b hb, .inl hb, (J0.ok.exf b hb).2, fun p hp => absurd (show p ∈ ([] : List (Addr × Obj)) from hp) (by simp)⟩
  have loop : ∀ s4 : Shared, s4 = { s3 with heap := h₁, toks := s3.toks + ([] : List (Str × Value)).length } →
      codeAny (model X.prog X.w) X.A (.compLoop (.ListComp elt [⟨tg, iter, ifs, 0⟩] scope pos) 0 (.ref it) (.ref D) (compEnvC scope cl C X.env)) (RR (.ref D) C) s4 := by
    rintro s4 rfl
    refine compLoop_any (fun n s' => ∃ i σ' H', Inv X' [] σ' H' s' ∧ tn i s'.heap ∧ (∀ b ∈ fp, H' b = none) ∧ W i n σ' H') ?_ m0 ⟨0, _, H3, J0, st4, fun b hb => (f3 b hb).1, w0⟩
    rintro n s4 ⟨i, σ4, H4, J4, st4, fr4, w4⟩
    rcases turn i n σ4 H4 w4 with ⟨stop, qn⟩ | ⟨go, Nn, hNn, step⟩
    · have d := T.done X' (by subst hX'; rfl) (by subst hX'; rfl) (by subst hX'; rfl) (by subst hX'; exact hc) i [] s4 σ4 H4 (fun _ _ => False) J4 (stat fr4) st4 stop
      have eA : X'.A = X.A := by subst hX'; rfl
      rw [eA] at d
      refine wpAny_mono d (fun r s5 hr => ?_) fun _ _ z => z
      obtain ⟨hr, J5⟩ := hr
      subst hr
      have I5 : Inv X pins σ H4 s5 := by
        subst hX'
        exact I3.call' J5.os J5.base J5.hok J5.bare fun b hb => ⟨(f3 b hb).2.2.2.1, (f3 b hb).2.1, (f3 b hb).2.2.2.2.1, (f3 b hb).2.2.2.2.2⟩
      obtain ⟨m, hn, _⟩ := J5.loc
      have fr := J5.free
      subst hX'
      exact fin D C m H4 s5 I5 hn (I3.fpOk (b := C) (Nat.le_of_eq hC) fr) qn
    · have d := T.item X' (by subst hX'; rfl) (by subst hX'; rfl) (by subst hX'; rfl) (by subst hX'; exact hc) i [] s4 σ4 H4 (fun _ _ => False) J4 (stat fr4) st4 go
      have eA : X'.A = X.A := by subst hX'; rfl
      rw [eA] at d
      refine wpAny_mono d (fun r s5 hr => ?_) fun _ _ z => z
      obtain ⟨u, hr, h5⟩ := hr
      subst hr
      refine wpAny_mono h5 (fun _ s6 q6 => ?_) fun _ _ z => z
      obtain ⟨x, H6, J6, r6, y6, st6, fr6⟩ := q6
      have J6' := J6.pinned (stat fr6) (T.obj _ _ st6)
      have again : ∀ {H9 : Hp} {s9 : Shared} {σ9 : St}, Inv X' ([] ++ pinsAt fp s6.heap) σ9 H9 s9 → Nn σ9 H9 → ∃ m, m < n ∧ ∃ i σ' H', Inv X' [] σ' H' s9 ∧ tn i s9.heap ∧ (∀ b ∈ fp, H' b = none) ∧ W i m σ' H' := fun {H9 s9 σ9} J9 q9 => by
        obtain ⟨m', hm, w9⟩ := hNn σ9 H9 q9
        refine ⟨m', hm, i + 1, σ9, H9, J9.unpinned, T.keep _ _ _ st6 fun b hb o e => (J9.pin (b, o) (List.mem_append_right _ (List.mem_append_right _ (mem_pinsAt hb e)))).1, fun b hb => ?_, w9⟩
        obtain ⟨o, e, d⟩ := T.obj _ _ st6 b hb
        exact (J9.pin (b, o) (List.mem_append_right _ (List.mem_append_right _ (mem_pinsAt hb e)))).2.1
      subst hX'
      refine wpAny_mono (hg cl C fp s3 H3 _ s6 σ4 H6 x u _ J6' r6 (step x H6 y6)) (fun _ s7 q7 => ?_) fun _ _ z => z
      obtain ⟨σ7, H7, J7, q7⟩ := q7
      refine wpAny_mono (hf cl C fp s3 H3 _ s7 σ7 H7 _ J7 q7) (fun ok s8 q8 => ?_) fun _ _ z => z
      obtain ⟨H8, J8, q8⟩ := q8
      cases ok with
      | false =>
        rw [if_neg (by decide)] at q8
        rw [if_neg (by decide)]
        exact again J8 q8
      | true =>
        rw [if_pos rfl] at q8
        rw [if_pos rfl]
        refine wpAny_mono (he cl C fp s3 H3 _ s8 σ7 H8 _ J8 q8) (fun v9 s9 q9 => ?_) fun _ _ z => z
        obtain ⟨y, H9, J9, r9, xs, hD9, hz, q9⟩ := q9
        refine wpAny_mono (mt_append (X := cxComp X N scope cl C fp s3 H3) _ s9 σ7 H9 (.ref D) [y] (.ref D) [v9] (fun _ H' => Nn σ7 H') J9 rfl (.cons r9 .nil) ⟨D, xs, y, rfl, rfl, hD9, hz, q9⟩) (fun _ s10 q10 => ?_) fun _ _ z => z
        obtain ⟨_, H10, J10, _, q10⟩ := q10
        exact again J10 q10
  exact codeAny_compStart_list (loop _ rfl) (T.self _ 0 _ _ _ st4 (loop _ rfl))
theorem pe_comp (hc : X.calm = true) (ho : compOk X.N X.env.scope N caps scope = true) (hi : PI X tg iter wi)
    (hg : ∀ cl C fp s H, PG (cxComp X N scope cl C fp s H) tg g) (hf : ∀ cl C fp s H, PF (cxComp X N scope cl C fp s H) ifs tf) (he : ∀ cl C fp s H, PE (cxComp X N scope cl C fp s H) elt te)
    (hs : ∀ x, foldedSetIterable iter X.env x = pure x := by intro _; rfl) : PE X (.ListComp elt [⟨tg, iter, ifs, 0⟩] scope pos) (tComp caps wi g tf te) := by
  intro pins s σ H Q I h
  have S := compOk_of ho
  obtain ⟨cl, hcl, c1, c2⟩ := closFor (scope := scope) (env := X.env) (fun y hy e => I.ok.has y.1 (S.fr y hy e))
  rw [eval_ListComp]
  refine wpAny_comprehension_free (use := none) rfl hs hcl S.kind S.loc (comp_core (RR := fun acc C => compPost (model X.prog X.w) X.A X.xe none (EP X pins σ Q) acc C) hc S hi hg hf he c1 c2 I h ?_)
  intro D C m H5 s5 I5 hn fC q
  exact ⟨m, hn, fun h' sb => ⟨.ref D, H5, I5.turned (t' := s5.toks) (fun b o hb e => (sb.2 b hb).trans e) fC.1 fC.2.1 fC.2.2.2.1 fC.2.2.2.2.1 fC.2.2.2.2.2, rfl, q⟩⟩
theorem ps_setComp {i : Nat} {x : Str} {px spos : Pos} (hN : X.N.Nodup) (hix : X.N[i]? = some x) (hx : X.env.scope.names.lookup x = some .local) (hc : X.calm = true) (ho : compOk X.N X.env.scope N caps scope = true) (hi : PI X tg iter wi)
    (hg : ∀ cl C fp s H, PG (cxComp X N scope cl C fp s H) tg g) (hf : ∀ cl C fp s H, PF (cxComp X N scope cl C fp s H) ifs tf) (he : ∀ cl C fp s H, PE (cxComp X N scope cl C fp s H) elt te)
    (hsw : swapsWith (.ListComp elt [⟨tg, iter, ifs, 0⟩] scope pos) (some (.Name x px)) spos.line X.env = pure true := by rfl)
    (hs : ∀ x, foldedSetIterable iter X.env x = pure x := by intro _; rfl) : PS X (.Assign [.Name x px] (.ListComp elt [⟨tg, iter, ifs, 0⟩] scope pos) spos) (tAsg (tComp caps wi g tf te) (gName i)) := by
  intro pins s σ H D I h
  have S := compOk_of ho
  obtain ⟨cl, hcl, c1, c2⟩ := closFor (scope := scope) (env := X.env) (fun y hy e => I.ok.has y.1 (S.fr y hy e))
  rw [exec_Assign_Name_used _ _ _ _ hsw]
  refine wpAny_bind (wpAny_standAt (wpAny_bind ?_))
  show wpAny _ X.A (do let _ ← comprehension (.ListComp elt [⟨tg, iter, ifs, 0⟩] scope pos) scope X.env _ (newList []) false (eval iter X.env) (some (assign (.Name x px) X.env))) _ _ s
  refine wpAny_bind (wpAny_mono (wpAny_comprehension_free (use := some (assign (.Name x px) X.env)) (Q := fun _ s' => SP X pins D .next s') rfl hs hcl S.kind S.loc
    (comp_core (RR := fun acc C => compPost (model X.prog X.w) X.A X.xe (some (assign (.Name x px) X.env)) (fun _ s' => SP X pins D .next s') acc C) hc S hi hg hf he c1 c2 I h ?_)) (fun _ s' hq => wpAny_pure (wpAny_pure hq)) fun _ _ e => e)
  intro Da C m H5 s5 I5 hn fC q
  obtain ⟨oC, es, ep, hoC, hd, hrest⟩ := id hn
  have I5' := I5.pinned (fp := [C]) (fun b hb => by
    have e : b = C := by simpa using hb
    subst e; exact fC) (fun b hb => by
    have e : b = C := by simpa using hb
    subst e; exact ⟨oC, hoC, fun v z => by rw [hd] at z; cases z⟩)
  show wpAny _ X.A (assign (.Name x px) X.env (.ref Da)) _ _ _
  refine wpAny_assign_Name (store_ok I5' hN hix (.inl hx) (v := .ref Da) rfl (fun s6 I6 => ?_) (.inr hx))
  have pC := I6.pin (C, oC) (List.mem_append_right _ (List.mem_append_right _ (mem_pinsAt (by simp) hoC)))
  refine ⟨m, ⟨oC, es, ep, pC.1, hd, hrest⟩, fun h' sb => ?_⟩
  exact ⟨_, H5, I6.unpinned.turned (t' := s6.toks) (fun b o hb e => (sb.2 b hb).trans e) fC.1 fC.2.1 fC.2.2.2.1 fC.2.2.2.2.1 fC.2.2.2.2.2, q⟩
end
end L2
namespace L2
open PySem PySem.Spec PyProof.Rows
theorem comp_by {J : It} {g : TG} {tf : TT} {te : TE} {D : Addr} {QE : Hp → Prop} {σ : St} {H : Hp} (n : Nat) (Pv : Nat → St → Hp → Prop) (h0 : Pv 0 σ H) (hgo : ∀ i σ H, i < n → Pv i σ H → J.go i H) (hst : ∀ σ H, Pv n σ H → J.stop n H ∧ QE H)
    (hs : ∀ i σ H, i < n → Pv i σ H → ∀ x H', J.yld i H x H' → g x σ H' fun σ2 H2 => tf σ2 H2 fun b H3 => if b = true then te σ2 H3 fun v H4 => ∃ xs, H4 D = some (.lst xs) ∧ xs.length < sizeLine ∧ Pv (i + 1) σ2 (upd H4 D (.lst (xs ++ [v]))) else Pv (i + 1) σ2 H3) :
    ∃ W : Nat → Nat → St → Hp → Prop, (∃ m, W 0 m σ H) ∧ CompW J g tf te D QE W := by
  refine ⟨fun i m σ H => m = n - i ∧ i ≤ n ∧ Pv i σ H, ⟨n, by simp, Nat.zero_le _, h0⟩, ?_⟩
  rintro i m σ H ⟨rfl, hi, p⟩
  by_cases hlt : i < n
  · exact .inr ⟨hgo i σ H hlt p, Pv (i + 1), fun σ' H' p' => ⟨n - (i + 1), by omega, rfl, hlt, p'⟩, hs i σ H hlt p⟩
  · have e : i = n := by omega
    subst e
    exact .inl (hst σ H p)
def Its (z : Str) : It := ⟨fun i _ => i < z.cps.size, fun i H x H' => H' = H ∧ ∃ c, z.cps[i]? = some c ∧ x = .str ⟨#[c]⟩, fun i _ => i = z.cps.size⟩
theorem go_str {M : Model} {A : Around} {E : Value → Shared → Prop} {s : Shared} {tg : Expr} {it : Addr} {x : Str} {t : Tok} {Q : Unit → Shared → Prop} (hQ : Q () s) : wpAny M A (letOwnedTupleGo tg (.ref it) (.str x t)) Q E s := by
  unfold letOwnedTupleGo
  cases tg <;> exact wpAny_pure hQ
theorem turn_str {P : Program} {w : World} {K : PySem.W.Frag} {tg : Expr} (it : Addr) (z : Str) (t : Tok) (ty : String) (hty : ty = "str_ascii_iterator" ∨ ty = "str_iterator") :
    Turn P w K tg (Its z) [it] it (fun i h => h.IsStrIter it ty z t i) where
  mem := by simp
  obj := fun i h st b hb => by
    have e : b = it := by simpa using hb
    subst e
    obtain ⟨o, e, c, d⟩ := st
    exact ⟨o, e, fun v z => by rw [d] at z; cases z⟩
  keep := fun i h h' st k => let ⟨o, ho, r⟩ := st; ⟨o, k it (by simp) o ho, r⟩
  item := by
    intro X hP hw hK hc i pins s σ H E I hf st hg
    subst hP hw hK
    obtain ⟨f0, f1, f2, f3, f4, f5⟩ := hf it (by simp)
    have W : Walks X.prog X.w X.A it [it] [it] z.cps.size (SignAt z) (fun i h => h.IsStrIter it ty z t i) := by
      rcases hty with rfl | rfl
      · exact Walks.strAscii (I.ok.hd hc) it z t
      · exact Walks.strWide (I.ok.hd hc) it z t
    refine W.item i s _ _ hg st fun v h' tk hv st' kk => ?_
    obtain ⟨c, u, hx, rfl⟩ := hv
    have I1 : Inv X pins σ H { s with heap := h', toks := tk } := I.turned (fun b o hb e => kk b o (by simpa using hb) e) f0 f1 f3 f4 f5
    exact ⟨_, rfl, go_str ⟨.str ⟨#[c]⟩, H, I1, ⟨u, rfl⟩, ⟨rfl, c, hx, rfl⟩, st', fun b hb => (hf b hb).1⟩⟩
  done := by
    intro X hP hw hK hc i pins s σ H E I hf st hg
    subst hP hw hK
    obtain ⟨f0, f1, f2, f3, f4, f5⟩ := hf it (by simp)
    have W : Walks X.prog X.w X.A it [it] [it] z.cps.size (SignAt z) (fun i h => h.IsStrIter it ty z t i) := by
      rcases hty with rfl | rfl
      · exact Walks.strAscii (I.ok.hd hc) it z t
      · exact Walks.strWide (I.ok.hd hc) it z t
    have e : i = z.cps.size := hg
    subst e
    exact W.done s _ _ st fun h' tk kk => ⟨rfl, I.turned (fun b o hb e => kk b o (by simpa using hb) e) f0 f1 f3 f4 f5⟩
  self := fun _ _ _ _ _ st h => by
    rcases hty with rfl | rfl
    · exact wpAny_pyIter_striter_ascii st h
    · exact wpAny_pyIter_striter_wide st h
section
variable {X : Cx} {tg : Expr}
def iStr (tl : TE) : TI := fun σ H R => tl σ H fun x H1 => ∃ z, x = .str z ∧ R (Its z) H1
theorem pi_str {l : Expr} {tl : TE} (hl : PE X l tl) : PI X tg l (iStr tl) := by
  intro pins s σ H R I h
  refine thn (hl pins s σ H _ I h) fun v s1 ⟨x, H1, I1, r1, q1⟩ => ?_
  obtain ⟨z, e, q⟩ := q1
  subst e
  obtain ⟨t, rfl⟩ := r1
  have fin : ∀ ty, (ty = "str_ascii_iterator" ∨ ty = "str_iterator") → PIE X pins σ tg R (.ref s1.heap.objs.size) { s1 with heap := s1.heap.push { cls := .type ty, data := .fields #[.str z t, .int 0 0] } } := fun ty hty => by
    refine ⟨s1.heap.objs.size, [s1.heap.objs.size], _, _, H1, rfl, I1.kept (t' := s1.toks) fun b o e => Heap.get?_push_of_some _ e, turn_str _ z t ty hty, ⟨_, Heap.get?_push_size _ rfl, rfl, rfl⟩, fun b hb => ?_, q⟩
    have e : b = s1.heap.objs.size := by simpa using hb
    subst e
    exact I1.fpOk (Nat.le_refl _) (I1.hok.fresh (Nat.le_refl _))
  cases ha : z.cps.all (· < 128)
  · exact wpAny_pyIter_wide ha (fin _ (.inr rfl))
  · exact wpAny_pyIter_ascii ha (fin _ (.inl rfl))
end
def cutS (z : Str) (lo hi : Option Int) : Str := ⟨((z.cps.toList.drop (HT.sIx z.length 0 lo)).take (HT.sIx z.length z.length hi - HT.sIx z.length 0 lo)).toArray⟩
theorem strSlice_pick (lo hi : Option Int) (n : Nat) : Builtin.Str.strSliceIndices lo hi 1 n = (List.range (HT.sIx n n hi - HT.sIx n 0 lo)).map (HT.sIx n 0 lo + ·) := by
  have h : Builtin.Str.strSliceIndices lo hi 1 n = sliceRange ((HT.sIx n 0 lo : Nat) : Int) ((HT.sIx n n hi : Nat) : Int) 1 := by
    unfold Builtin.Str.strSliceIndices
    simp only [show (1 : Int) > 0 by decide, if_true]
    congr 1
    · cases lo with
      | none => rfl
      | some i =>
        rw [← HT.clip_eq i n 0]
        show max 0 (min (if i < 0 then i + (n : Int) else i) (n : Int)) = _
        split <;> omega
    · cases hi with
      | none => rfl
      | some i =>
        rw [← HT.clip_eq i n n]
        show max 0 (min (if i < 0 then i + (n : Int) else i) (n : Int)) = _
        split <;> omega
  rw [h]
  unfold sliceRange
  simp only [show (1 : Int) > 0 by decide, if_true]
  have e2 : (if ((HT.sIx n 0 lo : Nat) : Int) < ((HT.sIx n n hi : Nat) : Int) then (((HT.sIx n n hi : Nat) : Int) - ((HT.sIx n 0 lo : Nat) : Int) + 1 - 1) / 1 else 0).toNat = HT.sIx n n hi - HT.sIx n 0 lo := by
    split
    · rw [Int.ediv_one]; omega
    · omega
  rw [e2]
  apply List.map_congr_left
  intro k _
  omega
theorem pick_signs (xs : Array Nat) (i k : Nat) : (((List.range k).map (i + ·)).filterMap (xs[·]?)) = (xs.toList.drop i).take k := by
  induction k with
  | zero => simp
  | succ k ih =>
    rw [List.range_succ, List.map_append, List.filterMap_append, ih, List.take_succ]
    congr 1
    simp only [List.map_cons, List.map_nil, List.getElem?_drop, Array.getElem?_toList]
    cases h : xs[i + k]? <;> simp [h]
theorem cutS_length (z : Str) (lo hi : Option Int) : (cutS z lo hi).length ≤ z.length := by
  show ((z.cps.toList.drop _).take _).toArray.size ≤ z.length
  rw [List.size_toArray, List.length_take, List.length_drop]
  have : z.cps.toList.length = z.length := by simp [Str.length]
  omega
section
variable {X : Cx}
def rSlS : V → Option Int → Option Int → Hp → VK → Prop := fun x lo hi H Q => ∃ z, x = .str z ∧ z.length ≤ sizeLine ∧ Q (.str (cutS z lo hi)) H
theorem sl_str : SlR X rSlS := by
  intro pins s σ H x v vl vu lo hi sl Q I rx hs pl pu h
  obtain ⟨z, rfl, hzl, q⟩ := h
  obtain ⟨t, rfl⟩ := rx
  refine ⟨"str", _, F.slot_str_getitem.lookup, typeIs_str s z t, ?_⟩
  obtain ⟨l, rfl, el⟩ : ∃ l : Option (Int × Tok), vl = partValue l ∧ l.map (·.1) = lo := by
    cases pl with
    | none => exact ⟨none, rfl, rfl⟩
    | int i t => exact ⟨some (i, t), rfl, rfl⟩
  obtain ⟨u, rfl, eu⟩ : ∃ u : Option (Int × Tok), vu = partValue u ∧ u.map (·.1) = hi := by
    cases pu with
    | none => exact ⟨none, rfl, rfl⟩
    | int i t => exact ⟨some (i, t), rfl, rfl⟩
  refine wpAny_getItem_str_slice (l := l) (u := u) (st := none) hs rfl ?_
  have ep : slicePicked z l u none = (List.range (HT.sIx z.length z.length hi - HT.sIx z.length 0 lo)).map (HT.sIx z.length 0 lo + ·) := by
    unfold slicePicked
    rw [el, eu]
    exact strSlice_pick lo hi z.length
  have ec : (slicePicked z l u none).filterMap (z.cps[·]?) = (z.cps.toList.drop (HT.sIx z.length 0 lo)).take (HT.sIx z.length z.length hi - HT.sIx z.length 0 lo) := by
    rw [ep, pick_signs]
  unfold sliceMade
  split
  · rename_i hw
    have hlen : (slicePicked z l u none).length = z.length := by simpa using hw
    have e : cutS z lo hi = z := by
      have hl : z.cps.toList.length = z.length := by simp [Str.length]
      rw [ep, List.length_map, List.length_range] at hlen
      have h1 := HT.sIx_le z.length z.length (Nat.le_refl _) hi
      have a0 : HT.sIx z.length 0 lo = 0 ∨ z.length = 0 := by omega
      unfold cutS
      rcases a0 with a0 | a0
      · rw [hlen, a0, List.drop_zero, List.take_of_length_le (by omega)]
      · have z0 : z.cps.toList = [] := List.eq_nil_of_length_eq_zero (by omega)
        rw [z0, List.drop_nil, List.take_nil]
        cases z with
        | mk cps =>
          congr 1
          exact (Array.toList_inj.mp z0).symm
    rw [e] at q
    exact ⟨.str z, H, I, ⟨t, rfl⟩, q⟩
  · have e : (⟨((slicePicked z l u none).filterMap (z.cps[·]?)).toArray⟩ : Str) = cutS z lo hi := by
      unfold cutS
      rw [ec]
    rw [e]
    exact ⟨Nat.le_trans (cutS_length z lo hi) hzl, .str (cutS z lo hi), H, I.tok _, ⟨_, rfl⟩, q⟩
end
end L2
namespace L2
open PySem PySem.Spec PyProof.Rows
theorem all_range (bs : List Bool) : (List.range bs.length).all (fun i => (bs[i]?).getD true) = bs.all id := by
  rw [Bool.eq_iff_iff, List.all_eq_true, List.all_eq_true]
  constructor
  · intro h b hb
    obtain ⟨i, hi, e⟩ := List.mem_iff_getElem.mp hb
    have := h i (List.mem_range.mpr hi)
    rw [List.getElem?_eq_getElem hi, e] at this
    exact this
  · intro h i hi
    have hi' := List.mem_range.mp hi
    rw [List.getElem?_eq_getElem hi']
    exact h _ (List.getElem_mem hi')
theorem vals_bl {bs : List Bool} {us : List Value} (r : Vals (bs.map V.bl) us) {i : Nat} {v : Value} (h : us[i]? = some v) : ∃ b, bs[i]? = some b ∧ v = .bool b := by
  have hl := r.length
  obtain ⟨hi, _⟩ := List.getElem?_eq_some_iff.mp h
  rw [← hl, List.length_map] at hi
  have e : (bs.map V.bl)[i]? = some (V.bl bs[i]) := by rw [List.getElem?_map, List.getElem?_eq_getElem hi]; rfl
  obtain ⟨u, hu, ru⟩ := r.get e
  rw [h] at hu
  cases hu
  exact ⟨bs[i], List.getElem?_eq_getElem hi, ru⟩
section
variable {X : Cx}
theorem call_allL (hc : X.calm = true) (K : PySem.W.Frag) (hK : X.K = K := by rfl) : CallR X (.builtin "all") (fun xs H Q => ∃ (p : Addr) (bs : List Bool), xs = [.ref p] ∧ SqL K H p (bs.map V.bl) ∧ Q (.bl (bs.all id)) H) := by
  subst hK
  intro pins s σ H xs us Q I r h
  obtain ⟨p, bs, rfl, hp, q⟩ := h
  obtain ⟨u, rfl, ru⟩ := vals1 r
  cases ru
  obtain ⟨its, rv, pl, hz⟩ := I.list hp
  have hl : its.toArray.size = bs.length := by
    have := rv.length
    rw [List.length_map] at this
    rw [List.size_toArray]
    exact this.symm
  have hh : X.A.in1.handled = none := I.ok.hd hc
  have hne : p ≠ s.heap.objs.size := fun e => by
    obtain ⟨o, n, e1, _⟩ := pl
    exact absurd (Heap.lt_size e1) (by rw [e]; exact Nat.lt_irrefl _)
  refine call_all_walk (wpAny_pyIter_list pl.isList ?_)
  refine ⟨s.heap.objs.size, _, _, _, _, _, fun i => (bs[i]?).getD true, rfl, Walks.list hh _ p hne its.toArray, ⟨⟨_, Heap.get?_push_size _ rfl, rfl, rfl⟩, pl.isList.at fun o e => Heap.get?_push_of_some _ e⟩, ?_, fun h' tk kk => ?_⟩
  · intro i v s' Q' E' hv hq
    have hv' : its[i]? = some v := by simpa using hv
    obtain ⟨b, e, rfl⟩ := vals_bl rv hv'
    have hq' : Q' ((bs[i]?).getD true) s' := hq
    rw [e] at hq'
    exact wpAny_truthy_bool hq'
  · rw [hl, all_range]
    exact ⟨.bl _, H, I.kept fun b o e => kk b o (by simp; exact Nat.ne_of_lt (Heap.lt_size e)) (Heap.get?_push_of_some _ e), rfl, q⟩
def tyTs : List String := ["NoneType", "bool", "int", "str", "list", "tuple", "dict"]
def tyNs : List String := ["bool", "int", "str", "list", "tuple", "dict"]
def tyIs (T n : String) : Bool := T == n || (T == "bool" && n == "int")
theorem kit_tab : ∀ T ∈ tyTs, ∀ n ∈ tyNs, PySem.W.kitMeta n = true ∧ (PySem.fastBuiltinMro T).map (·.contains (Value.type n)) = some (tyIs T n) := by decide +kernel
theorem kit_one {K : PySem.W.Frag} {T n : String} (hT : T ∈ tyTs) (hn : n ∈ tyNs) : PySem.W.kitOne K (.type T) (.type n) = some (tyIs T n) := by
  obtain ⟨h1, h2⟩ := kit_tab T hT n hn
  unfold PySem.W.kitOne
  split
  · rename_i e
    have e' := eq_of_beq e
    injection e' with e''
    subst e''
    simp [tyIs]
  · unfold PySem.W.kitCls
    show (if PySem.W.kitMeta n = true then PySem.W.subIn K (.type T) (.type n) else none) = _
    rw [if_pos h1]
    exact h2
theorem call_isi (K : PySem.W.Frag) (hK : X.K = K := by rfl) : CallR X (.builtin "isinstance") (fun xs H Q => ∃ x n T, xs = [x, .ty n] ∧ TyOf K H x (.type T) ∧ T ∈ tyTs ∧ n ∈ tyNs ∧ Q (.bl (tyIs T n)) H) := by
  subst hK
  intro pins s σ H xs us Q I r h
  obtain ⟨x, n, T, rfl, ty, hT, hn, q⟩ := h
  obtain ⟨u, c, rfl, ru, rc⟩ := vals2 r
  cases rc
  exact isinst_ok I ru ty (kit_one hT hn) fun tk => ⟨.bl _, H, I.tok tk, rfl, q⟩
theorem pe_gI {x : Str} {i : Int} {pos : Pos} (hg : Gl X x) (hm : ∃ t, X.mg x = some (.int i t)) (hd : (x == ("__debug__" : Str)) = false := by decide) : PE X (.Name x pos) (tC (.int i)) := by
  obtain ⟨t, e⟩ := hm
  exact pe_glob hg e ⟨t, rfl⟩ hd
theorem pe_gS {x z : Str} {pos : Pos} (hg : Gl X x) (hm : ∃ t, X.mg x = some (.str z t)) (hd : (x == ("__debug__" : Str)) = false := by decide) : PE X (.Name x pos) (tC (.str z)) := by
  obtain ⟨t, e⟩ := hm
  exact pe_glob hg e ⟨t, rfl⟩ hd
theorem pe_ty {x : Str} {n : String} {pos : Pos} (hg : Gl X x) (hm : X.mg x = none) (hv : bootBuiltins x = some (.type n)) (hn : x ≠ "__name__" := by decide) (hd : (x == ("__debug__" : Str)) = false := by decide) : PE X (.Name x pos) (tC (.ty n)) :=
  pe_bltn hg hm hv rfl hn hd
end
structure Top (K : PySem.W.Frag) (mg : Str → Option Value) (x : Str) (st : Stmt) (ps : List Str) : Prop where
  ex : ∃ f fd, Fun K x x st f fd ∧ mg x = some (.ref f) ∧ ∀ us : List Value, us.length = ps.length → bindArgs fd ⟨us, []⟩ = pure (ps.zip us)
theorem top_mk {K : PySem.W.Frag} {h : Heap} {mg : Str → Option Value} {x : Str} {st : Stmt} {ps : List Str} {f : Addr} {oc : Value} {od an : Option Addr} {osl : Array (Option Value)} {kV doc pm cdv ct : Value} (X : K.In h) (G : h.Ns mainGlobals mg)
    (b : ∀ (kV doc pm : Value) (an : Option Addr) (cdv ct : Value) (us : List Value), us.length = ps.length → bindArgs (PySem.W.fnOf x x (defArgs st) (defBody st) (defScope st) .none kV doc pm an cdv ct) ⟨us, []⟩ = pure (ps.zip us))
    (a : PySem.W.nsIn K mainGlobals x = some (some (.ref f)))
    (l : K.lookup f = some ⟨oc, od, .func (PySem.W.fnOf x x (defArgs st) (defBody st) (defScope st) .none kV doc pm an cdv ct), osl⟩) (c : PySem.W.codeIn K cdv x = true) (k : PySem.W.keepIn K (.ref f) = true) : Top K mg x st ps := by
  have F := fun_mk (st := st) l c k
  exact ⟨f, _, F, PySem.W.mg_of X G a, b kV doc pm an cdv ct⟩
structure Def (P : Program) (w : World) (K : PySem.W.Frag) (mg : Str → Option Value) (base : Heap) (k : Nat) (x : Str) (ps : List Str) (sp : Sp) : Prop where
  ex : ∃ f fd, FnOk P w K mg base CX0 k f fd ps sp ∧ mg x = some (.ref f) ∧ PySem.W.keepIn K (.ref f) = true ∧ Binds K fd ps []
theorem Top.ok {P : Program} {w : World} {K : PySem.W.Frag} {mg : Str → Option Value} {base : Heap} {x : Str} {st : Stmt} {N ps : List Str} {k : Nat} {sp : Sp} (T : Top K mg x st ps) (S : FnScope N ps (defScope st)) (len : ∀ vs H Q E, sp vs H Q E → vs.length = ps.length)
    (hbody : ∀ (f : Addr) (cdv : Value) (A : Around) (outer : List Env) (s : Shared) (H : Hp) (vs : List V) (Q : VK) (E : XK), Room k (A.deeper (envOfC x (defScope st) s.heap.objs.size f cdv)) → sp vs H Q E →
      ∃ t, PSs (cxOf CX0 P w K mg base N x (defScope st) f cdv A outer s H E).nox (defBody st) t ∧ t { nx := fun _ H' => Q .non H', rt := Q } (start N vs) H) : Def P w K mg base (k + 1) x ps sp := by
  obtain ⟨f, fd, F, hm, hb⟩ := T.ex
  exact ⟨f, fd, F.ok S len (hbody f), hm, F.kp, Binds.all hb⟩
theorem Top.fin {l : PySem.W.OpenLaw} {w : World} {K : PySem.W.Frag} {mg : Str → Option Value} {fa : Addr} {x : Str} {st : Stmt} {N : List Str} {k : Nat} {sp : Sp} (T : Top K mg "law" st [x]) (hfa : mg "law" = some (.ref fa)) (S : FnScope N [x] (defScope st))
    (len : ∀ vs H Q E, sp vs H Q E → vs.length = [x].length)
    (hbody : ∀ (base : Heap) (f : Addr) (cdv : Value) (A : Around) (outer : List Env) (s : Shared) (H : Hp) (vs : List V) (Q : VK) (E : XK), Room k (A.deeper (envOfC "law" (defScope st) s.heap.objs.size f cdv)) → sp vs H Q E →
      ∃ t, PSs (cxOf CX0 l.prog w K mg base N "law" (defScope st) f cdv A outer s H E).nox (defBody st) t ∧ t { nx := fun _ H' => Q .non H', rt := Q } (start N vs) H) :
    ∃ fd : FuncData, (∀ (s : Shared) (v : Value), BindsTo s fd ⟨[v], []⟩ [(x, v)]) ∧ ∀ base : Heap, K.In base → base.Ns mainGlobals mg → FnOk l.prog w K mg base CX0 (k + 1) fa fd [x] sp := by
  obtain ⟨f, fd, F, hm, hb⟩ := T.ex
  have e := hfa.symm.trans hm
  injection e with e
  injection e with e
  subst e
  exact ⟨fd, fun s v => .of_eq (hb [v] rfl), fun base _ _ => F.ok S len (hbody base fa)⟩
theorem Def.mono {P : Program} {w : World} {K : PySem.W.Frag} {mg : Str → Option Value} {base : Heap} {x : Str} {ps : List Str} {j k : Nat} {sp : Sp} (D : Def P w K mg base j x ps sp) (h : j ≤ k) : Def P w K mg base k x ps sp := by
  obtain ⟨f, fd, F, r⟩ := D.ex
  exact ⟨f, fd, F.mono h, r⟩
section
variable {X : Cx} {k k' : Nat} {x : Str} {ps : List Str} {sp : Sp} {p pos : Pos} {e : Expr} {es : List Expr} {t : TA}
theorem pe_def (D : Def X.prog X.w X.K X.mg X.base k x ps sp) (hr : Room k' X.A) (hg : Gl X x) (ha : PA X (e :: es) t) (hkk : k ≤ k' := by decide)
    (hdb : (x == ("__debug__" : Str)) = false := by decide) (he : starEach (e :: es) X.env = (false, eval e X.env) :: starEach es X.env := by rfl) (hpl : (backTo pos (starEach es X.env)).any (·.1) = false := by rfl) :
    PE X (.Call (.Name x p) (e :: es) [] pos) (tCall sp [] E0 t) := by
  obtain ⟨f, fd, F, hm, hk, hb⟩ := D.ex
  exact pe_call F (hr.mono hkk) hg hm hk hb .nil pass0 ha hdb he hpl
end
end L2
namespace L2
open PySem PySem.Spec PyProof.Rows
section
variable {X : Cx} {tg : Expr}
theorem call_lenK (K : PySem.W.Frag) (hK : X.K = K := by rfl) : CallR X (.builtin "len") (fun xs H Q => ∃ x n, xs = [x] ∧ LenV K x H n ∧ Q (.int n) H) := by subst hK; exact call_len
theorem ix_listK (K : PySem.W.Frag) (hK : X.K = K := by rfl) : IxR X (rIxL K) := by subst hK; exact ix_list
theorem ix_tupK (K : PySem.W.Frag) (hK : X.K = K := by rfl) : IxR X (rIxT K) := by subst hK; exact ix_tup
theorem sl_listK (K : PySem.W.Frag) (hK : X.K = K := by rfl) : SlR X (rSlL K) := by subst hK; exact sl_list
theorem pi_listK (K : PySem.W.Frag) {l : Expr} {tl : TE} (hl : PE X l tl) (hK : X.K = K := by rfl) : PI X tg l (iList K tl) := by subst hK; exact pi_list hl
theorem pi_tupK (K : PySem.W.Frag) {l : Expr} {tl : TE} (hl : PE X l tl) (hK : X.K = K := by rfl) : PI X tg l (iTup K tl) := by subst hK; exact pi_tup hl
theorem call_listK (K : PySem.W.Frag) (hK : X.K = K := by rfl) : CallR X (.type "list") (fun xs H Q => ∃ p ys, xs = [.ref p] ∧ (SqL K H p ys ∨ SqT K H p ys) ∧ ∀ l, H l = none → Q (.ref l) (upd H l (.lst ys))) := by subst hK; exact call_list_of
theorem call_tupleK (K : PySem.W.Frag) (hK : X.K = K := by rfl) : CallR X (.type "tuple") (fun xs H Q => ∃ p ys, xs = [.ref p] ∧ ((SqL K H p ys ∧ ∀ l, H l = none → Q (.ref l) (upd H l (.tup ys))) ∨ (SqT K H p ys ∧ Q (.ref p) H))) := by subst hK; exact call_tuple_of
end
theorem atI_in {α : Type} {xs : List α} {i : Int} (h0 : 0 ≤ i) (h1 : i < xs.length) : ∃ v, atI xs i = some v ∧ v ∈ xs := by
  have hlt : i.toNat < xs.length := by omega
  refine ⟨xs[i.toNat], ?_, List.getElem_mem hlt⟩
  unfold atI ixN
  rw [if_pos h0, if_pos h1]
  show xs[i.toNat]? = _
  exact List.getElem?_eq_getElem hlt
theorem atI_lt {α : Type} {xs : List α} {i : Int} (h0 : 0 ≤ i) (h1 : i < xs.length) : atI xs i = xs[i.toNat]? := by
  unfold atI ixN
  rw [if_pos h0, if_pos h1]
  rfl
theorem same_upd {H : Hp} {a : Addr} {o : HO} (h : H a = none) : Same H (upd H a o) := fun b u e => by
  rw [upd_ne (ne_of_none e h)]
  exact e
theorem Same.set {H H' : Hp} {a : Addr} {o : HO} (h : Same H H') (n : H a = none) : Same H (upd H' a o) := fun b u e => by
  rw [upd_ne (ne_of_none e n)]
  exact h b u e
theorem Same.seqT {K : PySem.W.Frag} {H H' : Hp} {a : Addr} {xs : List V} (e : Same H H') (h : SqT K H a xs) : SqT K H' a xs := by
  rcases h with (h | ⟨o, h⟩) | h
  · exact .inl (.inl (e _ _ h))
  · exact .inl (.inr ⟨o, e _ _ h⟩)
  · exact .inr h
theorem TyOf.same {K : PySem.W.Frag} {H H' : Hp} {x : V} {t : Value} (s : Same H H') (h : TyOf K H x t) : TyOf K H' x t := by
  cases h with
  | non => exact .non
  | bl b => exact .bl b
  | int i => exact .int i
  | str x => exact .str x
  | flt x => exact .flt x
  | lst e => exact .lst (s _ _ e)
  | frz e => exact .frz (s _ _ e)
  | tup e => exact .tup (s _ _ e)
  | dK e => exact .dK (s _ _ e)
  | dT e => exact .dT (s _ _ e)
  | ins e cl ha hn ht hm => exact .ins (s _ _ e) cl ha hn ht hm
def notStar : Expr → Bool
  | .Starred _ _ => false
  | _ => true
theorem starEach_cons {e : Expr} {es : List Expr} {env : Env} (h : notStar e = true) : starEach (e :: es) env = (false, eval e env) :: starEach es env := by
  cases e <;> first
    | rfl
    | cases h
theorem pa_con {X : Cx} {e : Expr} {es : List Expr} {te : TE} {t : TA} (ha : PE X e te) (hr : PA X es t) (hs : notStar e = true := by rfl) : PA X (e :: es) (tCons te t) := pa_cons ha hr (starEach_cons hs)
theorem bt_len : bootBuiltins "len" = some (.builtin "len") := by decide +kernel
theorem bt_isinstance : bootBuiltins "isinstance" = some (.builtin "isinstance") := by decide +kernel
theorem bt_all : bootBuiltins "all" = some (.builtin "all") := by decide +kernel
theorem bt_str : bootBuiltins "str" = some (.type "str") := by decide +kernel
theorem bt_int : bootBuiltins "int" = some (.type "int") := by decide +kernel
theorem bt_bool : bootBuiltins "bool" = some (.type "bool") := by decide +kernel
theorem bt_list : bootBuiltins "list" = some (.type "list") := by decide +kernel
theorem bt_tuple : bootBuiltins "tuple" = some (.type "tuple") := by decide +kernel
theorem getD_lt {α : Type} {l : List α} {i : Nat} {d : α} (h : i < l.length) : l.getD i d = l[i] := by
  rw [List.getD_eq_getElem?_getD, List.getElem?_eq_getElem h]
  rfl
theorem getD_ge {α : Type} {l : List α} {i : Nat} {d : α} (h : l.length ≤ i) : l.getD i d = d := by
  rw [List.getD_eq_getElem?_getD, List.getElem?_eq_none_iff.mpr h]
  rfl
theorem pa_1 {X : Cx} {e0 : Expr} {t0 : TE} (h0 : PE X e0 t0) (hs0 : notStar e0 = true := by rfl) : PA X [e0] (tCons t0 tNil) := (pa_con h0 pa_nil hs0)
theorem pa_2 {X : Cx} {e0 e1 : Expr} {t0 t1 : TE} (h0 : PE X e0 t0) (h1 : PE X e1 t1) (hs0 : notStar e0 = true := by rfl) (hs1 : notStar e1 = true := by rfl) : PA X [e0, e1] (tCons t0 (tCons t1 tNil)) := (pa_con h0 (pa_con h1 pa_nil hs1) hs0)
theorem pa_3 {X : Cx} {e0 e1 e2 : Expr} {t0 t1 t2 : TE} (h0 : PE X e0 t0) (h1 : PE X e1 t1) (h2 : PE X e2 t2) (hs0 : notStar e0 = true := by rfl) (hs1 : notStar e1 = true := by rfl) (hs2 : notStar e2 = true := by rfl) : PA X [e0, e1, e2] (tCons t0 (tCons t1 (tCons t2 tNil))) := (pa_con h0 (pa_con h1 (pa_con h2 pa_nil hs2) hs1) hs0)
theorem pa_4 {X : Cx} {e0 e1 e2 e3 : Expr} {t0 t1 t2 t3 : TE} (h0 : PE X e0 t0) (h1 : PE X e1 t1) (h2 : PE X e2 t2) (h3 : PE X e3 t3) (hs0 : notStar e0 = true := by rfl) (hs1 : notStar e1 = true := by rfl) (hs2 : notStar e2 = true := by rfl) (hs3 : notStar e3 = true := by rfl) : PA X [e0, e1, e2, e3] (tCons t0 (tCons t1 (tCons t2 (tCons t3 tNil)))) := (pa_con h0 (pa_con h1 (pa_con h2 (pa_con h3 pa_nil hs3) hs2) hs1) hs0)
theorem pa_5 {X : Cx} {e0 e1 e2 e3 e4 : Expr} {t0 t1 t2 t3 t4 : TE} (h0 : PE X e0 t0) (h1 : PE X e1 t1) (h2 : PE X e2 t2) (h3 : PE X e3 t3) (h4 : PE X e4 t4) (hs0 : notStar e0 = true := by rfl) (hs1 : notStar e1 = true := by rfl) (hs2 : notStar e2 = true := by rfl) (hs3 : notStar e3 = true := by rfl) (hs4 : notStar e4 = true := by rfl) : PA X [e0, e1, e2, e3, e4] (tCons t0 (tCons t1 (tCons t2 (tCons t3 (tCons t4 tNil))))) := (pa_con h0 (pa_con h1 (pa_con h2 (pa_con h3 (pa_con h4 pa_nil hs4) hs3) hs2) hs1) hs0)
theorem pa_6 {X : Cx} {e0 e1 e2 e3 e4 e5 : Expr} {t0 t1 t2 t3 t4 t5 : TE} (h0 : PE X e0 t0) (h1 : PE X e1 t1) (h2 : PE X e2 t2) (h3 : PE X e3 t3) (h4 : PE X e4 t4) (h5 : PE X e5 t5) (hs0 : notStar e0 = true := by rfl) (hs1 : notStar e1 = true := by rfl) (hs2 : notStar e2 = true := by rfl) (hs3 : notStar e3 = true := by rfl) (hs4 : notStar e4 = true := by rfl) (hs5 : notStar e5 = true := by rfl) : PA X [e0, e1, e2, e3, e4, e5] (tCons t0 (tCons t1 (tCons t2 (tCons t3 (tCons t4 (tCons t5 tNil)))))) := (pa_con h0 (pa_con h1 (pa_con h2 (pa_con h3 (pa_con h4 (pa_con h5 pa_nil hs5) hs4) hs3) hs2) hs1) hs0)
theorem pa_7 {X : Cx} {e0 e1 e2 e3 e4 e5 e6 : Expr} {t0 t1 t2 t3 t4 t5 t6 : TE} (h0 : PE X e0 t0) (h1 : PE X e1 t1) (h2 : PE X e2 t2) (h3 : PE X e3 t3) (h4 : PE X e4 t4) (h5 : PE X e5 t5) (h6 : PE X e6 t6) (hs0 : notStar e0 = true := by rfl) (hs1 : notStar e1 = true := by rfl) (hs2 : notStar e2 = true := by rfl) (hs3 : notStar e3 = true := by rfl) (hs4 : notStar e4 = true := by rfl) (hs5 : notStar e5 = true := by rfl) (hs6 : notStar e6 = true := by rfl) : PA X [e0, e1, e2, e3, e4, e5, e6] (tCons t0 (tCons t1 (tCons t2 (tCons t3 (tCons t4 (tCons t5 (tCons t6 tNil))))))) := (pa_con h0 (pa_con h1 (pa_con h2 (pa_con h3 (pa_con h4 (pa_con h5 (pa_con h6 pa_nil hs6) hs5) hs4) hs3) hs2) hs1) hs0)
theorem pss_2 {X : Cx} {s0 s1 : Stmt} {t0 t1 : TS} (h0 : PS X s0 t0) (h1 : PS X s1 t1) : PSs X [s0, s1] (tSeq t0 t1) := (pss_cons h0 (pss_one h1))
theorem pss_3 {X : Cx} {s0 s1 s2 : Stmt} {t0 t1 t2 : TS} (h0 : PS X s0 t0) (h1 : PS X s1 t1) (h2 : PS X s2 t2) : PSs X [s0, s1, s2] (tSeq t0 (tSeq t1 t2)) := (pss_cons h0 (pss_cons h1 (pss_one h2)))
theorem pss_4 {X : Cx} {s0 s1 s2 s3 : Stmt} {t0 t1 t2 t3 : TS} (h0 : PS X s0 t0) (h1 : PS X s1 t1) (h2 : PS X s2 t2) (h3 : PS X s3 t3) : PSs X [s0, s1, s2, s3] (tSeq t0 (tSeq t1 (tSeq t2 t3))) := (pss_cons h0 (pss_cons h1 (pss_cons h2 (pss_one h3))))
theorem pss_6 {X : Cx} {s0 s1 s2 s3 s4 s5 : Stmt} {t0 t1 t2 t3 t4 t5 : TS} (h0 : PS X s0 t0) (h1 : PS X s1 t1) (h2 : PS X s2 t2) (h3 : PS X s3 t3) (h4 : PS X s4 t4) (h5 : PS X s5 t5) : PSs X [s0, s1, s2, s3, s4, s5] (tSeq t0 (tSeq t1 (tSeq t2 (tSeq t3 (tSeq t4 t5))))) := (pss_cons h0 (pss_cons h1 (pss_cons h2 (pss_cons h3 (pss_cons h4 (pss_one h5))))))
theorem pss_7 {X : Cx} {s0 s1 s2 s3 s4 s5 s6 : Stmt} {t0 t1 t2 t3 t4 t5 t6 : TS} (h0 : PS X s0 t0) (h1 : PS X s1 t1) (h2 : PS X s2 t2) (h3 : PS X s3 t3) (h4 : PS X s4 t4) (h5 : PS X s5 t5) (h6 : PS X s6 t6) : PSs X [s0, s1, s2, s3, s4, s5, s6] (tSeq t0 (tSeq t1 (tSeq t2 (tSeq t3 (tSeq t4 (tSeq t5 t6)))))) := (pss_cons h0 (pss_cons h1 (pss_cons h2 (pss_cons h3 (pss_cons h4 (pss_cons h5 (pss_one h6)))))))
theorem pss_9 {X : Cx} {s0 s1 s2 s3 s4 s5 s6 s7 s8 : Stmt} {t0 t1 t2 t3 t4 t5 t6 t7 t8 : TS} (h0 : PS X s0 t0) (h1 : PS X s1 t1) (h2 : PS X s2 t2) (h3 : PS X s3 t3) (h4 : PS X s4 t4) (h5 : PS X s5 t5) (h6 : PS X s6 t6) (h7 : PS X s7 t7) (h8 : PS X s8 t8) : PSs X [s0, s1, s2, s3, s4, s5, s6, s7, s8] (tSeq t0 (tSeq t1 (tSeq t2 (tSeq t3 (tSeq t4 (tSeq t5 (tSeq t6 (tSeq t7 t8)))))))) := (pss_cons h0 (pss_cons h1 (pss_cons h2 (pss_cons h3 (pss_cons h4 (pss_cons h5 (pss_cons h6 (pss_cons h7 (pss_one h8)))))))))
theorem pss_11 {X : Cx} {s0 s1 s2 s3 s4 s5 s6 s7 s8 s9 s10 : Stmt} {t0 t1 t2 t3 t4 t5 t6 t7 t8 t9 t10 : TS} (h0 : PS X s0 t0) (h1 : PS X s1 t1) (h2 : PS X s2 t2) (h3 : PS X s3 t3) (h4 : PS X s4 t4) (h5 : PS X s5 t5) (h6 : PS X s6 t6) (h7 : PS X s7 t7) (h8 : PS X s8 t8) (h9 : PS X s9 t9) (h10 : PS X s10 t10) : PSs X [s0, s1, s2, s3, s4, s5, s6, s7, s8, s9, s10] (tSeq t0 (tSeq t1 (tSeq t2 (tSeq t3 (tSeq t4 (tSeq t5 (tSeq t6 (tSeq t7 (tSeq t8 (tSeq t9 t10)))))))))) := (pss_cons h0 (pss_cons h1 (pss_cons h2 (pss_cons h3 (pss_cons h4 (pss_cons h5 (pss_cons h6 (pss_cons h7 (pss_cons h8 (pss_cons h9 (pss_one h10)))))))))))
theorem psr_1 {X : Cx} {s0 : Stmt} {ss : List Stmt} {t0 u : TS} (h0 : PS X s0 t0) (hu : PSs X ss u) : PSs X (s0 :: ss) (tSeq t0 u) := (pss_cons h0 hu)
theorem psr_3 {X : Cx} {s0 s1 s2 : Stmt} {ss : List Stmt} {t0 t1 t2 u : TS} (h0 : PS X s0 t0) (h1 : PS X s1 t1) (h2 : PS X s2 t2) (hu : PSs X ss u) : PSs X (s0 :: s1 :: s2 :: ss) (tSeq t0 (tSeq t1 (tSeq t2 u))) := (pss_cons h0 (pss_cons h1 (pss_cons h2 hu)))
theorem psr_9 {X : Cx} {s0 s1 s2 s3 s4 s5 s6 s7 s8 : Stmt} {ss : List Stmt} {t0 t1 t2 t3 t4 t5 t6 t7 t8 u : TS} (h0 : PS X s0 t0) (h1 : PS X s1 t1) (h2 : PS X s2 t2) (h3 : PS X s3 t3) (h4 : PS X s4 t4) (h5 : PS X s5 t5) (h6 : PS X s6 t6) (h7 : PS X s7 t7) (h8 : PS X s8 t8) (hu : PSs X ss u) : PSs X (s0 :: s1 :: s2 :: s3 :: s4 :: s5 :: s6 :: s7 :: s8 :: ss) (tSeq t0 (tSeq t1 (tSeq t2 (tSeq t3 (tSeq t4 (tSeq t5 (tSeq t6 (tSeq t7 (tSeq t8 u))))))))) := (pss_cons h0 (pss_cons h1 (pss_cons h2 (pss_cons h3 (pss_cons h4 (pss_cons h5 (pss_cons h6 (pss_cons h7 (pss_cons h8 hu)))))))))
theorem join_at {X : Cx} {body : List Stmt} {D : Ends} {σ : St} {H : Hp} (n : Nat) (C : St → Hp → Prop) (rest : ∃ u, PSs X (body.drop n) u ∧ ∀ σ H, C σ H → u D σ H)
    (first : ∀ u, PSs X (body.drop n) u → (∀ σ H, C σ H → u D σ H) → ∃ t, PSs X body t ∧ t D σ H) : ∃ t, PSs X body t ∧ t D σ H :=
  let ⟨u, h1, h2⟩ := rest
  first u h1 h2
theorem join_more {X : Cx} {body : List Stmt} {D : Ends} {C0 : St → Hp → Prop} (n : Nat) (C : St → Hp → Prop) (rest : ∃ u, PSs X (body.drop n) u ∧ ∀ σ H, C σ H → u D σ H)
    (first : ∀ u, PSs X (body.drop n) u → (∀ σ H, C σ H → u D σ H) → ∃ t, PSs X body t ∧ ∀ σ H, C0 σ H → t D σ H) : ∃ t, PSs X body t ∧ ∀ σ H, C0 σ H → t D σ H :=
  let ⟨u, h1, h2⟩ := rest
  first u h1 h2
end L2
namespace L2
open PySem PySem.Spec PyProof.Rows
mutual
inductive Dat (K : PySem.W.Frag) (H : Hp) : PyData → V → Prop
  | non : Dat K H .none .non
  | bl (b : Bool) : Dat K H (.bool b) (.bl b)
  | int (i : Int) : Dat K H (.int i) (.int i)
  | str (x : Str) (h : PyData.strOk x = true) : Dat K H (.str x) (.str x)
  | lst {a : Addr} {xs : List V} {ds : List PyData} : SqL K H a xs → Dats K H ds xs → Dat K H (.list ds) (.ref a)
  | tup {a : Addr} {xs : List V} {ds : List PyData} : SqT K H a xs → Dats K H ds xs → Dat K H (.tuple ds) (.ref a)
inductive Dats (K : PySem.W.Frag) (H : Hp) : List PyData → List V → Prop
  | nil : Dats K H [] []
  | cons {d : PyData} {x : V} {ds : List PyData} {xs : List V} : Dat K H d x → Dats K H ds xs → Dats K H (d :: ds) (x :: xs)
end
section
variable {K : PySem.W.Frag} {H H' : Hp}
mutual
theorem Dat.same (s : Same H H') : ∀ (d : PyData) (x : V), Dat K H d x → Dat K H' d x
  | _, _, .non => .non
  | _, _, .bl b => .bl b
  | _, _, .int i => .int i
  | _, _, .str x h => .str x h
  | _, _, .lst h r => .lst (s.seq h) (Dats.same s _ _ r)
  | _, _, .tup h r => .tup (s.seqT h) (Dats.same s _ _ r)
theorem Dats.same (s : Same H H') : ∀ (ds : List PyData) (xs : List V), Dats K H ds xs → Dats K H' ds xs
  | _, _, .nil => .nil
  | _, _, .cons a b => .cons (Dat.same s _ _ a) (Dats.same s _ _ b)
end
mutual
theorem Dat.lay : ∀ (d : PyData) (x : V), Dat K H d x → d.canLay0 = true
  | _, _, .non => rfl
  | _, _, .bl _ => rfl
  | _, _, .int _ => rfl
  | _, _, .str _ h => h
  | _, _, .lst _ r => Dats.lay _ _ r
  | _, _, .tup _ r => Dats.lay _ _ r
theorem Dats.lay : ∀ (ds : List PyData) (xs : List V), Dats K H ds xs → PyData.canLayAll0 ds = true
  | _, _, .nil => rfl
  | _, _, .cons a b => by rw [PyData.canLayAll0, Dat.lay _ _ a, Dats.lay _ _ b]; rfl
end
end
section
variable {X : Cx} {pins : List (Addr × Obj)} {σ : St} {H : Hp} {s : Shared}
mutual
theorem Dat.reads (I : Inv X pins σ H s) : ∀ (d : PyData) (x : V) (u : Value), Dat X.K H d x → RelV x u → ∃ as, Reads s.heap u d as
  | _, _, _, .non, r => by cases r; exact ⟨_, .none⟩
  | _, _, _, .bl b, r => by cases r; exact ⟨_, .bool b⟩
  | _, _, _, .int i, r => by obtain ⟨t, rfl⟩ := r; exact ⟨_, .int i t⟩
  | _, _, _, .str x _, r => by obtain ⟨t, rfl⟩ := r; exact ⟨_, .str x t⟩
  | _, _, _, .lst h q, r => by
    cases r
    obtain ⟨its, rv, ⟨o, n, e, c, _, d⟩, _⟩ := I.list h
    obtain ⟨as, ra⟩ := Dats.reads I _ _ _ q rv
    exact ⟨_, .list e c d (by simpa using ra)⟩
  | _, _, _, .tup h q, r => by
    cases r
    obtain ⟨its, rv, ⟨o, e, c, n, d⟩, _⟩ := I.tuple h
    obtain ⟨as, ra⟩ := Dats.reads I _ _ _ q rv
    exact ⟨_, .tuple e c d (by simpa using ra)⟩
theorem Dats.reads (I : Inv X pins σ H s) : ∀ (ds : List PyData) (xs : List V) (us : List Value), Dats X.K H ds xs → Vals xs us → ∃ as, ReadsAll s.heap us ds as
  | _, _, _, .nil, r => by cases r; exact ⟨_, .nil⟩
  | _, _, _, .cons a b, r => by
    cases r with
    | cons r1 r2 =>
      obtain ⟨as, h1⟩ := Dat.reads I _ _ _ a r1
      obtain ⟨bs, h2⟩ := Dats.reads I _ _ _ b r2
      exact ⟨_, .cons h1 h2⟩
end
end
section
variable {X : Cx}
theorem units_of {u d e : Nat} (hu : u + 64 < cLine) (hd : d ≤ 60) : u + min d e < cLine := by
  have : min d e ≤ d := Nat.min_le_left _ _
  omega
def rEqD (K : PySem.W.Frag) : R2 := fun x y H Q => ∃ d e, Dat K H d x ∧ Dat K H e y ∧ d.depth ≤ 60 ∧ Q (.bl (PyData.eqv d e)) H
theorem op_eqD (hu : X.A.units + 64 < cLine) (K : PySem.W.Frag) (hK : X.K = K := by rfl) : OpR X (compareOp .Eq) (rEqD K) := by
  subst hK
  intro pins s σ H x y v u Q I rx ry h
  obtain ⟨d, e, hd, he, hz, q⟩ := h
  obtain ⟨as, ra⟩ := Dat.reads I _ _ _ hd rx
  obtain ⟨bs, rb⟩ := Dat.reads I _ _ _ he ry
  exact SeqAt.rcAt_reads ra rb (Dat.lay _ _ hd) (Dat.lay _ _ he) (units_of hu hz) X.prog X.w X.xe _ (fin_bl I q rfl)
end
def LtAt (A : Around) (s : Shared) (u v : Value) (r : Bool) : Prop :=
  ∀ (prog : Program) (w : World) (E : Value → Shared → Prop) (Q : Value → Shared → Prop), Q (.bool r) s → wpAny (model prog w) A (richCompare .Lt u v) Q E s
inductive LexAt (A : Around) (s : Shared) : List Value → List Value → Bool → Prop
  | nn : LexAt A s [] [] false
  | nc {v : Value} {vs : List Value} : LexAt A s [] (v :: vs) true
  | cn {u : Value} {us : List Value} : LexAt A s (u :: us) [] false
  | eq {u v : Value} {us vs : List Value} {r : Bool} : SeqAt.EqAt A s u v true → LexAt A s us vs r → LexAt A s (u :: us) (v :: vs) r
  | lt {u v : Value} {us vs : List Value} {r : Bool} : SeqAt.EqAt A s u v false → LtAt A s u v r → LexAt A s (u :: us) (v :: vs) r
section
open PySem.SeqAt
open PySem.AutoSeq1 (wpAny_loadPart')
open PySem.MeetsSeq PySem.MeetsSeq2 PySem.MeetsSeq3
theorem tuple_lt_any (l b : Addr) (items items2 : Array Value) (n n2 : Nat) (dd dd2 : Option Addr) (sl sl2 : Array (Option Value)) (r : Bool) :
    Meets (Builtin.«tuple.__lt__» ⟨[.ref l, .ref b], []⟩)
      (fun A R s => s.heap.get? l = some { cls := .type "tuple", dict := dd, data := .seq items n, slots := sl } ∧ s.heap.get? b = some { cls := .type "tuple", dict := dd2, data := .seq items2 n2, slots := sl2 } ∧
        LexAt A.in1 s items.toList items2.toList r ∧ R (.ok (.ret (.bool r))) s) :=
  .of_wp fun prog w A R s h => by
    obtain ⟨hp, g, d, tk, os⟩ := s; obtain ⟨hl, hb, hx, h⟩ := h
    have f2 := AutoSeq1.sub_tuple_tuple
    wp_walk using wpAny_loadPart' hl, wpAny_loadPart' hb, wpAny_forIn_list _ (fun rest b s' => b.1 = none ∧ s' = ⟨hp, g, d, tk, os⟩ ∧ ∃ (vs ws : List Value), rest = vs.zip ws ∧
      LexAt A.in1 ⟨hp, g, d, tk, os⟩ vs ws r ∧ vs.length + items2.size = ws.length + items.size) _
    case turn =>
      rintro ⟨y, x⟩ rest b s' ⟨hb', rfl, vs, ws, hz, hvi, hlen⟩
      cases hvi with
      | nn => rw [List.zip_nil_left] at hz; cases hz
      | nc => rw [List.zip_nil_left] at hz; cases hz
      | cn => rw [List.zip_nil_right] at hz; cases hz
      | eq he hr =>
        rw [List.zip_cons_cons] at hz
        injection hz with hyx hrest
        injection hyx with hy hx
        subst hy hx
        simp only [List.length_cons] at hlen
        refine wpAny_bind (he prog w _ _ ?_)
        wp_walk
        exact ⟨rfl, rfl, _, _, hrest, hr, by omega⟩
      | lt he hr =>
        rw [List.zip_cons_cons] at hz
        injection hz with hyx hrest
        injection hyx with hy hx
        subst hy hx
        refine wpAny_bind (he prog w _ _ ?_)
        have hri := hr prog w
        wp_walk using hri
        exact ⟨_, rfl, by simpa using h⟩
    case fin =>
      rintro ⟨b1, b2⟩ s' ⟨hb', rfl, vs, ws, hz, hvi, hlen⟩
      simp only at hb'
      subst hb'
      have hv : r = decide (items.size < items2.size) := by
        cases hvi with
        | nn =>
          simp only [List.length_nil] at hlen
          exact (decide_eq_false (by omega)).symm
        | nc =>
          simp only [List.length_nil, List.length_cons] at hlen
          exact (decide_eq_true (by omega)).symm
        | cn =>
          simp only [List.length_nil, List.length_cons] at hlen
          exact (decide_eq_false (by omega)).symm
        | eq _ _ => rw [List.zip_cons_cons] at hz; cases hz
        | lt _ _ => rw [List.zip_cons_cons] at hz; cases hz
      rw [hv] at h
      wp_walk
      exact ⟨_, rfl, by simpa [Builtin.Tuple.tupleCompareSizes] using h⟩
    case h =>
      exact ⟨rfl, rfl, items.toList, items2.toList, rfl, hx, by simp; omega⟩
end
theorem ltAt_tup {A : Around} {s : Shared} {l b : Addr} {items items2 : Array Value} {r : Bool} (hl : IsTup s.heap l items) (hb : IsTup s.heap b items2) (hx : LexAt A.in1 s items.toList items2.toList r) (hu : A.units < cLine) : LtAt A s (.ref l) (.ref b) r := by
  intro prog w E Q h
  obtain ⟨⟨cls, dd, data, sl⟩, ho, hc, n, hd⟩ := id hl
  obtain ⟨⟨cls2, dd2, data2, sl2⟩, ho2, hc2, n2, hd2⟩ := id hb
  simp only at hc hd hc2 hd2
  subst hc hd hc2 hd2
  exact richCompare_meets_room (op := .Lt) ⟨_, ho, rfl⟩ ⟨_, ho2, rfl⟩ PySem.F.slot_tuple_lt PySem.F.entry_tuple_lt (PySem.F.args_tuple_lt_2 _ _) (tuple_lt_any l b items items2 n n2 dd dd2 sl sl2 r)
    ⟨ho, ho2, hx, show Value.bool r ≠ Value.notImplemented ∧ Q (.bool r) s from ⟨(fun x => nomatch x), h⟩⟩ hu
mutual
def ltD? : PyData → PyData → Option Bool
  | .int a, .int b => some (decide (a < b))
  | .str a, .str b => some (decide (a.cps.toList < b.cps.toList))
  | .tuple as, .tuple bs => lexD? as bs
  | _, _ => none
def lexD? : List PyData → List PyData → Option Bool
  | [], [] => some false
  | [], _ :: _ => some true
  | _ :: _, [] => some false
  | a :: as, b :: bs => if PyData.eqv a b = true then lexD? as bs else ltD? a b
end
mutual
theorem ltAt_reads : ∀ (da db : PyData) (A : Around) (s : Shared) (a b : Value) (as bs : List Addr) (r : Bool), Reads s.heap a da as → Reads s.heap b db bs → da.canLay0 = true → db.canLay0 = true →
    A.units + min da.depth db.depth < cLine → ltD? da db = some r → LtAt A s a b r
  | .int x, db, A, s, _, _, _, _, r, ra, rb, ha, hb, hu, e => by
    cases ra
    cases rb <;> first
      | (cases e; intro prog w E Q h; exact (lt_int h : wpAny (model prog w) A (compareOp .Lt _ _) Q E s))
      | (exact nomatch e)
  | .str x, db, A, s, _, _, _, _, r, ra, rb, ha, hb, hu, e => by
    cases ra
    cases rb <;> first
      | (cases e; intro prog w E Q h; exact (lt_str h : wpAny (model prog w) A (compareOp .Lt _ _) Q E s))
      | (exact nomatch e)
  | .tuple xs, db, A, s, _, _, _, _, r, ra, rb, ha, hb, hu, e => by
    cases ra with
    | tuple h1 h2 h3 h4 =>
      cases rb with
      | tuple k1 k2 k3 k4 =>
        exact ltAt_tup ⟨_, h1, h2, _, h3⟩ ⟨_, k1, k2, _, k3⟩ (lexAt_reads xs _ A.in1 s _ _ _ _ r h4 k4 ha hb (SeqAt.room_in hu) e) (SeqAt.room_here hu)
      | none => exact nomatch e
      | bool => exact nomatch e
      | int => exact nomatch e
      | str => exact nomatch e
      | list => exact nomatch e
      | dict => exact nomatch hb
  | .none, _, _, _, _, _, _, _, _, _, _, _, _, _, e => by simp [ltD?] at e
  | .bool _, _, _, _, _, _, _, _, _, _, _, _, _, _, e => by simp [ltD?] at e
  | .list _, _, _, _, _, _, _, _, _, _, _, _, _, _, e => by simp [ltD?] at e
  | .dict _, _, _, _, _, _, _, _, _, _, _, ha, _, _, _ => nomatch ha
theorem lexAt_reads : ∀ (xs ys : List PyData) (A : Around) (s : Shared) (vs ws : List Value) (as bs : List Addr) (r : Bool), ReadsAll s.heap vs xs as → ReadsAll s.heap ws ys bs → PyData.canLayAll0 xs = true → PyData.canLayAll0 ys = true →
    A.units + min (PyData.depthAll xs) (PyData.depthAll ys) < cLine → lexD? xs ys = some r → LexAt A s vs ws r
  | [], [], _, _, _, _, _, _, r, ra, rb, _, _, _, e => by cases ra; cases rb; cases e; exact .nn
  | [], _ :: _, _, _, _, _, _, _, r, ra, rb, _, _, _, e => by cases ra; cases rb; cases e; exact .nc
  | _ :: _, [], _, _, _, _, _, _, r, ra, rb, _, _, _, e => by cases ra; cases rb; cases e; exact .cn
  | x :: xs, y :: ys, A, s, _, _, _, _, r, ra, rb, ha, hb, hu, e => by
    have ha' : x.canLay0 = true ∧ PyData.canLayAll0 xs = true := by simpa [PyData.canLayAll0] using ha
    have hb' : y.canLay0 = true ∧ PyData.canLayAll0 ys = true := by simpa [PyData.canLayAll0] using hb
    cases ra with
    | cons r1 rs =>
      cases rb with
      | cons r1' rs' =>
        have eq := SeqAt.eqAt_reads x y A s _ _ _ _ r1 r1' ha'.1 hb'.1 (SeqAt.room_head hu)
        rw [lexD?] at e
        cases q : PyData.eqv x y with
        | true =>
          rw [q] at eq
          rw [if_pos q] at e
          exact .eq eq (lexAt_reads xs ys A s _ _ _ _ r rs rs' ha'.2 hb'.2 (SeqAt.room_tail hu) e)
        | false =>
          rw [q] at eq
          rw [if_neg (by rw [q]; exact Bool.false_ne_true)] at e
          exact .lt eq (ltAt_reads x y A s _ _ _ _ r r1 r1' ha'.1 hb'.1 (SeqAt.room_head hu) e)
end
section
variable {X : Cx}
end
end L2
namespace L2
open PySem PySem.Spec PyProof.Rows
def tyD : PyData → String
  | .none => "NoneType"
  | .bool _ => "bool"
  | .int _ => "int"
  | .str _ => "str"
  | .list _ => "list"
  | .tuple _ => "tuple"
  | .dict _ => "dict"
theorem tyD_in (d : PyData) : tyD d ∈ tyTs := by
  cases d <;> simp [tyD, tyTs]
section
variable {X : Cx}
theorem call_isiD (K : PySem.W.Frag) (hK : X.K = K := by rfl) : CallR X (.builtin "isinstance") (fun xs H Q => ∃ x n d, xs = [x, .ty n] ∧ Dat K H d x ∧ n ∈ tyNs ∧ Q (.bl (tyIs (tyD d) n)) H) := by
  subst hK
  intro pins s σ H xs us Q I r h
  obtain ⟨x, n, d, rfl, hd, hn, q⟩ := h
  obtain ⟨u, c, rfl, ru, rc⟩ := vals2 r
  cases rc
  have e := kit_one (K := X.K) (tyD_in d) hn
  have fin : ∀ tk, EP X pins σ Q (.bool (tyIs (tyD d) n)) { s with toks := tk } := fun tk => ⟨.bl _, H, I.tok tk, rfl, q⟩
  cases hd with
  | non => cases ru; exact PySem.W.kia_one PySem.W.kitx_none I.kIn True.intro e (fun z => nomatch z) fin
  | bl b => cases ru; exact PySem.W.kia_one PySem.W.kitx_bool I.kIn True.intro e (fun z => nomatch z) fin
  | int i => obtain ⟨t, rfl⟩ := ru; exact PySem.W.kia_one PySem.W.kitx_int I.kIn True.intro e (fun z => nomatch z) fin
  | str z h => obtain ⟨t, rfl⟩ := ru; exact PySem.W.kia_one PySem.W.kitx_str I.kIn True.intro e (fun z => nomatch z) fin
  | lst hq _ =>
    cases ru
    obtain ⟨its, _, ⟨o, m, e1, c, _, _⟩, _⟩ := I.list hq
    exact PySem.W.kia_one PySem.W.kitx_list I.kIn ⟨o, e1, c⟩ e (fun z => nomatch z) fin
  | tup hq _ =>
    cases ru
    obtain ⟨its, _, ⟨o, e1, c, _⟩, _⟩ := I.tuple hq
    exact PySem.W.kia_one PySem.W.kitx_tuple I.kIn ⟨o, e1, c⟩ e (fun z => nomatch z) fin
theorem len_upper (z : Str) : (Txt.upper z).length ≤ 3 * z.length := by
  show (placed z fun _ c => Unicode.upperOf c).size ≤ 3 * z.cps.size
  exact StrLaws.placedRaw_le3 z.cps _ fun _ c => StrLaws.upperOf_le3 c
def rUpper : V → List V → Hp → VK → Prop := fun x xs H Q => ∃ z, x = .str z ∧ xs = [] ∧ z.length ≤ 100 ∧ Q (.str (Txt.upper z)) H
theorem mt_upper : MtR X "str.upper" rUpper := by
  intro pins s σ H x xs v us Q I rx rv h
  obtain ⟨z, rfl, rfl, hz, q⟩ := h
  obtain ⟨t, rfl⟩ := rx
  cases rv.zero
  have hl : (Txt.upper z).length ≤ 300 := Nat.le_trans (len_upper z) (by omega)
  have hfit : Builtin.Str.tooLong (Txt.upper z).length = false := by
    unfold Builtin.Str.tooLong
    simp
    exact Nat.le_trans hl (by decide)
  exact call_gives F.slot_str_upper (typeIs_str _ _ _) F.entry_str_upper (F.args_str_upper_1 _) (gives_str_upper z t hfit) ⟨Nat.le_trans hl (by decide), .str (Txt.upper z), H, I.tok _, ⟨_, rfl⟩, q⟩
end
end L2
namespace L2
open PySem PySem.Spec PyProof.Rows PySem.W
def RawD (h : Heap) (d : Addr) (es : Array DictEntry) (ep : Nat) : Prop := ∃ o, h.get? d = some o ∧ o.ExactDict ∧ o.data = .dict es ep
theorem RawD.lt {h : Heap} {d : Addr} {es : Array DictEntry} {ep : Nat} (x : RawD h d es ep) : d < h.objs.size := let ⟨_, e, _⟩ := x; Heap.lt_size e
theorem RawD.ty {s : Shared} {d : Addr} {es : Array DictEntry} {ep : Nat} (x : RawD s.heap d es ep) : s.TypeIs (.ref d) "dict" := let ⟨o, e, c, _⟩ := x; ⟨o, e, c.1⟩
theorem RawD.at {h h' : Heap} {d : Addr} {es : Array DictEntry} {ep : Nat} (x : RawD h d es ep) (k : ∀ o, h.get? d = some o → h'.get? d = some o) : RawD h' d es ep := let ⟨o, e, r⟩ := x; ⟨o, k o e, r⟩
section
variable {prog : Program} {w : World} {A : Around} {E : Value → Shared → Prop} {s : Shared} {d it : Addr} {es : Array DictEntry} {ep i : Nat}
end
end L2
namespace Tim
section
variable {α : Type}
end
section
open PySem
end
end Tim
namespace L2
open PySem PySem.Spec PyProof.Rows PySem.W
def sOf : Value → Str
  | .str x _ => x
  | _ => ""
theorem vals_str {ws : List Str} : ∀ {us : List Value}, Vals (ws.map V.str) us → us.map sOf = ws ∧ (∀ u ∈ us, ∃ x t, u = .str x t) ∧ StrsAre us ws := by
  induction ws with
  | nil =>
    intro us r
    cases r
    exact ⟨rfl, (fun _ z => nomatch z), .nil⟩
  | cons x ws ih =>
    intro us r
    cases r with
    | cons r1 rr =>
      obtain ⟨t, rfl⟩ := r1
      obtain ⟨a, b, c⟩ := ih rr
      refine ⟨by rw [List.map_cons, a]; rfl, fun u hu => ?_, .cons x t c⟩
      rcases List.mem_cons.mp hu with rfl | hu
      · exact ⟨x, t, rfl⟩
      · exact b u hu
section
variable {prog : Program} {w : World} {A : Around} {s : Shared} {a : Addr}
end
section
variable {X : Cx}
end
def TupAt (h : Heap) (v : Value) (p : List Str) : Prop := ∃ (b : Addr) (o : Obj) (its : Array Value) (n : Nat), v = .ref b ∧ h.get? b = some o ∧ o.cls = .type "tuple" ∧ o.data = .seq its n ∧ Vals (p.map V.str) its.toList
section
variable {prog : Program} {w : World} {A : Around} {E : Value → Shared → Prop} {s : Shared} {a : Addr}
theorem TupAt.keep {h h' : Heap} {v : Value} {p : List Str} (x : TupAt h v p) (k : ∀ b o, v = .ref b → h.get? b = some o → h'.get? b = some o) : TupAt h' v p :=
  let ⟨b, o, its, n, e, g, r⟩ := x
  ⟨b, o, its, n, e, k b o e g, r⟩
end
section
variable {X : Cx}
end
end L2
namespace L2
open PySem PySem.Spec PyProof.Rows
section
variable {X : Cx}
def rNotInD (K : PySem.W.Frag) : R2 := fun x y H Q => ∃ d ds, Dat K H d x ∧ Dat K H (.list ds) y ∧ PyData.depthAll ds ≤ 60 ∧ Q (.bl (!ds.any fun y => PyData.eqv y d)) H
theorem op_notInD (hu : X.A.units + 64 < cLine) (K : PySem.W.Frag) (hK : X.K = K := by rfl) : OpR X (compareOp .NotIn) (rNotInD K) := by
  subst hK
  intro pins s σ H x y v u Q I rx ry h
  obtain ⟨d, ds, hd, he, hz, q⟩ := h
  obtain ⟨as, ra⟩ := Dat.reads I _ _ _ hd rx
  obtain ⟨bs, rb⟩ := Dat.reads I _ _ _ he ry
  exact SeqAt.notIn_list_reads rb ra (Dat.lay _ _ he) (Dat.lay _ _ hd) (by have : min (PyData.depthAll ds) d.depth ≤ PyData.depthAll ds := Nat.min_le_left _ _; omega) (fin_bl I q rfl)
end
end L2
namespace L2
open PySem PySem.Spec PyProof.Rows
section
variable {X : Cx} {e : Expr} {lo hi : Option Expr} {se : Expr} {te : TE} {tl th ts : TO} {p2 pos : Pos}
end
end L2
namespace L2
open PySem PySem.Spec PyProof.Rows
section
variable {X : Cx}
def rCatA (K : PySem.W.Frag) : R2 := fun x y H Q => ∃ a b xs ys, x = .ref a ∧ y = .ref b ∧ SqT K H a xs ∧ SqT K H b ys ∧ xs.length + ys.length ≤ sizeLine ∧ ∀ p H', Same H H' → SqT K H' p (xs ++ ys) → Q (.ref p) H'
theorem op_catA (K : PySem.W.Frag) (hK : X.K = K := by rfl) : OpR X (binaryOp .Add) (rCatA K) := by
  subst hK
  intro pins s σ H x y v u Q I rx ry h
  obtain ⟨a, b, xs, ys, rfl, rfl, ha, hb, hz, q⟩ := h
  by_cases hx : xs = []
  · subst hx
    cases rx
    cases ry
    obtain ⟨its, r1, p1, _⟩ := I.tuple ha
    obtain ⟨its2, r2, p2, _⟩ := I.tuple hb
    have e0 : its = [] := r1.nil_iff.mpr rfl
    subst e0
    obtain ⟨⟨cls, dd, data, sl⟩, ho, hc, n, hd⟩ := id p1
    obtain ⟨⟨cls2, dd2, data2, sl2⟩, ho2, hc2, n2, hd2⟩ := id p2
    simp only at hc hd hc2 hd2
    subst hc hd hc2 hd2
    exact concat_meets ⟨_, ho, rfl⟩ ⟨_, ho2, rfl⟩ noFill_tuple_add seq_tuple_add PySem.F.slot_tuple_add PySem.F.entry_tuple_add (PySem.F.args_tuple_add_2 _ _)
      (tuple_addW0 a b #[] its2.toArray n n2 dd dd2 sl sl2 rfl) ⟨ho, ho2, ⟨.ref b, H, I, rfl, q b H (Same.refl _) hb⟩⟩
  · refine op_catT pins s σ H _ _ v u Q I rx ry ⟨a, b, xs, ys, rfl, rfl, ha, hb, hx, hz, fun e => ?_, fun _ p hp => q p _ (same_upd hp) (SqT.of upd_same)⟩
    subst e
    exact q a H (Same.refl _) (by rw [List.append_nil]; exact ha)
end
end L2
namespace L2
open PySem PySem.Spec PyProof.Rows
section
variable {X : Cx}
end
section
variable {prog : Program} {w : World} {A : Around} {R : Result → Shared → Prop} {I : Addr} {fp wr : List Addr} {n : Nat} {P : Nat → Value → Prop} {St : Nat → Heap → Prop}
end
section
variable {X : Cx} {e d : Expr} {t tk : TA} {p pos kpos : Pos}
end
end L2
namespace L2
open PySem PySem.Spec PyProof.Rows
section
variable {prog : Program} {w : World} {A : Around} {E : Value → Shared → Prop} {s : Shared}
end
section
variable {prog : Program} {w : World} {A : Around} {R : Result → Shared → Prop} {I : Addr} {fp wr : List Addr} {n : Nat} {P : Nat → Value → Prop} {St : Nat → Heap → Prop}
end
section
variable {X : Cx}
end
end L2
namespace L2
open PySem PySem.Spec PyProof.Rows
section
variable {X : Cx} {tg : Expr}
end
section
variable {X : Cx} {e : Expr} {lo hi : Option Expr} {se : Expr} {te : TE} {tl th ts : TO} {p2 pos : Pos}
end
end L2
namespace L2
open PySem PySem.Spec PyProof.Rows
section
variable {prog : Program} {w : World} {A : Around} {E : Value → Shared → Prop} {s : Shared}
end
section
variable {X : Cx}
end
end L2
namespace L2
open PySem PySem.Spec PyProof.Rows
def cA (mg : Str → Option Value) (x : Str) : Addr := match mg x with
  | some (.ref a) => a
  | _ => 0
theorem cA_of {mg : Str → Option Value} {x : Str} {C : Addr} (h : mg x = some (.ref C)) : cA mg x = C := by
  unfold cA
  rw [h]
structure MTop (K : PySem.W.Frag) (C : Addr) (m qual : Str) (st : Stmt) (ps : List Str) : Prop where
  ex : ∃ f fd, Fun K m qual st f fd ∧ Meth K C m f ∧ ∀ us : List Value, us.length = ps.length → bindArgs fd ⟨us, []⟩ = pure (ps.zip us)
structure MDef (P : Program) (w : World) (K : PySem.W.Frag) (mg : Str → Option Value) (base : Heap) (k : Nat) (C : Addr) (m : Str) (ps : List Str) (sp : Sp) : Prop where
  ex : ∃ f fd, FnOk P w K mg base CX0 k f fd ps sp ∧ Meth K C m f ∧ Binds K fd ps []
theorem MTop.ok {P : Program} {w : World} {K : PySem.W.Frag} {mg : Str → Option Value} {base : Heap} {C : Addr} {m qual : Str} {st : Stmt} {N ps : List Str} {k : Nat} {sp : Sp} (T : MTop K C m qual st ps) (S : FnScope N ps (defScope st)) (len : ∀ vs H Q E, sp vs H Q E → vs.length = ps.length)
    (hbody : ∀ (f : Addr) (cdv : Value) (A : Around) (outer : List Env) (s : Shared) (H : Hp) (vs : List V) (Q : VK) (E : XK), Room k (A.deeper (envOfC qual (defScope st) s.heap.objs.size f cdv)) → sp vs H Q E →
      ∃ t, PSs (cxOf CX0 P w K mg base N qual (defScope st) f cdv A outer s H E).nox (defBody st) t ∧ t { nx := fun _ H' => Q .non H', rt := Q } (start N vs) H) : MDef P w K mg base (k + 1) C m ps sp := by
  obtain ⟨f, fd, F, hm, hb⟩ := T.ex
  exact ⟨f, fd, F.ok S len (hbody f), hm, Binds.all hb⟩
section
variable {X : Cx} {k k' : Nat} {C : Addr} {ps ks : List Str} {sp : Sp} {x m : Str} {p pos apos : Pos} {e o : Expr} {es : List Expr} {ta : TE} {t tk : TA} {kws : List Keyword}
structure FunD (K : PySem.W.Frag) (x qual : Str) (st : Stmt) (f : Addr) (fd : FuncData) : Prop where
  ex : ∃ (oc : Value) (od : Option Addr) (dV kV doc pm : Value) (an : Option Addr) (cdv ct : Value) (osl : Array (Option Value)),
    fd = PySem.W.fnOf x qual (defArgs st) (defBody st) (defScope st) dV kV doc pm an cdv ct ∧ K.lookup f = some ⟨oc, od, .func fd, osl⟩ ∧ PySem.W.codeIn K cdv qual = true
theorem FunD.ok {P : Program} {w : World} {K : PySem.W.Frag} {mg : Str → Option Value} {base : Heap} {x qual : Str} {st : Stmt} {f : Addr} {fd : FuncData} {N ps : List Str} {k : Nat} {sp : Sp} (F : FunD K x qual st f fd) (S : FnScope N ps (defScope st)) (len : ∀ vs H Q E, sp vs H Q E → vs.length = ps.length)
    (hbody : ∀ (cdv : Value) (A : Around) (outer : List Env) (s : Shared) (H : Hp) (vs : List V) (Q : VK) (E : XK), Room k (A.deeper (envOfC qual (defScope st) s.heap.objs.size f cdv)) → sp vs H Q E →
      ∃ t, PSs (cxOf CX0 P w K mg base N qual (defScope st) f cdv A outer s H E).nox (defBody st) t ∧ t { nx := fun _ H' => Q .non H', rt := Q } (start N vs) H) : FnOk P w K mg base CX0 (k + 1) f fd ps sp := by
  obtain ⟨oc, od, dV, kV, doc, pm, an, cdv, ct, osl, rfl, lk, hcd⟩ := F.ex
  refine fn_of lk hcd S len fun A outer s H vs Q E hr hsp => ?_
  obtain ⟨t, h, q⟩ := hbody cdv A outer s H vs Q E hr hsp
  exact ⟨t, h.nox, q⟩
structure InitB (K : PySem.W.Frag) (fd : FuncData) (y : Str) (dv : V) : Prop where
  b0 : ∃ u, RelV dv u ∧ Binds K fd ["self", y] [u]
  b1 : Binds K fd ["self", y] []
  bk : ∀ (s : Shared) (v z : Value), K.In s.heap → BindsTo s fd ⟨[v], [(y, z)]⟩ [("self", v), (y, z)]
structure ITop (K : PySem.W.Frag) (C : Addr) (qual y : Str) (st : Stmt) (dv : V) : Prop where
  ex : ∃ f fd, FunD K "__init__" qual st f fd ∧ PySem.W.findIn K (.ref C) "__init__" = some (some (.ref f)) ∧ PySem.W.isFn K (.ref f) = true ∧ InitB K fd y dv
structure IDef (P : Program) (w : World) (K : PySem.W.Frag) (mg : Str → Option Value) (base : Heap) (k : Nat) (C : Addr) (y : Str) (dv : V) (sp : Sp) : Prop where
  ex : ∃ f fd, FnOk P w K mg base CX0 k f fd ["self", y] sp ∧ PySem.W.findIn K (.ref C) "__init__" = some (some (.ref f)) ∧ PySem.W.isFn K (.ref f) = true ∧ InitB K fd y dv
theorem ITop.ok {P : Program} {w : World} {K : PySem.W.Frag} {mg : Str → Option Value} {base : Heap} {C : Addr} {qual y : Str} {st : Stmt} {dv : V} {N : List Str} {k : Nat} {sp : Sp} (T : ITop K C qual y st dv) (S : FnScope N ["self", y] (defScope st)) (len : ∀ vs H Q E, sp vs H Q E → vs.length = (["self", y] : List Str).length)
    (hbody : ∀ (f : Addr) (cdv : Value) (A : Around) (outer : List Env) (s : Shared) (H : Hp) (vs : List V) (Q : VK) (E : XK), Room k (A.deeper (envOfC qual (defScope st) s.heap.objs.size f cdv)) → sp vs H Q E →
      ∃ t, PSs (cxOf CX0 P w K mg base N qual (defScope st) f cdv A outer s H E).nox (defBody st) t ∧ t { nx := fun _ H' => Q .non H', rt := Q } (start N vs) H) : IDef P w K mg base (k + 1) C y dv sp := by
  obtain ⟨f, fd, F, h1, h2, h3⟩ := T.ex
  exact ⟨f, fd, F.ok S len (hbody f), h1, h2, h3⟩
variable {y : Str} {dv : V}
end
end L2
namespace L2
open PySem PySem.Spec PyProof.Rows PySem.W
section
variable {prog : Program} {w : World} {A : Around} {s : Shared} {a : Addr}
end
section
variable {X : Cx}
end
end L2
namespace L2
open PySem PySem.Spec PyProof.Rows
section
variable {X : Cx} {pins : List (Addr × Obj)} {σ : St} {H : Hp} {s : Shared} {a : Addr} {kvs : List (Key × V)} {k : Key} {z : V} {u r : Value} {A : Around} {E : Value → Shared → Prop}
end
section
variable {X : Cx} {o e f : Expr} {apos cpos : Pos} {td ty tx : TE}
end
end L2
namespace L2
open PySem PySem.Spec PyProof.Rows PySem.W
def byTxt (w : World) : Bool := w.params.followText "set-order"
def TxS (P : Program) (w : World) (h : Heap) (a : Addr) (xs : List Str) : Prop :=
  ∃ o es ep t, h.get? a = some o ∧ o.ExactSet ∧ o.data = .set es ep t ∧ ElemsOf (strKind P w) es.toList ∧ es.toList.map (fun e => sOf e.2) = xs ∧ xs.Nodup ∧ es.size < scanBound ∧ t.fits es.size = true ∧ t.led = !byTxt w ∧ (0 < es.size → t.plain = false)
section
variable {P : Program} {w : World} {A : Around} {E : Value → Shared → Prop} {s : Shared} {a : Addr} {xs : List Str}
end
theorem TxS.keep {P : Program} {w : World} {h h' : Heap} {a : Addr} {xs : List Str} (x : TxS P w h a xs) (k : ∀ o, h.get? a = some o → h'.get? a = some o) : TxS P w h' a xs := by
  obtain ⟨o, es, ep, t, ho, r⟩ := x
  exact ⟨o, es, ep, t, k o ho, r⟩
section
variable {prog : Program} {w : World} {A : Around} {R : Result → Shared → Prop} {I : Addr} {fp wr : List Addr} {G : Array GenState → Array GenState → Prop} {n : Nat} {P : Nat → Value → Prop} {St : Nat → Shared → Prop}
def InS (val : Nat → Str) (i : Nat) (ys : List Str) : Prop := (∀ x, x ∈ ys ↔ ∃ j, j < i ∧ val j = x) ∧ ys.length ≤ i
theorem InS.next {val : Nat → Str} {i : Nat} {ys zs : List Str} (h : InS val i ys) (e : if val i ∈ ys then zs = ys else zs.Perm (ys ++ [val i])) : InS val (i + 1) zs := by
  have step : ∀ x, (∃ j, j < i + 1 ∧ val j = x) ↔ (∃ j, j < i ∧ val j = x) ∨ x = val i := fun x => by
    constructor
    · rintro ⟨j, hj, rfl⟩
      rcases Nat.lt_or_ge j i with h1 | h1
      · exact .inl ⟨j, h1, rfl⟩
      · exact .inr (by rw [show j = i by omega])
    · rintro (⟨j, hj, rfl⟩ | rfl)
      · exact ⟨j, by omega, rfl⟩
      · exact ⟨i, Nat.lt_succ_self _, rfl⟩
  by_cases c : val i ∈ ys
  · rw [if_pos c] at e
    subst e
    refine ⟨fun x => ?_, Nat.le_succ_of_le h.2⟩
    rw [step, ← h.1 x]
    exact ⟨.inl, fun z => z.elim id fun q => q ▸ c⟩
  · rw [if_neg c] at e
    refine ⟨fun x => ?_, ?_⟩
    · rw [step, e.mem_iff, List.mem_append, List.mem_singleton, h.1 x]
    · rw [e.length_eq, List.length_append]
      exact Nat.succ_le_succ h.2
end
section
variable {prog : Program} {w : World} {A : Around} {E : Value → Shared → Prop} {s : Shared}
end
section
variable {prog : Program} {w : World} {A : Around} {E : Value → Shared → Prop} {s : Shared}
end
end L2
namespace L2
open PySem PySem.Spec PyProof.Rows PySem.W
section
variable {M : Model} {A : Around} {E : Value → Shared → Prop}
end
section
variable {prog : Program} {w : World} {A : Around} {E : Value → Shared → Prop} {s : Shared} {a : Addr}
end
end L2
namespace L2
open PySem PySem.Spec PyProof.Rows PySem.W
section
variable {prog : Program} {w : World} {A : Around} {E : Value → Shared → Prop} {s : Shared} {a I : Addr} {es : Array (Int × Value)} {ep : Nat} {t : SetTable}
end
end L2
namespace L2
open PySem PySem.Spec PyProof.Rows PySem.W
section
variable {prog : Program} {w : World} {A : Around} {E : Value → Shared → Prop} {s : Shared} {a I T : Addr} {es : Array (Int × Value)} {ep i : Nat} {t : SetTable} {o : Obj}
end
end L2
namespace L2
open PySem PySem.Spec PyProof.Rows PySem.W
section
variable {prog : Program} {w : World} {A : Around} {E : Value → Shared → Prop} {s : Shared} {a I T : Addr} {es : Array (Int × Value)} {ep : Nat} {t : SetTable} {o : Obj}
end
end L2
namespace L2
open PySem PySem.Spec PyProof.Rows PySem.W
section
variable {prog : Program} {w : World} {A : Around} {E : Value → Shared → Prop} {s : Shared} {a : Addr} {xs : List Str}
end
end L2
namespace L2
open PySem PySem.Spec PyProof.Rows PySem.W
section
variable {prog : Program} {w : World} {A : Around} {E : Value → Shared → Prop} {s : Shared} {a : Addr} {xs : List Str}
end
end L2
namespace L2
open PySem PySem.Spec PyProof.Rows PySem.W
section
variable {X : Cx} {pins : List (Addr × Obj)} {σ : St} {H : Hp} {s : Shared}
end
end L2
namespace L2
open PySem PySem.Spec PyProof.Rows PySem.W
section
variable {X : Cx}
end
end L2
namespace L2
open PySem PySem.Spec PyProof.Rows PySem.W
section
variable {X : Cx}
end
end L2
namespace L2
open PySem PySem.Spec PyProof.Rows PySem.W
section
variable {X : Cx}
end
end L2
namespace L2
open PySem PySem.Spec PyProof.Rows PySem.W
section
variable {X : Cx} {tg : Expr}
end
end L2
namespace L2
open PySem PySem.Spec PyProof.Rows
section
variable {X : Cx}
def catS (ws : List Str) : Str := ⟨(ws.flatMap (·.cps.toList)).toArray⟩
theorem app_cps (a b : Str) : (a ++ b).cps = a.cps ++ b.cps := rfl
theorem join_cat : ∀ ws : List Str, Str.join "" ws = catS ws
  | [] => rfl
  | [x] => by
    show x = ⟨_⟩
    cases x
    simp [catS]
  | x :: y :: r => by
    show x ++ "" ++ Str.join "" (y :: r) = _
    rw [join_cat (y :: r)]
    have h : ∀ a b : Str, a.cps.toList = b.cps.toList → a = b := fun a b h => by
      cases a
      cases b
      congr
      exact Array.toList_inj.mp h
    apply h
    rw [app_cps, app_cps, Array.toList_append, Array.toList_append]
    show x.cps.toList ++ ([] : List Nat) ++ _ = _
    simp [catS]
def rJoin (K : PySem.W.Frag) : V → List V → Hp → VK → Prop := fun x xs H Q => ∃ a ws, x = .str "" ∧ xs = [.ref a] ∧ SqL K H a (ws.map V.str) ∧ (ws.map (·.length)).sum ≤ 16777216 ∧ Q (.str (catS ws)) H
theorem mt_joinK (K : PySem.W.Frag) (hK : X.K = K := by rfl) : MtR X "str.join" (rJoin K) := by
  subst hK
  intro pins s σ H x xs v us Q I rx rv h
  obtain ⟨a, ws, rfl, rfl, hs, hl, q⟩ := h
  obtain ⟨t, rfl⟩ := rx
  obtain ⟨u, rfl, ru⟩ := rv.one
  cases ru
  obtain ⟨its, r, pl, _⟩ := I.list hs
  obtain ⟨_, _, e3⟩ := vals_str r
  have e : Txt.join "" ws = catS ws := by
    show Builtin.Str.glued "" ws = _
    rw [StrLaws.glued_eq_join, join_cat]
  have l0 : (Str.ofString "").length = 0 := by decide
  refine join_list (ys := ws) pl.isList (by rw [List.toList_toArray]; exact e3) (by rw [l0, Nat.mul_zero]; exact hl) fun t' k => ?_
  exact ⟨.str (catS ws), H, I.tok _, ⟨t', by rw [← e]⟩, q⟩
end
end L2
namespace L2
open PySem PySem.Spec PyProof.Rows
section
variable {prog : Program} {w : World} {A : Around} {E : Value → Shared → Prop} {s : Shared}
theorem getItem_tuple_whole {t sl : Addr} {items : Array Value} {vl vu : Value} {lo hi : Option Int} {Q : Value → Shared → Prop} (ht : IsTup s.heap t items) (hs : s.heap.IsSliceOf sl vl vu .none) (pl : IsPart vl lo) (pu : IsPart vu hi)
    (hw : HT.sIx items.size 0 lo = 0 ∧ HT.sIx items.size items.size hi = items.size) (h : Q (.ref t) s) : wpAny (model prog w) A (getItem (.ref t) (.ref sl)) Q E s := by
  obtain ⟨os, hos, hcs, hds⟩ := id hs
  have hTs : s.TypeIs (.ref sl) "slice" := ⟨os, hos, hcs⟩
  unfold getItem
  try with_reducible refine wpAny_holding ?_
  first | refine wpAny_bind (wpAny_pure ?_) | skip
  refine wpAny_bind (wpAny_sequenceKey ht.typeIs (by decide) ?_)
  refine wpAny_bind (wpAny_callSpecial?_slot (name := Str.ofString "__getitem__") ht.typeIs PyProof.Rows.slot_tuple_getitem
    (wpAny_call_entry PyProof.Rows.slot_tuple_getitem ht.typeIs entry_tuple_getitem ?_ (args_tuple_getitem _ _)))
  show wpAny _ _ (Builtin.Tuple.tupleItemsOf (.ref t) >>= _) _ _ s
  refine wpAny_bind (tupleItemsOf_ ht ?_)
  refine wpAny_bind (wpAny_typeOf hTs ?_)
  rw [if_pos (by decide)]
  refine wpAny_bind (HT.sliceApplied_gen hs pl pu ?_)
  have hyes : (((HT.sIx items.size 0 lo : Nat) : Int) == 0 && (1 : Int) == 1 && (HT.sIx items.size items.size hi - HT.sIx items.size 0 lo) == items.size) = true := by
    rw [hw.1, hw.2]
    simp
  show wpAny _ _ (if (((HT.sIx items.size 0 lo : Nat) : Int) == 0 && (1 : Int) == 1 && (HT.sIx items.size items.size hi - HT.sIx items.size 0 lo) == items.size) = true then _ else _) _ _ s
  rw [if_pos hyes]
  refine wpAny_bind (m := Builtin.Tuple.tupleIsExact (.ref t)) (wpAny_bind (m := typeOf (.ref t)) (wpAny_typeOf ht.typeIs (wpAny_pure ?_)))
  rw [if_pos (by decide)]
  first
    | exact wpAny_bind (wpAny_rule (wpAny_pure ⟨_, rfl, wpAny_pure h⟩))
    | exact wpAny_rule (wpAny_pure ⟨_, rfl, wpAny_pure h⟩)
    | exact wpAny_rule (wpAny_bind (wpAny_pure (wpAny_pure ⟨_, rfl, wpAny_pure h⟩)))
    | exact wpAny_bind (wpAny_rule (wpAny_bind (wpAny_pure (wpAny_pure ⟨_, rfl, wpAny_pure h⟩))))
    | skip
end
section
variable {X : Cx}
def rSlA (K : PySem.W.Frag) : V → Option Int → Option Int → Hp → VK → Prop := fun x lo hi H Q => ∃ a xs, x = .ref a ∧ SqT K H a xs ∧ ∀ p H', Same H H' → SqT K H' p (cutV xs lo hi) → Q (.ref p) H'
theorem sl_tupA (K : PySem.W.Frag) (hK : X.K = K := by rfl) : SlR X (rSlA K) := by
  subst hK
  intro pins s σ H x v vl vu lo hi sl Q I rx hs pl pu h
  obtain ⟨a, xs, rfl, hx, q⟩ := h
  by_cases hw : HT.sIx xs.length 0 lo = 0 ∧ HT.sIx xs.length xs.length hi = xs.length
  · cases rx
    obtain ⟨its, r, ht, hz⟩ := I.tuple hx
    have hlen : its.toArray.size = xs.length := by rw [List.size_toArray]; exact r.length.symm
    refine ⟨"tuple", _, PyProof.Rows.slot_tuple_getitem.lookup, ht.typeIs, ?_⟩
    refine getItem_tuple_whole ht hs pl pu (by rw [hlen]; exact hw) ⟨.ref a, H, I, rfl, q a H (Same.refl H) ?_⟩
    have : cutV xs lo hi = xs := by
      unfold cutV
      rw [hw.1, hw.2, List.drop_zero, Nat.sub_zero, List.take_length]
    rw [this]
    exact hx
  · exact sl_tup pins s σ H _ v vl vu lo hi sl Q I rx hs pl pu ⟨a, xs, rfl, hx, hw, fun p hp => q p _ (same_upd hp) (SqT.of upd_same)⟩
end
end L2
namespace L2
open PySem PySem.Spec PyProof.Rows
section
variable {X : Cx}
end
end L2
namespace L2
open PySem PySem.Spec PyProof.Rows
section
variable {prog : Program} {w : World} {A : Around} {E : Value → Shared → Prop} {s : Shared}
structure ZAp (z TI TO i1 i2 : Addr) (f1 f2 : List Addr) : Prop where
  TIz : TI ≠ z
  TOz : TO ≠ z
  i1z : i1 ≠ z
  i2z : i2 ≠ z
  TITO : TI ≠ TO
  TIi1 : TI ≠ i1
  TIi2 : TI ≠ i2
  TOi1 : TO ≠ i1
  TOi2 : TO ≠ i2
  i12 : i1 ≠ i2
  z1 : z ∉ f1
  TO1 : TO ∉ f1
  i21 : i2 ∉ f1
  z2 : z ∉ f2
  TO2 : TO ∉ f2
  i1f : i1 ∉ f2
end
end L2
namespace L2
open PySem PySem.Spec PyProof.Rows
section
variable {X : Cx} {pins : List (Addr × Obj)} {σ : St} {H : Hp} {s : Shared} {h' : Heap}
theorem FpOk.ch {fp : List Addr} (hf : ∀ b ∈ fp, FpOk X pins H b) : ∀ b ∈ fp, (b ∈ X.ex ∨ X.s₀.heap.objs.size ≤ b) ∧ b ≠ X.env.locals ∧ (∀ x c, X.env.cells.lookup x = some c → c ≠ b) ∧ ∀ p ∈ X.pn ++ pins, p.1 ≠ b := fun b hb =>
  let ⟨_, f1, _, f3, f4, f5⟩ := hf b hb; ⟨f3, f1, f4, f5⟩
end
theorem ZAp.ne {z TI TO i1 i2 a b : Addr} (D : ZAp z TI TO i1 i2 [i1, a] [i2, b]) : a ≠ z ∧ a ≠ TO ∧ a ≠ i2 ∧ b ≠ z ∧ b ≠ TO ∧ b ≠ i1 :=
  ⟨fun e => D.z1 (by simp [e]), fun e => D.TO1 (by simp [e]), fun e => D.i21 (by simp [e]), fun e => D.z2 (by simp [e]), fun e => D.TO2 (by simp [e]), fun e => D.i1f (by simp [e])⟩
section
variable {prog : Program} {w : World} {A : Around} {E : Value → Shared → Prop} {s : Shared}
end
section
variable {X : Cx} {elts : List Expr} {pt : Pos}
end
end L2
namespace L2
open PySem PySem.Spec PyProof.Rows
section
variable {X : Cx}
end
end L2
namespace L2
open PySem PySem.Spec PyProof.Rows
theorem MDef.imp {P : Program} {w : World} {K : PySem.W.Frag} {mg : Str → Option Value} {base : Heap} {k : Nat} {C : Addr} {m : Str} {ps : List Str} {sp sp' : Sp} (D : MDef P w K mg base k C m ps sp) (h : ∀ vs H Q E, sp' vs H Q E → sp vs H Q E) : MDef P w K mg base k C m ps sp' := by
  obtain ⟨f, fd, F, hm, hb⟩ := D.ex
  exact ⟨f, fd, F.imp h, hm, hb⟩
theorem MDef.mono {P : Program} {w : World} {K : PySem.W.Frag} {mg : Str → Option Value} {base : Heap} {j k : Nat} {C : Addr} {m : Str} {ps : List Str} {sp : Sp} (D : MDef P w K mg base j C m ps sp) (h : j ≤ k) : MDef P w K mg base k C m ps sp := by
  obtain ⟨f, fd, F, hm, hb⟩ := D.ex
  exact ⟨f, fd, F.mono h, hm, hb⟩
section
variable {X : Cx} {k k' : Nat} {ι : Type} {cls : ι → Addr} {ps : List Str} {sp : ι → Sp} {x m : Str} {p pos apos : Pos} {e o : Expr} {es : List Expr} {ta : TE} {t : TA}
theorem pe_globR {C : Addr} (hg : Gl X x) (hm : X.mg x = some (.ref C)) (hd : (x == ("__debug__" : Str)) = false := by decide) : PE X (.Name x pos) (tC (.ref C)) := pe_glob hg hm rfl hd
structure IsiC (K : PySem.W.Frag) (C R : Addr) : Prop where
  ha : PySem.W.findIn K (.ref C) "__class__" = some (some (.builtin "object.__class__"))
  hn : PySem.W.specialIn K (.builtin "object.__class__") "__get__" = some (some (.builtin "getset_descriptor.__get__"))
  htk : PySem.W.takesIn K (.builtin "object.__class__") = some true
  hm : PySem.W.mroIn K C (.type "object") = some true
  e : PySem.W.kitOne K (.ref C) (.ref R) = some true
end
end L2
namespace L2
open PySem PySem.Spec PyProof.Rows
section
open PySem.AutoSeq1
end
section
variable {X : Cx}
end
end L2
namespace L2
open PySem PySem.Spec PyProof.Rows
def Asc (z : Str) : Prop := ∀ c ∈ z.cps.toList, c < 128
section
variable {prog : Program} {w : World} {A : Around} {E : Value → Shared → Prop} {s : Shared}
end
theorem Asc.all {z : Str} (h : Asc z) : (z.cps.all fun x => decide (x < 128)) = true := by
  rw [← Array.all_toList, List.all_eq_true]
  exact fun c hc => decide_eq_true (h c hc)
section
variable {X : Cx} {elts : List Expr} {pt : Pos}
end
end L2
namespace L2
open PySem PySem.Spec PyProof.Rows
theorem Vals.split {xs : List V} {us : List Value} (h : Vals xs us) : ∀ k, Vals (xs.take k) (us.take k) ∧ Vals (xs.drop k) (us.drop k) := by
  induction h with
  | nil => intro k; rw [List.take_nil, List.drop_nil, List.take_nil, List.drop_nil]; exact ⟨.nil, .nil⟩
  | cons a b ih =>
    intro k
    cases k with
    | zero => exact ⟨.nil, .cons a b⟩
    | succ k => exact ⟨.cons a (ih k).1, (ih k).2⟩
section
variable {X : Cx}
end
end L2
namespace L2
open PySem PySem.Spec PyProof.Rows PySem.W
section
variable {prog : Program} {w : World} {A : Around} {E : Value → Shared → Prop} {s : Shared}
def TTAt (h : Heap) (v : Value) : Prop := ∃ ds as, Reads h v (.tuple ds) as ∧ ∀ e ∈ ds, ∃ es, e = PyData.tuple es
theorem TTAt.ty {v : Value} (x : TTAt s.heap v) (M : Model) : Looks M s.heap (typeOf v) (.type "tuple") := by
  obtain ⟨ds, as, hr, _⟩ := x
  cases hr with
  | tuple h1 h2 h3 h4 =>
    rw [← h2]
    exact (Looks.ld h1).andThen .now
end
section
variable {X : Cx}
section
variable {pins : List (Addr × Obj)} {σ : St} {H : Hp} {s : Shared} {a kS : Addr} {vs ks : List Value} {rk : Value → Int} {e e1 : Nat} {P : PySem.Fin → Shared → Prop} {E : Value → Shared → Prop} {A : Around}
end
end
section
variable {X : Cx} {k k' : Nat} {x p1 : Str} {sp : Sp} {e : Expr} {t : TA} {p pos kpos xp : Pos}
end
end L2
namespace L2
open PySem PySem.Spec PyProof.Rows
section
variable {X : Cx}
def rInTD (K : PySem.W.Frag) : R2 := fun x y H Q => ∃ d ds, Dat K H d x ∧ Dat K H (.tuple ds) y ∧ PyData.depthAll ds ≤ 60 ∧ Q (.bl (ds.any fun y => PyData.eqv y d)) H
theorem op_inTD (hu : X.A.units + 64 < cLine) (K : PySem.W.Frag) (hK : X.K = K := by rfl) : OpR X (compareOp .In) (rInTD K) := by
  subst hK
  intro pins s σ H x y v u Q I rx ry h
  obtain ⟨d, ds, hd, he, hz, q⟩ := h
  obtain ⟨as, ra⟩ := Dat.reads I _ _ _ hd rx
  obtain ⟨bs, rb⟩ := Dat.reads I _ _ _ he ry
  exact SeqAt.in_tuple_reads rb ra (Dat.lay _ _ he) (Dat.lay _ _ hd) (by have : min (PyData.depthAll ds) d.depth ≤ PyData.depthAll ds := Nat.min_le_left _ _; omega) (fin_bl I q rfl)
def rInLD (K : PySem.W.Frag) : R2 := fun x y H Q => ∃ d ds, Dat K H d x ∧ Dat K H (.list ds) y ∧ PyData.depthAll ds ≤ 60 ∧ Q (.bl (ds.any fun y => PyData.eqv y d)) H
theorem op_inLD (hu : X.A.units + 64 < cLine) (K : PySem.W.Frag) (hK : X.K = K := by rfl) : OpR X (compareOp .In) (rInLD K) := by
  subst hK
  intro pins s σ H x y v u Q I rx ry h
  obtain ⟨d, ds, hd, he, hz, q⟩ := h
  obtain ⟨as, ra⟩ := Dat.reads I _ _ _ hd rx
  obtain ⟨bs, rb⟩ := Dat.reads I _ _ _ he ry
  exact SeqAt.in_list_reads rb ra (Dat.lay _ _ he) (Dat.lay _ _ hd) (by have : min (PyData.depthAll ds) d.depth ≤ PyData.depthAll ds := Nat.min_le_left _ _; omega) (fin_bl I q rfl)
end
def TupC (K : PySem.W.Frag) (a : Addr) (xs : List V) : Prop := ∃ (o : Obj) (its : Array Value) (n : Nat), K.lookup a = some o ∧ o.cls = .type "tuple" ∧ o.data = .seq its n ∧ its.size ≤ sizeLine ∧ Vals xs its.toList
theorem TupC.sq {K : PySem.W.Frag} {a : Addr} {xs : List V} (h : TupC K a xs) (H : Hp) : SqT K H a xs := .inr h
theorem tupC_mk {K : PySem.W.Frag} {a : Addr} {xs : List V} {od : Option Addr} {its : Array Value} {n : Nat} {sl : Array (Option Value)} (l : K.lookup a = some ⟨.type "tuple", od, .seq its n, sl⟩) (z : its.size ≤ sizeLine) (v : Vals xs its.toList) : TupC K a xs := ⟨_, its, n, l, rfl, rfl, z, v⟩
end L2
set_option maxHeartbeats 4000000
namespace Wy
open PySem L2
def top (i : Nat) : Stmt := PySem.Challenge.pw_whyrows_k41_what_is_a_rule.main.body.getD i (.Pass ⟨0, 0, 0, 0⟩)
abbrev s_is_whole : Stmt := top 6
abbrev s_is_text_begun_by : Stmt := top 7
abbrev s_is_word : Stmt := top 8
abbrev s_is_var : Stmt := top 9
abbrev s_is_value : Stmt := top 10
abbrev s_is_tuple_of_up_to : Stmt := top 15
abbrev s_is_tuple_of_just : Stmt := top 16
abbrev s_is_term : Stmt := top 17
abbrev s_are_terms : Stmt := top 18
abbrev s_is_atom : Stmt := top 19
abbrev s_are_atoms : Stmt := top 20
abbrev s_is_choice : Stmt := top 21
abbrev s_are_choices : Stmt := top 22
abbrev s_variables_in : Stmt := top 23
abbrev s_variables_of_body : Stmt := top 24
abbrev s_are_known : Stmt := top 25
abbrev s_is_rule : Stmt := top 26
abbrev s__law_cell_at : Stmt := top 28
abbrev s__law_stream : Stmt := top 29
abbrev s__law_words : Stmt := top 30
abbrev s__law_capital : Stmt := top 31
abbrev s__law_term : Stmt := top 32
abbrev s__law_atom : Stmt := top 33
abbrev s__law_is_var : Stmt := top 34
abbrev s__law_bound : Stmt := top 35
abbrev s__law_rule : Stmt := top 36
abbrev s__law_spoiled_atom : Stmt := top 37
abbrev s__law_spoiled_choice : Stmt := top 38
abbrev s__law_spoiled : Stmt := top 39
abbrev s__law_safe : Stmt := top 40
abbrev s__law_alike : Stmt := top 41
abbrev s_law : Stmt := top 42
theorem sc_is_whole : FnScope ["thing"] ["thing"] (defScope s_is_whole) := ⟨rfl, rfl, rfl, by decide +kernel, rfl, by decide +kernel, by decide +kernel⟩
theorem sc_is_text_begun_by : FnScope ["thing", "first_signs"] ["thing", "first_signs"] (defScope s_is_text_begun_by) := ⟨rfl, rfl, rfl, by decide +kernel, rfl, by decide +kernel, by decide +kernel⟩
theorem sc_is_word : FnScope ["thing"] ["thing"] (defScope s_is_word) := ⟨rfl, rfl, rfl, by decide +kernel, rfl, by decide +kernel, by decide +kernel⟩
theorem sc_is_var : FnScope ["thing"] ["thing"] (defScope s_is_var) := ⟨rfl, rfl, rfl, by decide +kernel, rfl, by decide +kernel, by decide +kernel⟩
theorem sc_is_value : FnScope ["thing"] ["thing"] (defScope s_is_value) := ⟨rfl, rfl, rfl, by decide +kernel, rfl, by decide +kernel, by decide +kernel⟩
theorem sc_is_tuple_of_up_to : FnScope ["thing", "most"] ["thing", "most"] (defScope s_is_tuple_of_up_to) := ⟨rfl, rfl, rfl, by decide +kernel, rfl, by decide +kernel, by decide +kernel⟩
theorem sc_is_tuple_of_just : FnScope ["thing", "many"] ["thing", "many"] (defScope s_is_tuple_of_just) := ⟨rfl, rfl, rfl, by decide +kernel, rfl, by decide +kernel, by decide +kernel⟩
theorem sc_is_term : FnScope ["thing"] ["thing"] (defScope s_is_term) := ⟨rfl, rfl, rfl, by decide +kernel, rfl, by decide +kernel, by decide +kernel⟩
theorem sc_are_terms : FnScope ["thing"] ["thing"] (defScope s_are_terms) := ⟨rfl, rfl, rfl, by decide +kernel, rfl, by decide +kernel, by decide +kernel⟩
theorem sc_is_atom : FnScope ["thing"] ["thing"] (defScope s_is_atom) := ⟨rfl, rfl, rfl, by decide +kernel, rfl, by decide +kernel, by decide +kernel⟩
theorem sc_are_atoms : FnScope ["thing"] ["thing"] (defScope s_are_atoms) := ⟨rfl, rfl, rfl, by decide +kernel, rfl, by decide +kernel, by decide +kernel⟩
theorem sc_is_choice : FnScope ["thing"] ["thing"] (defScope s_is_choice) := ⟨rfl, rfl, rfl, by decide +kernel, rfl, by decide +kernel, by decide +kernel⟩
theorem sc_are_choices : FnScope ["thing"] ["thing"] (defScope s_are_choices) := ⟨rfl, rfl, rfl, by decide +kernel, rfl, by decide +kernel, by decide +kernel⟩
theorem sc_variables_in : FnScope ["terms"] ["terms"] (defScope s_variables_in) := ⟨rfl, rfl, rfl, by decide +kernel, rfl, by decide +kernel, by decide +kernel⟩
theorem sc_variables_of_body : FnScope ["body", "found", "table", "terms"] ["body"] (defScope s_variables_of_body) := ⟨rfl, rfl, rfl, by decide +kernel, rfl, by decide +kernel, by decide +kernel⟩
theorem sc_are_known : FnScope ["terms", "known"] ["terms", "known"] (defScope s_are_known) := ⟨rfl, rfl, rfl, by decide +kernel, rfl, by decide +kernel, by decide +kernel⟩
theorem sc_is_rule : FnScope ["thing", "known"] ["thing"] (defScope s_is_rule) := ⟨rfl, rfl, rfl, by decide +kernel, rfl, by decide +kernel, by decide +kernel⟩
theorem sc__law_cell_at : FnScope ["_law_script", "_law_k"] ["_law_script", "_law_k"] (defScope s__law_cell_at) := ⟨rfl, rfl, rfl, by decide +kernel, rfl, by decide +kernel, by decide +kernel⟩
theorem sc__law_stream : FnScope ["_law_cell", "_law_many", "_law_number", "_law_found", "_law_k"] ["_law_cell", "_law_many"] (defScope s__law_stream) := ⟨rfl, rfl, rfl, by decide +kernel, rfl, by decide +kernel, by decide +kernel⟩
theorem sc__law_words : FnScope ["_law_cell", "_law_place", "_law_many", "_law_signs", "_law_base", "_law_at", "_law_words_here", "_law_k", "_law_turned"] ["_law_cell", "_law_place", "_law_many"] (defScope s__law_words) := ⟨rfl, rfl, rfl, by decide +kernel, rfl, by decide +kernel, by decide +kernel⟩
theorem sc__law_capital : FnScope ["_law_word"] ["_law_word"] (defScope s__law_capital) := ⟨rfl, rfl, rfl, by decide +kernel, rfl, by decide +kernel, by decide +kernel⟩
theorem sc__law_term : FnScope ["_law_x", "_law_cell", "_law_words_here"] ["_law_x", "_law_cell", "_law_words_here"] (defScope s__law_term) := ⟨rfl, rfl, rfl, by decide +kernel, rfl, by decide +kernel, by decide +kernel⟩
theorem sc__law_atom : FnScope ["_law_xs", "_law_cell", "_law_words_here"] ["_law_xs", "_law_cell", "_law_words_here"] (defScope s__law_atom) := ⟨rfl, rfl, rfl, by decide +kernel, rfl, by decide +kernel, by decide +kernel⟩
theorem sc__law_is_var : FnScope ["_law_term_here"] ["_law_term_here"] (defScope s__law_is_var) := ⟨rfl, rfl, rfl, by decide +kernel, rfl, by decide +kernel, by decide +kernel⟩
theorem sc__law_bound : FnScope ["_law_term_here", "_law_there", "_law_cell"] ["_law_term_here", "_law_there", "_law_cell"] (defScope s__law_bound) := ⟨rfl, rfl, rfl, by decide +kernel, rfl, by decide +kernel, by decide +kernel⟩
theorem sc__law_rule : FnScope ["_law_script", "_law_words_here", "_law_safe_here", "_law_cells", "_law_xs", "_law_body", "_law_there", "_law_atom_here", "_law_ys", "_law_table", "_law_terms", "_law_choices", "_law_k", "_law_sign", "_law_free", "_law_term_here"] ["_law_script", "_law_words_here", "_law_safe_here"] (defScope s__law_rule) := ⟨rfl, rfl, rfl, by decide +kernel, rfl, by decide +kernel, by decide +kernel⟩
theorem sc__law_spoiled_atom : FnScope ["_law_atom_here", "_law_way", "_law_cell", "_law_table", "_law_terms", "_law_at", "_law_odd"] ["_law_atom_here", "_law_way", "_law_cell"] (defScope s__law_spoiled_atom) := ⟨rfl, rfl, rfl, by decide +kernel, rfl, by decide +kernel, by decide +kernel⟩
theorem sc__law_spoiled_choice : FnScope ["_law_choice", "_law_way", "_law_cell", "_law_odd"] ["_law_choice", "_law_way", "_law_cell"] (defScope s__law_spoiled_choice) := ⟨rfl, rfl, rfl, by decide +kernel, rfl, by decide +kernel, by decide +kernel⟩
theorem sc__law_spoiled : FnScope ["_law_rule_here", "_law_way", "_law_cell", "_law_atom_here", "_law_head", "_law_body", "_law_choices", "_law_at"] ["_law_rule_here", "_law_way", "_law_cell", "_law_atom_here"] (defScope s__law_spoiled) := ⟨rfl, rfl, rfl, by decide +kernel, rfl, by decide +kernel, by decide +kernel⟩
theorem sc__law_safe : FnScope ["_law_rule_here", "_law_there", "_law_atom_here", "_law_wanted", "_law_choice", "_law_term_here"] ["_law_rule_here"] (defScope s__law_safe) := ⟨rfl, rfl, rfl, by decide +kernel, rfl, by decide +kernel, by decide +kernel⟩
theorem sc__law_alike : FnScope ["_law_found", "_law_due"] ["_law_found", "_law_due"] (defScope s__law_alike) := ⟨rfl, rfl, rfl, by decide +kernel, rfl, by decide +kernel, by decide +kernel⟩
theorem sc_law : FnScope ["_law_script", "_law_words_here", "_law_way", "_law_rule_here", "_law_due", "_law_atom_here", "_law_odd"] ["_law_script"] (defScope s_law) := ⟨rfl, rfl, rfl, by decide +kernel, rfl, by decide +kernel, by decide +kernel⟩
structure Txt (K : PySem.W.Frag) (mg : Str → Option Value) : Prop where
  b_all : mg "all" = none
  b_bool : mg "bool" = none
  b_int : mg "int" = none
  b_isinstance : mg "isinstance" = none
  b_len : mg "len" = none
  b_list : mg "list" = none
  b_range : mg "range" = none
  b_str : mg "str" = none
  b_tuple : mg "tuple" = none
  c_SMALL_LETTERS : ∃ t, mg "SMALL_LETTERS" = some (.str "abcdefghijklmnopqrstuvwxyz" t)
  c_CAPITAL_LETTERS : ∃ t, mg "CAPITAL_LETTERS" = some (.str "ABCDEFGHIJKLMNOPQRSTUVWXYZ" t)
  c_FURTHER_SIGNS : ∃ t, mg "FURTHER_SIGNS" = some (.str "abcdefghijklmnopqrstuvwxyz0123456789" t)
  c_MOST_SIGNS : ∃ t, mg "MOST_SIGNS" = some (.int 12 t)
  c_MOST_VALUES : ∃ t, mg "MOST_VALUES" = some (.int 4 t)
  c_MOST_ATOMS : ∃ t, mg "MOST_ATOMS" = some (.int 3 t)
  c_MOST_CHOICES : ∃ t, mg "MOST_CHOICES" = some (.int 3 t)
  g_SIGNS : mg "SIGNS" = some (.ref (cA mg "SIGNS"))
  q_SIGNS : TupC K (cA mg "SIGNS") [.str "=", .str "!=", .str "<"]
  t_is_whole : Top K mg "is_whole" s_is_whole ["thing"]
  t_is_text_begun_by : Top K mg "is_text_begun_by" s_is_text_begun_by ["thing", "first_signs"]
  t_is_word : Top K mg "is_word" s_is_word ["thing"]
  t_is_var : Top K mg "is_var" s_is_var ["thing"]
  t_is_value : Top K mg "is_value" s_is_value ["thing"]
  t_is_tuple_of_up_to : Top K mg "is_tuple_of_up_to" s_is_tuple_of_up_to ["thing", "most"]
  t_is_tuple_of_just : Top K mg "is_tuple_of_just" s_is_tuple_of_just ["thing", "many"]
  t_is_term : Top K mg "is_term" s_is_term ["thing"]
  t_are_terms : Top K mg "are_terms" s_are_terms ["thing"]
  t_is_atom : Top K mg "is_atom" s_is_atom ["thing"]
  t_are_atoms : Top K mg "are_atoms" s_are_atoms ["thing"]
  t_is_choice : Top K mg "is_choice" s_is_choice ["thing"]
  t_are_choices : Top K mg "are_choices" s_are_choices ["thing"]
  t_variables_in : Top K mg "variables_in" s_variables_in ["terms"]
  t_variables_of_body : Top K mg "variables_of_body" s_variables_of_body ["body"]
  t_are_known : Top K mg "are_known" s_are_known ["terms", "known"]
  t_is_rule : Top K mg "is_rule" s_is_rule ["thing"]
  t__law_cell_at : Top K mg "_law_cell_at" s__law_cell_at ["_law_script", "_law_k"]
  t__law_stream : Top K mg "_law_stream" s__law_stream ["_law_cell", "_law_many"]
  t__law_words : Top K mg "_law_words" s__law_words ["_law_cell", "_law_place", "_law_many"]
  t__law_capital : Top K mg "_law_capital" s__law_capital ["_law_word"]
  t__law_term : Top K mg "_law_term" s__law_term ["_law_x", "_law_cell", "_law_words_here"]
  t__law_atom : Top K mg "_law_atom" s__law_atom ["_law_xs", "_law_cell", "_law_words_here"]
  t__law_is_var : Top K mg "_law_is_var" s__law_is_var ["_law_term_here"]
  t__law_bound : Top K mg "_law_bound" s__law_bound ["_law_term_here", "_law_there", "_law_cell"]
  t__law_rule : Top K mg "_law_rule" s__law_rule ["_law_script", "_law_words_here", "_law_safe_here"]
  t__law_spoiled_atom : Top K mg "_law_spoiled_atom" s__law_spoiled_atom ["_law_atom_here", "_law_way", "_law_cell"]
  t__law_spoiled_choice : Top K mg "_law_spoiled_choice" s__law_spoiled_choice ["_law_choice", "_law_way", "_law_cell"]
  t__law_spoiled : Top K mg "_law_spoiled" s__law_spoiled ["_law_rule_here", "_law_way", "_law_cell", "_law_atom_here"]
  t__law_safe : Top K mg "_law_safe" s__law_safe ["_law_rule_here"]
  t__law_alike : Top K mg "_law_alike" s__law_alike ["_law_found", "_law_due"]
  t_law : Top K mg "law" s_law ["_law_script"]
theorem iteFb {b : Bool} {A B : Prop} (e : b = false) (h : B) : if b = true then A else B := by
  subst e
  exact iteF h
theorem iteTb {b : Bool} {A B : Prop} (e : b = true) (h : A) : if b = true then A else B := by
  subst e
  exact iteT h
def fur : Str := "abcdefghijklmnopqrstuvwxyz0123456789"
def small : Str := "abcdefghijklmnopqrstuvwxyz"
def signsOk (fs : Str) : List Nat → Bool
  | [] => false
  | c :: r => decide (c ∈ fs.cps.toList) && r.all fun d => decide (d ∈ fur.cps.toList)
def txtB (fs z : Str) : Bool := decide (1 ≤ z.length) && decide (z.length ≤ 12) && signsOk fs z.cps.toList
def txtD (fs : Str) : PyData → Bool
  | .str z => txtB fs z
  | _ => false
def wholeD : PyData → Bool
  | .int _ => true
  | _ => false
def valD (d : PyData) : Bool := wholeD d || txtD small d
def okD : Nat → PyData → Prop
  | _, .str z => z.length ≤ 200
  | 0, .list _ => False
  | 0, .tuple _ => False
  | n + 1, .list ds => ds.length ≤ 10 ∧ ∀ e ∈ ds, okD n e
  | n + 1, .tuple ds => ds.length ≤ 10 ∧ ∀ e ∈ ds, okD n e
  | _, .dict _ => False
  | _, _ => True
theorem okD_str {n : Nat} {z : Str} (h : okD n (.str z)) : z.length ≤ 200 := by
  cases n <;> exact h
theorem dat_str {K : PySem.W.Frag} {H : Hp} {d : PyData} {x : V} (h : Dat K H d x) : (∃ z, d = .str z ∧ x = .str z) ∨ (tyIs (tyD d) "str" = false ∧ ∀ fs, txtD fs d = false) := by
  cases h with
  | str z _ => exact .inl ⟨z, rfl, rfl⟩
  | non => exact .inr ⟨rfl, fun _ => rfl⟩
  | bl _ => exact .inr ⟨rfl, fun _ => rfl⟩
  | int _ => exact .inr ⟨rfl, fun _ => rfl⟩
  | lst _ _ => exact .inr ⟨rfl, fun _ => rfl⟩
  | tup _ _ => exact .inr ⟨rfl, fun _ => rfl⟩
theorem txtB_len {fs z : Str} (h : ¬ (1 ≤ z.length ∧ z.length ≤ 12)) : txtB fs z = false := by
  unfold txtB
  by_cases h1 : 1 ≤ z.length
  · have h2 : ¬ z.length ≤ 12 := fun q => h ⟨h1, q⟩
    simp [h2]
  · simp [h1]
theorem txtB_ok {fs z : Str} (h1 : 1 ≤ z.length) (h2 : z.length ≤ 12) : txtB fs z = signsOk fs z.cps.toList := by
  unfold txtB
  simp [h1, h2]
theorem len_list (z : Str) : z.cps.toList.length = z.length := by simp [Str.length]
theorem split_list {z : Str} (h : 1 ≤ z.length) : ∃ c r, z.cps.toList = c :: r := by
  have := len_list z
  cases e : z.cps.toList with
  | nil => rw [e] at this; simp at this; omega
  | cons c r => exact ⟨c, r, rfl⟩
theorem cut_tail {z : Str} (h : 1 ≤ z.length) : (cutS z (some 1) none).cps.toList = z.cps.toList.tail := by
  have e1 : HT.sIx z.length 0 (some 1) = 1 := by
    have := HT.sIx_nat z.length 0 1
    rw [show ((1 : Nat) : Int) = 1 from rfl] at this
    rw [this]
    omega
  have hl := len_list z
  unfold cutS
  rw [e1, HT.sIx_none]
  show ((z.cps.toList.drop 1).take (z.length - 1)).toArray.toList = _
  rw [List.toList_toArray, List.take_of_length_le (by rw [List.length_drop]; omega), List.drop_one]
end Wy
namespace Wy
open PySem L2
section
variable {P : Program} {w : World} {K : PySem.W.Frag} {mg : Str → Option Value} {base : Heap}
def sp_begun (K : PySem.W.Frag) : Sp := fun vs H Q _ => ∃ x fs d n, vs = [x, .str fs] ∧ Dat K H d x ∧ okD n d ∧ ∀ H', Same H H' → Q (.bl (txtD fs d)) H'
theorem ok_is_text_begun_by (T : Txt K mg) : Def P w K mg base 1 "is_text_begun_by" ["thing", "first_signs"] (sp_begun K) := by
  refine T.t_is_text_begun_by.ok sc_is_text_begun_by (fun vs H Q E h => ?_) fun f cdv A outer s H vs Q E hr h => ?_
  · obtain ⟨x, fs, d, n, rfl, _⟩ := h
    rfl
  · obtain ⟨x, fs, d, n, rfl, hd, hz, k⟩ := h
    refine ⟨_, (pss_2
      (ps_if (PW.pt (pw_or (pt_not (pt_val (pe_callB (call_isiD K) rfl T.b_isinstance bt_isinstance (pa_2 (pv 0) (pe_ty rfl T.b_str bt_str))))) (pw_or1 (pt_not (pt_chain op_le op_le pe_int (pe_callB (call_lenK K) rfl T.b_len bt_len (pa_1 (pv 0))) (pe_gI rfl T.c_MOST_SIGNS)))))) (pss_one (ps_ret pe_bl)) pss_nil)
      (ps_ret (pe_and (pe_cmpR op_in_str (pe_ix ix_str (pv 0) pe_int (fun _ _ => rfl)) (pv 1) (by with_unfolding_all rfl)) (pe_one (pe_callB (call_allL rfl K) rfl T.b_all bt_all (pa_1 (pe_comp (N := ["sign"]) (caps := [none]) rfl (by with_unfolding_all rfl) (pi_str (pe_slice sl_str (pv 0) (po_some pe_int) po_none)) (fun _ _ _ _ _ => (pg_name (i := 0) (show (["sign"] : List Str).Nodup by decide +kernel) rfl (Or.inl rfl))) (fun _ _ _ _ _ => pf_nil) (fun _ _ _ _ _ => (pe_cmpR op_in_str (pv 0) (pe_gS rfl T.c_FURTHER_SIGNS) (by with_unfolding_all rfl)))))))))), ?_⟩
    rcases dat_str hd with ⟨z, rfl, rfl⟩ | ⟨ty, hn⟩
    · have hz := okD_str hz
      have hsl : z.length ≤ sizeLine := Nat.le_trans hz (by decide)
      have no : ¬ (1 ≤ z.length ∧ z.length ≤ 12) → Q (.bl false) H := fun q => by
        have := k H (Same.refl H)
        rw [show txtD fs (.str z) = false from txtB_len q] at this
        exact this
      refine ⟨_, rfl, _, _, _, rfl, hd, by decide, _, rfl, ?_⟩
      refine iteFb (show (!tyIs "str" "str") = false by decide) ?_
      refine ⟨_, rfl, _, _, rfl, ⟨hsl, rfl⟩, _, _, rfl, rfl, _, rfl, ?_⟩
      refine ite2 (fun h1 => ?_) (fun h1 => ?_)
      · refine ⟨_, _, rfl, rfl, _, rfl, ?_⟩
        refine ite2 (fun h2 => ?_) (fun h2 => ?_)
        · exact no fun q => by simp at h2; omega
        · have l1 : 1 ≤ z.length := by simp at h1; omega
          have l2 : z.length ≤ 12 := by simp at h2; omega
          obtain ⟨c, r, ecr⟩ := split_list l1
          have et : txtD fs (.str z) = signsOk fs z.cps.toList := txtB_ok (fs := fs) l1 l2
          rw [ecr] at et
          refine ⟨_, rfl, _, _, c, rfl, rfl, hsl, (by rw [ecr]; exact atI_nat (j := 0) rfl), _, rfl, _, _, rfl, rfl, _, rfl, ?_⟩
          rw [StrLaws.found_one]
          refine ite2 (fun h3 => ?_) (fun h3 => ?_)
          · refine ⟨_, rfl, _, rfl, _, rfl, hsl, _, rfl, fun D hD => ?_⟩
            have ect : (cutS z (some 1) none).cps.toList = r := by rw [cut_tail l1, ecr]; rfl
            have hrl : r.length ≤ 12 := by
              have := len_list z
              rw [ecr, List.length_cons] at this
              omega
            have esz : (cutS z (some 1) none).cps.size = r.length := by rw [← ect, Array.length_toList]
            refine comp_by r.length (fun i σ' H' => (∃ v, σ' = [v]) ∧ H' = upd H D (.lst ((r.take i).map fun c => V.bl (decide (c ∈ fur.cps.toList))))) ⟨⟨_, rfl⟩, rfl⟩ (fun i σ' H' hi _ => by show i < _; rw [esz]; exact hi) (fun σ' H' p => ⟨esz.symm, ?_⟩) (fun i σ' H' hi p x H2 y => ?_)
            · obtain ⟨_, rfl⟩ := p
              refine ⟨D, r.map fun c => decide (c ∈ fur.cps.toList), rfl, SqL.of (by rw [upd_same, List.take_length, List.map_map]; rfl), ?_⟩
              have := k (upd H D (.lst ((r.take r.length).map fun c => V.bl (decide (c ∈ fur.cps.toList))))) (same_upd hD)
              rw [et] at this
              have e2 : signsOk fs (c :: r) = (r.map fun c => decide (c ∈ fur.cps.toList)).all id := by
                show (decide (c ∈ fs.cps.toList) && _) = _
                rw [h3, Bool.true_and, List.all_map]
                rfl
              rw [e2] at this
              exact this
            · obtain ⟨⟨v, rfl⟩, rfl⟩ := p
              obtain ⟨rfl, c', hc, rfl⟩ := y
              have hc' : r[i]? = some c' := by rw [← ect, Array.getElem?_toList]; exact hc
              refine ⟨_, rfl, _, _, rfl, rfl, _, upd_same, ?_, ⟨_, rfl⟩, ?_⟩
              · rw [List.length_map, List.length_take]
                exact small1000 (by omega)
              · rw [upd_upd, StrLaws.found_one, List.take_succ, hc', List.map_append]
                rfl
          · have := k H (Same.refl H)
            rw [et] at this
            have e2 : signsOk fs (c :: r) = false := by
              show (decide (c ∈ fs.cps.toList) && _) = _
              rw [Bool.eq_false_iff.mpr h3, Bool.false_and]
            rw [e2] at this
            exact this
      · refine ⟨_, rfl, iteT ?_⟩
        exact no fun q => by simp at h1; omega
    · refine ⟨_, rfl, _, _, _, rfl, hd, by decide, _, rfl, ?_⟩
      refine iteTb (by rw [ty]; rfl) (iteT ?_)
      have := k H (Same.refl H)
      rw [hn] at this
      exact this
def sp_word (K : PySem.W.Frag) (fs : Str) : Sp := fun vs H Q _ => ∃ x d n, vs = [x] ∧ Dat K H d x ∧ okD n d ∧ ∀ H', Same H H' → Q (.bl (txtD fs d)) H'
theorem ok_is_word (T : Txt K mg) : Def P w K mg base 2 "is_word" ["thing"] (sp_word K small) := by
  refine T.t_is_word.ok sc_is_word (fun vs H Q E h => ?_) fun f cdv A outer s H vs Q E hr h => ?_
  · obtain ⟨x, d, n, rfl, _⟩ := h
    rfl
  · obtain ⟨x, d, n, rfl, hd, hz, k⟩ := h
    refine ⟨_, (pss_one (ps_ret (pe_def (ok_is_text_begun_by T) hr rfl (pa_2 (pv 0) (pe_gS rfl T.c_SMALL_LETTERS))))), ?_⟩
    exact ⟨_, rfl, _, _, d, n, rfl, hd, hz, k⟩
end
end Wy
namespace Wy
open PySem L2
section
variable {P : Program} {w : World} {K : PySem.W.Frag} {mg : Str → Option Value} {base : Heap}
def sp_whole (K : PySem.W.Frag) : Sp := fun vs H Q _ => ∃ x d, vs = [x] ∧ Dat K H d x ∧ Q (.bl (wholeD d)) H
theorem ok_is_whole (T : Txt K mg) : Def P w K mg base 1 "is_whole" ["thing"] (sp_whole K) := by
  refine T.t_is_whole.ok sc_is_whole (fun vs H Q E h => ?_) fun f cdv A outer s H vs Q E hr h => ?_
  · obtain ⟨x, d, rfl, _⟩ := h
    rfl
  · obtain ⟨x, d, rfl, hd, k⟩ := h
    refine ⟨_, (pss_one (ps_ret (pe_and (pe_callB (call_isiD K) rfl T.b_isinstance bt_isinstance (pa_2 (pv 0) (pe_ty rfl T.b_int bt_int))) (pe_one (pe_not (pe_callB (call_isiD K) rfl T.b_isinstance bt_isinstance (pa_2 (pv 0) (pe_ty rfl T.b_bool bt_bool)))))))), ?_⟩
    refine ⟨_, rfl, _, _, _, rfl, hd, by decide, _, rfl, ite2 (fun h1 => ?_) (fun h1 => ?_)⟩
    · refine ⟨_, rfl, _, _, _, rfl, hd, by decide, _, rfl, ?_⟩
      cases hd <;> first | exact k | (exact absurd h1 Bool.false_ne_true)
    · cases hd <;> first | exact k | (exact absurd rfl h1)
def sp_val (K : PySem.W.Frag) : Sp := fun vs H Q _ => ∃ x d n, vs = [x] ∧ Dat K H d x ∧ okD n d ∧ ∀ H', Same H H' → Q (.bl (valD d)) H'
theorem ok_is_value (T : Txt K mg) : Def P w K mg base 3 "is_value" ["thing"] (sp_val K) := by
  refine T.t_is_value.ok sc_is_value (fun vs H Q E h => ?_) fun f cdv A outer s H vs Q E hr h => ?_
  · obtain ⟨x, d, n, rfl, _⟩ := h
    rfl
  · obtain ⟨x, d, n, rfl, hd, hz, k⟩ := h
    refine ⟨_, (pss_one (ps_ret (pe_or (pe_def (ok_is_whole T) hr rfl (pa_1 (pv 0))) (pe_one (pe_def (ok_is_word T) hr rfl (pa_1 (pv 0))))))), ?_⟩
    refine ⟨_, rfl, _, d, rfl, hd, _, rfl, ite2 (fun h1 => ?_) (fun h1 => ?_)⟩
    · have := k H (Same.refl H)
      rw [valD, h1] at this
      exact this
    · refine ⟨_, rfl, _, d, n, rfl, hd, hz, fun H' s' => ?_⟩
      have := k H' s'
      rw [valD, Bool.eq_false_iff.mpr h1] at this
      exact this
end
end Wy
namespace Wy
open PySem L2
section
variable {P : Program} {w : World} {K : PySem.W.Frag} {mg : Str → Option Value} {base : Heap}
theorem dats_get {K : PySem.W.Frag} {H : Hp} : ∀ {ds : List PyData} {xs : List V} {i : Nat} {x : V}, Dats K H ds xs → xs[i]? = some x → ∃ d, ds[i]? = some d ∧ Dat K H d x
  | _, _, i, x, .nil, h => by simp at h
  | _, _, 0, x, .cons a b, h => by
    simp at h
    subst h
    exact ⟨_, rfl, a⟩
  | _, _, i + 1, x, .cons a b, h => by
    obtain ⟨d, e, r⟩ := dats_get (i := i) (x := x) b (by simpa using h)
    exact ⟨d, by simpa using e, r⟩
theorem dats_len {K : PySem.W.Frag} {H : Hp} : ∀ {ds : List PyData} {xs : List V}, Dats K H ds xs → ds.length = xs.length
  | _, _, .nil => rfl
  | _, _, .cons a b => by rw [List.length_cons, List.length_cons, dats_len b]
theorem okD_tup {n : Nat} {ds : List PyData} (h : okD n (.tuple ds)) : ∃ m, ds.length ≤ 10 ∧ ∀ e ∈ ds, okD m e := by
  cases n with
  | zero => exact absurd h id
  | succ n => exact ⟨n, h⟩
end
end Wy
namespace Wy
open PySem L2
section
variable {P : Program} {w : World} {K : PySem.W.Frag} {mg : Str → Option Value} {base : Heap}
def sp_cell (K : PySem.W.Frag) : Sp := fun vs H Q _ => ∃ (a : Addr) (ns : List Int) (k : Int), vs = [.ref a, .int k] ∧ SqL K H a (ns.map V.int) ∧ 0 ≤ k ∧ Q (.int (ns.getD k.toNat 0)) H
theorem ok__law_cell_at (T : Txt K mg) : Def P w K mg base 1 "_law_cell_at" ["_law_script", "_law_k"] (sp_cell K) := by
  refine T.t__law_cell_at.ok sc__law_cell_at (fun vs H Q E h => ?_) fun f cdv A outer s H vs Q E hr h => ?_
  · obtain ⟨a, ns, k, rfl, _⟩ := h
    rfl
  · obtain ⟨a, ns, k, rfl, hS, h0, q⟩ := h
    refine ⟨_, (pss_2
      (ps_if (pt_cmpR op_lt (pv 1) (pe_callB (call_lenK K) rfl T.b_len bt_len (pa_1 (pv 0))) (nomark _)) (pss_one (ps_ret (pe_ix (ix_listK K) (pv 0) (pv 1) (fun _ _ => rfl)))) pss_nil)
      (ps_ret pe_int)), ?_⟩
    refine ⟨_, rfl, _, rfl, _, _, rfl, .inl ⟨_, hS, rfl⟩, _, _, rfl, rfl, _, rfl, ?_⟩
    rw [List.length_map]
    refine ite2 (fun h1 => ?_) (fun h1 => ?_)
    · have h1' : k < ns.length := by simpa using h1
      have hk : k.toNat < ns.length := by omega
      refine ⟨_, rfl, _, rfl, _, _, _, V.int (ns.getD k.toNat 0), rfl, rfl, hS, ?_, q⟩
      rw [atI_lt h0 (by rw [List.length_map]; exact h1'), List.getElem?_map, List.getElem?_eq_getElem hk, getD_lt hk]
      rfl
    · have h1' : ¬ k < ns.length := by simpa using h1
      have e : ns.getD k.toNat 0 = 0 := by
        exact getD_ge (by omega)
      rw [e] at q
      exact q
end
end Wy
namespace Wy
open PySem L2
def capS : Str := "ABCDEFGHIJKLMNOPQRSTUVWXYZ"
def termB (d : PyData) : Bool := valD d || txtD capS d
def upJ (d : PyData) (m : Int) : Bool := match d with
  | .tuple ds => decide ((ds.length : Int) ≤ m)
  | _ => false
def tupJ (d : PyData) (m : Int) : Bool := match d with
  | .tuple ds => decide ((ds.length : Int) = m)
  | _ => false
def upD (m : Nat) (f : PyData → Bool) : PyData → Bool
  | .tuple ds => decide (ds.length ≤ m) && ds.all f
  | _ => false
def termsB : PyData → Bool := upD 4 termB
def atomB : PyData → Bool
  | .tuple [a, b] => txtD small a && termsB b
  | _ => false
def atomsB : PyData → Bool := upD 3 atomB
def signB (d : PyData) : Bool := [PyData.str "=", .str "!=", .str "<"].any fun y => PyData.eqv y d
def choiceB : PyData → Bool
  | .tuple [s, a, b] => signB s && (termB a && termB b)
  | _ => false
def choicesB : PyData → Bool := upD 3 choiceB
theorem dI (a b : Int) : decide (V.int a = V.int b) = decide (a = b) := decide_eq_decide.mpr ⟨fun h => by injection h, fun h => by rw [h]⟩
theorem dat_tup2 {K : PySem.W.Frag} {H : Hp} {d : PyData} {x : V} (h : Dat K H d x) : (∃ a xs ds, d = .tuple ds ∧ x = .ref a ∧ SqT K H a xs ∧ Dats K H ds xs) ∨ (tyIs (tyD d) "tuple" = false ∧ (∀ ds, d ≠ .tuple ds)) := by
  cases h with
  | tup a b => exact .inl ⟨_, _, _, rfl, rfl, a, b⟩
  | non => exact .inr ⟨rfl, fun _ z => nomatch z⟩
  | bl _ => exact .inr ⟨rfl, fun _ z => nomatch z⟩
  | int _ => exact .inr ⟨rfl, fun _ z => nomatch z⟩
  | str _ _ => exact .inr ⟨rfl, fun _ z => nomatch z⟩
  | lst _ _ => exact .inr ⟨rfl, fun _ z => nomatch z⟩
theorem upJ_no {d : PyData} {m : Int} (h : ∀ ds, d ≠ .tuple ds) : upJ d m = false := by
  cases d with
  | tuple ds => exact absurd rfl (h ds)
  | _ => rfl
theorem tupJ_no {d : PyData} {m : Int} (h : ∀ ds, d ≠ .tuple ds) : tupJ d m = false := by
  cases d with
  | tuple ds => exact absurd rfl (h ds)
  | _ => rfl
theorem dats2 {K : PySem.W.Frag} {H : Hp} {ds : List PyData} {xs : List V} (h : Dats K H ds xs) (e : ds.length = 2) : ∃ a b x y, ds = [a, b] ∧ xs = [x, y] ∧ Dat K H a x ∧ Dat K H b y := by
  match ds, xs, h, e with
  | [a, b], [x, y], .cons h1 (.cons h2 .nil), _ => exact ⟨a, b, x, y, rfl, rfl, h1, h2⟩
theorem dats3 {K : PySem.W.Frag} {H : Hp} {ds : List PyData} {xs : List V} (h : Dats K H ds xs) (e : ds.length = 3) : ∃ a b c x y z, ds = [a, b, c] ∧ xs = [x, y, z] ∧ Dat K H a x ∧ Dat K H b y ∧ Dat K H c z := by
  match ds, xs, h, e with
  | [a, b, c], [x, y, z], .cons h1 (.cons h2 (.cons h3 .nil)), _ => exact ⟨a, b, c, x, y, z, rfl, rfl, h1, h2, h3⟩
theorem atomB_no {d : PyData} (h : tupJ d 2 = false) : atomB d = false := by
  unfold atomB
  split
  · exact absurd h (by unfold tupJ; simp)
  · rfl
theorem choiceB_no {d : PyData} (h : tupJ d 3 = false) : choiceB d = false := by
  unfold choiceB
  split
  · exact absurd h (by unfold tupJ; simp)
  · rfl
section
variable {P : Program} {w : World} {K : PySem.W.Frag} {mg : Str → Option Value} {base : Heap}
def sp_is (K : PySem.W.Frag) (f : PyData → Bool) : Sp := fun vs H Q _ => ∃ x d n, vs = [x] ∧ Dat K H d x ∧ okD n d ∧ ∀ H', Same H H' → Q (.bl (f d)) H'
theorem ok_is_var (T : Txt K mg) : Def P w K mg base 2 "is_var" ["thing"] (sp_is K (txtD capS)) := by
  refine T.t_is_var.ok sc_is_var (fun vs H Q E h => ?_) fun f cdv A outer s H vs Q E hr h => ?_
  · obtain ⟨x, d, n, rfl, _⟩ := h
    rfl
  · obtain ⟨x, d, n, rfl, hd, hz, k⟩ := h
    refine ⟨_, (pss_one (ps_ret (pe_def (ok_is_text_begun_by T) hr rfl (pa_2 (pv 0) (pe_gS rfl T.c_CAPITAL_LETTERS))))), ?_⟩
    exact ⟨_, rfl, _, _, d, n, rfl, hd, hz, k⟩
theorem ok_is_term (T : Txt K mg) : Def P w K mg base 4 "is_term" ["thing"] (sp_is K termB) := by
  refine T.t_is_term.ok sc_is_term (fun vs H Q E h => ?_) fun f cdv A outer s H vs Q E hr h => ?_
  · obtain ⟨x, d, n, rfl, _⟩ := h
    rfl
  · obtain ⟨x, d, n, rfl, hd, hz, k⟩ := h
    refine ⟨_, (pss_one (ps_ret (pe_or (pe_def (ok_is_value T) hr rfl (pa_1 (pv 0))) (pe_one (pe_def (ok_is_var T) hr rfl (pa_1 (pv 0))))))), ?_⟩
    refine ⟨_, rfl, _, d, n, rfl, hd, hz, fun H1 s1 => ⟨_, rfl, ite2 (fun h1 => ?_) (fun h1 => ?_)⟩⟩
    · have := k H1 s1
      rw [termB, h1] at this
      exact this
    · refine ⟨_, rfl, _, d, n, rfl, Dat.same s1 _ _ hd, hz, fun H' s' => ?_⟩
      have := k H' (s1.trans s')
      rw [termB, Bool.eq_false_iff.mpr h1] at this
      exact this
def sp_up (K : PySem.W.Frag) : Sp := fun vs H Q _ => ∃ x d m, vs = [x, .int m] ∧ Dat K H d x ∧ Q (.bl (upJ d m)) H
theorem ok_is_tuple_of_up_to (T : Txt K mg) : Def P w K mg base 1 "is_tuple_of_up_to" ["thing", "most"] (sp_up K) := by
  refine T.t_is_tuple_of_up_to.ok sc_is_tuple_of_up_to (fun vs H Q E h => ?_) fun f cdv A outer s H vs Q E hr h => ?_
  · obtain ⟨x, d, m, rfl, _⟩ := h
    rfl
  · obtain ⟨x, d, m, rfl, hd, k⟩ := h
    refine ⟨_, (pss_one (ps_ret (pe_and (pe_callB (call_isiD K) rfl T.b_isinstance bt_isinstance (pa_2 (pv 0) (pe_ty rfl T.b_tuple bt_tuple))) (pe_one (pe_cmpR op_le (pe_callB (call_lenK K) rfl T.b_len bt_len (pa_1 (pv 0))) (pv 1) (nomark _)))))), ?_⟩
    refine ⟨_, rfl, _, _, _, rfl, hd, by decide, _, rfl, ?_⟩
    rcases dat_tup2 hd with ⟨a, xs, ds, rfl, rfl, ht, hds⟩ | ⟨ty, hn⟩
    · refine iteTb (show tyIs "tuple" "tuple" = true by decide) ?_
      refine ⟨_, rfl, _, _, rfl, .inr ⟨_, ht, rfl⟩, _, rfl, _, _, rfl, rfl, ?_⟩
      rw [← dats_len hds]
      exact k
    · refine iteFb ty ?_
      rw [upJ_no hn] at k
      exact k
def sp_just (K : PySem.W.Frag) : Sp := fun vs H Q _ => ∃ x d m, vs = [x, .int m] ∧ Dat K H d x ∧ Q (.bl (tupJ d m)) H
theorem ok_is_tuple_of_just (T : Txt K mg) : Def P w K mg base 1 "is_tuple_of_just" ["thing", "many"] (sp_just K) := by
  refine T.t_is_tuple_of_just.ok sc_is_tuple_of_just (fun vs H Q E h => ?_) fun f cdv A outer s H vs Q E hr h => ?_
  · obtain ⟨x, d, m, rfl, _⟩ := h
    rfl
  · obtain ⟨x, d, m, rfl, hd, k⟩ := h
    refine ⟨_, (pss_one (ps_ret (pe_and (pe_callB (call_isiD K) rfl T.b_isinstance bt_isinstance (pa_2 (pv 0) (pe_ty rfl T.b_tuple bt_tuple))) (pe_one (pe_cmpR op_eq (pe_callB (call_lenK K) rfl T.b_len bt_len (pa_1 (pv 0))) (pv 1) (nomark _)))))), ?_⟩
    refine ⟨_, rfl, _, _, _, rfl, hd, by decide, _, rfl, ?_⟩
    rcases dat_tup2 hd with ⟨a, xs, ds, rfl, rfl, ht, hds⟩ | ⟨ty, hn⟩
    · refine iteTb (show tyIs "tuple" "tuple" = true by decide) ?_
      refine ⟨_, rfl, _, _, rfl, .inr ⟨_, ht, rfl⟩, _, rfl, rfl, ?_⟩
      rw [dI, ← dats_len hds]
      exact k
    · refine iteFb ty ?_
      rw [tupJ_no hn] at k
      exact k
theorem ok_are_terms (T : Txt K mg) : Def P w K mg base 5 "are_terms" ["thing"] (sp_is K termsB) := by
  refine T.t_are_terms.ok sc_are_terms (fun vs H Q E h => ?_) fun f cdv A outer s H vs Q E hr h => ?_
  · obtain ⟨x, d, n, rfl, _⟩ := h
    rfl
  · obtain ⟨x, d, n, rfl, hd, hz, k⟩ := h
    refine ⟨_, (pss_one (ps_ret (pe_and (pe_def (ok_is_tuple_of_up_to T) hr rfl (pa_2 (pv 0) (pe_gI rfl T.c_MOST_VALUES))) (pe_one (pe_callB (call_allL rfl K) rfl T.b_all bt_all (pa_1 (pe_comp (N := ["part"]) (caps := [none]) rfl (by with_unfolding_all rfl) (pi_tupK K (pv 0)) (fun _ _ _ _ _ => (pg_name (i := 0) (show (["part"] : List Str).Nodup by decide +kernel) rfl (Or.inl rfl))) (fun _ _ _ _ _ => pf_nil) (fun _ _ _ _ _ => (pe_def (ok_is_term T) hr rfl (pa_1 (pv 0))))))))))), ?_⟩
    refine ⟨_, rfl, _, d, _, rfl, hd, _, rfl, ?_⟩
    rcases dat_tup2 hd with ⟨a, xs, ds, rfl, rfl, ht, hds⟩ | ⟨ty, hn⟩
    · obtain ⟨m, hl, hm⟩ := okD_tup hz
      have el := dats_len hds
      refine ite2 (fun h1 => ?_) (fun h1 => ?_)
      · have h1' : ds.length ≤ 4 := by
          have := of_decide_eq_true (show decide ((ds.length : Int) ≤ 4) = true from h1)
          omega
        refine ⟨_, rfl, a, rfl, ⟨_, ht⟩, fun D hD => ?_⟩
        refine comp_by xs.length (fun i σ' H' => (∃ v, σ' = [v]) ∧ Same H H' ∧ H' D = some (.lst (((ds.take i).map termB).map V.bl))) ⟨⟨_, rfl⟩, same_upd hD, upd_same⟩ (fun i σ' H' hi p => ?_) (fun σ' H' p => ⟨?_, ?_⟩) (fun i σ' H' hi p x H2 y => ?_)
        · obtain ⟨_, sm, _⟩ := p
          exact ⟨xs, xs[i], sm.seqT ht, List.getElem?_eq_getElem hi⟩
        · obtain ⟨_, sm, _⟩ := p
          exact ⟨xs, sm.seqT ht, Nat.le_refl _⟩
        · obtain ⟨_, sm, e⟩ := p
          refine ⟨D, ds.map termB, rfl, SqL.of (by rw [e, ← el, List.take_length]), ?_⟩
          have := k H' sm
          rw [termsB, upD, decide_eq_true h1', Bool.true_and] at this
          rw [List.all_map]
          exact this
        · obtain ⟨⟨v, rfl⟩, sm, e⟩ := p
          obtain ⟨rfl, hx⟩ := y
          obtain ⟨d, hdi, hdx⟩ := dats_get (Dats.same sm _ _ hds) (hx xs (sm.seqT ht))
          refine ⟨_, rfl, x, d, m, rfl, hdx, hm d (List.mem_of_getElem? hdi), fun H3 s3 => ⟨_, s3 _ _ e, ?_, ⟨_, rfl⟩, (sm.trans s3).set hD, ?_⟩⟩
          · rw [List.length_map, List.length_map, List.length_take]
            exact small1000 (by omega)
          · rw [upd_same, List.take_succ, hdi, List.map_append, List.map_append]
            rfl
      · have h1' : ¬ ds.length ≤ 4 := fun z => h1 (show decide ((ds.length : Int) ≤ 4) = true from decide_eq_true (by omega))
        have := k H (Same.refl H)
        rw [termsB, upD, decide_eq_false h1', Bool.false_and] at this
        exact this
    · refine iteFb (upJ_no hn) ?_
      have := k H (Same.refl H)
      have e : termsB d = false := by
        cases d with
        | tuple ds => exact absurd rfl (hn ds)
        | _ => rfl
      rw [e] at this
      exact this
theorem ok_is_atom (T : Txt K mg) : Def P w K mg base 6 "is_atom" ["thing"] (sp_is K atomB) := by
  refine T.t_is_atom.ok sc_is_atom (fun vs H Q E h => ?_) fun f cdv A outer s H vs Q E hr h => ?_
  · obtain ⟨x, d, n, rfl, _⟩ := h
    rfl
  · obtain ⟨x, d, n, rfl, hd, hz, k⟩ := h
    refine ⟨_, (pss_one (ps_ret (pe_and (pe_def (ok_is_tuple_of_just T) hr rfl (pa_2 (pv 0) pe_int)) (pe_and (pe_def (ok_is_word T) hr rfl (pa_1 (pe_ix (ix_tupK K) (pv 0) pe_int (fun _ _ => rfl)))) (pe_one (pe_def (ok_are_terms T) hr rfl (pa_1 (pe_ix (ix_tupK K) (pv 0) pe_int (fun _ _ => rfl))))))))), ?_⟩
    refine ⟨_, rfl, _, d, _, rfl, hd, _, rfl, ite2 (fun h1 => ?_) (fun h1 => ?_)⟩
    · rcases dat_tup2 hd with ⟨a, xs, ds, rfl, rfl, ht, hds⟩ | ⟨ty, hn⟩
      · have l2 : ds.length = 2 := by
          have := of_decide_eq_true (show decide ((ds.length : Int) = 2) = true from h1)
          omega
        obtain ⟨d1, d2, x1, x2, rfl, rfl, e1, e2⟩ := dats2 hds l2
        obtain ⟨m, _, hm⟩ := okD_tup hz
        refine ⟨_, rfl, _, _, _, _, rfl, rfl, ht, atI_nat (j := 0) rfl, _, d1, m, rfl, e1, hm _ (by simp), fun H1 s1 => ⟨_, rfl, ite2 (fun h2 => ?_) (fun h2 => ?_)⟩⟩
        · refine ⟨_, rfl, _, _, _, _, rfl, rfl, s1.seqT ht, atI_nat (j := 1) rfl, _, d2, m, rfl, Dat.same s1 _ _ e2, hm _ (by simp), fun H2 s2 => ?_⟩
          have := k H2 (s1.trans s2)
          rw [atomB, h2, Bool.true_and] at this
          exact this
        · have := k H1 s1
          rw [atomB, Bool.eq_false_iff.mpr h2, Bool.false_and] at this
          exact this
      · rw [tupJ_no hn] at h1
        cases h1
    · have := k H (Same.refl H)
      rw [atomB_no (Bool.eq_false_iff.mpr h1)] at this
      exact this
theorem ok_are_atoms (T : Txt K mg) : Def P w K mg base 7 "are_atoms" ["thing"] (sp_is K atomsB) := by
  refine T.t_are_atoms.ok sc_are_atoms (fun vs H Q E h => ?_) fun f cdv A outer s H vs Q E hr h => ?_
  · obtain ⟨x, d, n, rfl, _⟩ := h
    rfl
  · obtain ⟨x, d, n, rfl, hd, hz, k⟩ := h
    refine ⟨_, (pss_one (ps_ret (pe_and (pe_def (ok_is_tuple_of_up_to T) hr rfl (pa_2 (pv 0) (pe_gI rfl T.c_MOST_ATOMS))) (pe_one (pe_callB (call_allL rfl K) rfl T.b_all bt_all (pa_1 (pe_comp (N := ["part"]) (caps := [none]) rfl (by with_unfolding_all rfl) (pi_tupK K (pv 0)) (fun _ _ _ _ _ => (pg_name (i := 0) (show (["part"] : List Str).Nodup by decide +kernel) rfl (Or.inl rfl))) (fun _ _ _ _ _ => pf_nil) (fun _ _ _ _ _ => (pe_def (ok_is_atom T) hr rfl (pa_1 (pv 0))))))))))), ?_⟩
    refine ⟨_, rfl, _, d, _, rfl, hd, _, rfl, ?_⟩
    rcases dat_tup2 hd with ⟨a, xs, ds, rfl, rfl, ht, hds⟩ | ⟨ty, hn⟩
    · obtain ⟨m, hl, hm⟩ := okD_tup hz
      have el := dats_len hds
      refine ite2 (fun h1 => ?_) (fun h1 => ?_)
      · have h1' : ds.length ≤ 3 := by
          have := of_decide_eq_true (show decide ((ds.length : Int) ≤ 3) = true from h1)
          omega
        refine ⟨_, rfl, a, rfl, ⟨_, ht⟩, fun D hD => ?_⟩
        refine comp_by xs.length (fun i σ' H' => (∃ v, σ' = [v]) ∧ Same H H' ∧ H' D = some (.lst (((ds.take i).map atomB).map V.bl))) ⟨⟨_, rfl⟩, same_upd hD, upd_same⟩ (fun i σ' H' hi p => ?_) (fun σ' H' p => ⟨?_, ?_⟩) (fun i σ' H' hi p x H2 y => ?_)
        · obtain ⟨_, sm, _⟩ := p
          exact ⟨xs, xs[i], sm.seqT ht, List.getElem?_eq_getElem hi⟩
        · obtain ⟨_, sm, _⟩ := p
          exact ⟨xs, sm.seqT ht, Nat.le_refl _⟩
        · obtain ⟨_, sm, e⟩ := p
          refine ⟨D, ds.map atomB, rfl, SqL.of (by rw [e, ← el, List.take_length]), ?_⟩
          have := k H' sm
          rw [atomsB, upD, decide_eq_true h1', Bool.true_and] at this
          rw [List.all_map]
          exact this
        · obtain ⟨⟨v, rfl⟩, sm, e⟩ := p
          obtain ⟨rfl, hx⟩ := y
          obtain ⟨d, hdi, hdx⟩ := dats_get (Dats.same sm _ _ hds) (hx xs (sm.seqT ht))
          refine ⟨_, rfl, x, d, m, rfl, hdx, hm d (List.mem_of_getElem? hdi), fun H3 s3 => ⟨_, s3 _ _ e, ?_, ⟨_, rfl⟩, (sm.trans s3).set hD, ?_⟩⟩
          · rw [List.length_map, List.length_map, List.length_take]
            exact small1000 (by omega)
          · rw [upd_same, List.take_succ, hdi, List.map_append, List.map_append]
            rfl
      · have h1' : ¬ ds.length ≤ 3 := fun z => h1 (show decide ((ds.length : Int) ≤ 3) = true from decide_eq_true (by omega))
        have := k H (Same.refl H)
        rw [atomsB, upD, decide_eq_false h1', Bool.false_and] at this
        exact this
    · refine iteFb (upJ_no hn) ?_
      have := k H (Same.refl H)
      have e : atomsB d = false := by
        cases d with
        | tuple ds => exact absurd rfl (hn ds)
        | _ => rfl
      rw [e] at this
      exact this
theorem ok_is_choice (T : Txt K mg) : Def P w K mg base 5 "is_choice" ["thing"] (sp_is K choiceB) := by
  refine T.t_is_choice.ok sc_is_choice (fun vs H Q E h => ?_) fun f cdv A outer s H vs Q E hr h => ?_
  · obtain ⟨x, d, n, rfl, _⟩ := h
    rfl
  · obtain ⟨x, d, n, rfl, hd, hz, k⟩ := h
    refine ⟨_, (pss_one (ps_ret (pe_and (pe_def (ok_is_tuple_of_just T) hr rfl (pa_2 (pv 0) pe_int)) (pe_and (pe_cmpR (op_inTD hr.units K) (pe_ix (ix_tupK K) (pv 0) pe_int (fun _ _ => rfl)) (pe_globR rfl T.g_SIGNS) (by with_unfolding_all rfl)) (pe_and (pe_def (ok_is_term T) hr rfl (pa_1 (pe_ix (ix_tupK K) (pv 0) pe_int (fun _ _ => rfl)))) (pe_one (pe_def (ok_is_term T) hr rfl (pa_1 (pe_ix (ix_tupK K) (pv 0) pe_int (fun _ _ => rfl)))))))))), ?_⟩
    refine ⟨_, rfl, _, d, _, rfl, hd, _, rfl, ite2 (fun h1 => ?_) (fun h1 => ?_)⟩
    · rcases dat_tup2 hd with ⟨a, xs, ds, rfl, rfl, ht, hds⟩ | ⟨ty, hn⟩
      · have l3 : ds.length = 3 := by
          have := of_decide_eq_true (show decide ((ds.length : Int) = 3) = true from h1)
          omega
        obtain ⟨d1, d2, d3, x1, x2, x3, rfl, rfl, e1, e2, e3⟩ := dats3 hds l3
        obtain ⟨m, _, hm⟩ := okD_tup hz
        have ds3 : Dat K H (.tuple [.str "=", .str "!=", .str "<"]) (.ref (cA mg "SIGNS")) := .tup (T.q_SIGNS.sq H) (.cons (.str _ (by decide +kernel)) (.cons (.str _ (by decide +kernel)) (.cons (.str _ (by decide +kernel)) .nil)))
        refine ⟨_, rfl, _, _, _, _, rfl, rfl, ht, atI_nat (j := 0) rfl, d1, _, e1, ds3, by decide, _, rfl, ite2 (fun h2 => ?_) (fun h2 => ?_)⟩
        · refine ⟨_, rfl, _, _, _, _, rfl, rfl, ht, atI_nat (j := 1) rfl, _, d2, m, rfl, e2, hm _ (by simp), fun H1 s1 => ⟨_, rfl, ite2 (fun h3 => ?_) (fun h3 => ?_)⟩⟩
          · refine ⟨_, rfl, _, _, _, _, rfl, rfl, s1.seqT ht, atI_nat (j := 2) rfl, _, d3, m, rfl, Dat.same s1 _ _ e3, hm _ (by simp), fun H2 s2 => ?_⟩
            have := k H2 (s1.trans s2)
            rw [choiceB, show signB d1 = true from h2, h3, Bool.true_and, Bool.true_and] at this
            exact this
          · have := k H1 s1
            rw [choiceB, show signB d1 = true from h2, Bool.eq_false_iff.mpr h3, Bool.false_and, Bool.and_false] at this
            exact this
        · have := k H (Same.refl H)
          rw [choiceB, show signB d1 = false from Bool.eq_false_iff.mpr h2, Bool.false_and] at this
          exact this
      · rw [tupJ_no hn] at h1
        cases h1
    · have := k H (Same.refl H)
      rw [choiceB_no (Bool.eq_false_iff.mpr h1)] at this
      exact this
theorem ok_are_choices (T : Txt K mg) : Def P w K mg base 6 "are_choices" ["thing"] (sp_is K choicesB) := by
  refine T.t_are_choices.ok sc_are_choices (fun vs H Q E h => ?_) fun f cdv A outer s H vs Q E hr h => ?_
  · obtain ⟨x, d, n, rfl, _⟩ := h
    rfl
  · obtain ⟨x, d, n, rfl, hd, hz, k⟩ := h
    refine ⟨_, (pss_one (ps_ret (pe_and (pe_def (ok_is_tuple_of_up_to T) hr rfl (pa_2 (pv 0) (pe_gI rfl T.c_MOST_CHOICES))) (pe_one (pe_callB (call_allL rfl K) rfl T.b_all bt_all (pa_1 (pe_comp (N := ["part"]) (caps := [none]) rfl (by with_unfolding_all rfl) (pi_tupK K (pv 0)) (fun _ _ _ _ _ => (pg_name (i := 0) (show (["part"] : List Str).Nodup by decide +kernel) rfl (Or.inl rfl))) (fun _ _ _ _ _ => pf_nil) (fun _ _ _ _ _ => (pe_def (ok_is_choice T) hr rfl (pa_1 (pv 0))))))))))), ?_⟩
    refine ⟨_, rfl, _, d, _, rfl, hd, _, rfl, ?_⟩
    rcases dat_tup2 hd with ⟨a, xs, ds, rfl, rfl, ht, hds⟩ | ⟨ty, hn⟩
    · obtain ⟨m, hl, hm⟩ := okD_tup hz
      have el := dats_len hds
      refine ite2 (fun h1 => ?_) (fun h1 => ?_)
      · have h1' : ds.length ≤ 3 := by
          have := of_decide_eq_true (show decide ((ds.length : Int) ≤ 3) = true from h1)
          omega
        refine ⟨_, rfl, a, rfl, ⟨_, ht⟩, fun D hD => ?_⟩
        refine comp_by xs.length (fun i σ' H' => (∃ v, σ' = [v]) ∧ Same H H' ∧ H' D = some (.lst (((ds.take i).map choiceB).map V.bl))) ⟨⟨_, rfl⟩, same_upd hD, upd_same⟩ (fun i σ' H' hi p => ?_) (fun σ' H' p => ⟨?_, ?_⟩) (fun i σ' H' hi p x H2 y => ?_)
        · obtain ⟨_, sm, _⟩ := p
          exact ⟨xs, xs[i], sm.seqT ht, List.getElem?_eq_getElem hi⟩
        · obtain ⟨_, sm, _⟩ := p
          exact ⟨xs, sm.seqT ht, Nat.le_refl _⟩
        · obtain ⟨_, sm, e⟩ := p
          refine ⟨D, ds.map choiceB, rfl, SqL.of (by rw [e, ← el, List.take_length]), ?_⟩
          have := k H' sm
          rw [choicesB, upD, decide_eq_true h1', Bool.true_and] at this
          rw [List.all_map]
          exact this
        · obtain ⟨⟨v, rfl⟩, sm, e⟩ := p
          obtain ⟨rfl, hx⟩ := y
          obtain ⟨d, hdi, hdx⟩ := dats_get (Dats.same sm _ _ hds) (hx xs (sm.seqT ht))
          refine ⟨_, rfl, x, d, m, rfl, hdx, hm d (List.mem_of_getElem? hdi), fun H3 s3 => ⟨_, s3 _ _ e, ?_, ⟨_, rfl⟩, (sm.trans s3).set hD, ?_⟩⟩
          · rw [List.length_map, List.length_map, List.length_take]
            exact small1000 (by omega)
          · rw [upd_same, List.take_succ, hdi, List.map_append, List.map_append]
            rfl
      · have h1' : ¬ ds.length ≤ 3 := fun z => h1 (show decide ((ds.length : Int) ≤ 3) = true from decide_eq_true (by omega))
        have := k H (Same.refl H)
        rw [choicesB, upD, decide_eq_false h1', Bool.false_and] at this
        exact this
    · refine iteFb (upJ_no hn) ?_
      have := k H (Same.refl H)
      have e : choicesB d = false := by
        cases d with
        | tuple ds => exact absurd rfl (hn ds)
        | _ => rfl
      rw [e] at this
      exact this
end
end Wy
namespace Wy
open PySem L2
theorem cap_lt : ∀ c ∈ capS.cps.toList, c < 0x110000 := by decide +kernel
theorem fur_lt : ∀ c ∈ fur.cps.toList, c < 0x110000 := by decide +kernel
theorem strOk_of {z : Str} (h : ∀ c ∈ z.cps.toList, c < 0x110000) : PyData.strOk z = true := by
  unfold PyData.strOk
  rw [← Array.all_toList, List.all_eq_true]
  exact fun c hc => decide_eq_true (h c hc)
theorem txtB_parts {F z : Str} (h : txtB F z = true) : 1 ≤ z.length ∧ z.length ≤ 12 ∧ ∃ c r, z.cps.toList = c :: r ∧ c ∈ F.cps.toList ∧ ∀ d ∈ r, d ∈ fur.cps.toList := by
  by_cases hl : 1 ≤ z.length ∧ z.length ≤ 12
  · obtain ⟨c, r, e⟩ := split_list hl.1
    rw [txtB_ok hl.1 hl.2, e] at h
    have h' : (decide (c ∈ F.cps.toList) && r.all fun d => decide (d ∈ fur.cps.toList)) = true := h
    rw [Bool.and_eq_true, List.all_eq_true] at h'
    exact ⟨hl.1, hl.2, c, r, e, of_decide_eq_true h'.1, fun d hd => of_decide_eq_true (h'.2 d hd)⟩
  · rw [txtB_len hl] at h
    cases h
theorem txtB_str {F z : Str} (hF : ∀ c ∈ F.cps.toList, c < 0x110000) (h : txtB F z = true) : PyData.strOk z = true := by
  obtain ⟨_, _, c, r, e, hc, hr⟩ := txtB_parts h
  refine strOk_of fun d hd => ?_
  rw [e] at hd
  rcases List.mem_cons.mp hd with rfl | hd
  · exact hF _ hc
  · exact fur_lt d (hr d hd)
def var? : PyData → List Str
  | .str z => if txtB capS z = true then [z] else []
  | _ => []
def vnames (ds : List PyData) : List Str := ds.flatMap var?
theorem vn_ok {ds : List PyData} : ∀ z ∈ vnames ds, txtB capS z = true := fun z hz => by
  obtain ⟨d, _, h⟩ := List.mem_flatMap.mp hz
  unfold var? at h
  split at h
  · split at h
    · rw [List.mem_singleton.mp h]
      assumption
    · cases h
  · cases h
theorem vn_step {ds : List PyData} {i : Nat} {d : PyData} (h : ds[i]? = some d) : vnames (ds.take (i + 1)) = vnames (ds.take i) ++ var? d := by
  unfold vnames
  rw [List.take_succ, h, List.flatMap_append]
  congr 1
  show [d].flatMap var? = _
  rw [List.flatMap_cons, List.flatMap_nil, List.append_nil]
theorem vn_len (ds : List PyData) : (vnames ds).length ≤ ds.length := by
  induction ds with
  | nil => exact Nat.le_refl _
  | cons d ds ih =>
    have h1 : (var? d).length ≤ 1 := by
      unfold var?
      split
      · split
        · exact Nat.le_refl _
        · exact Nat.zero_le _
      · exact Nat.zero_le _
    unfold vnames at ih ⊢
    rw [List.flatMap_cons, List.length_append, List.length_cons]
    omega
def atomVars : PyData → List Str
  | .tuple [_, .tuple ts] => vnames ts
  | _ => []
def bodyVars (as : List PyData) : List Str := as.flatMap atomVars
theorem bv_ok {as : List PyData} : ∀ z ∈ bodyVars as, txtB capS z = true := fun z hz => by
  obtain ⟨d, _, h⟩ := List.mem_flatMap.mp hz
  unfold atomVars at h
  split at h
  · exact vn_ok z h
  · cases h
theorem bv_step {as : List PyData} {i : Nat} {d : PyData} (h : as[i]? = some d) : bodyVars (as.take (i + 1)) = bodyVars (as.take i) ++ atomVars d := by
  unfold bodyVars
  rw [List.take_succ, h, List.flatMap_append]
  congr 1
  show [d].flatMap atomVars = _
  rw [List.flatMap_cons, List.flatMap_nil, List.append_nil]
def knownB (ds : List PyData) (ks : List Str) : Bool := (vnames ds).all fun z => decide (z ∈ ks)
def chKnown (ks : List Str) : PyData → Bool
  | .tuple (_ :: r) => knownB r ks
  | _ => true
def parts : PyData → List PyData
  | .tuple ds => ds
  | _ => []
def headKnown (ks : List Str) : PyData → Bool
  | .tuple [_, .tuple ts] => knownB ts ks
  | _ => true
def ruleB : PyData → Bool
  | .tuple [h, b, c] => atomB h && (atomsB b && (choicesB c && (headKnown (bodyVars (parts b)) h && (parts c).all (chKnown (bodyVars (parts b))))))
  | _ => false
theorem ruleB_no {d : PyData} (h : tupJ d 3 = false) : ruleB d = false := by
  unfold ruleB
  split
  · exact absurd h (by unfold tupJ; simp)
  · rfl
theorem upD_parts {m : Nat} {f : PyData → Bool} {d : PyData} (h : upD m f d = true) : ∃ ds, d = .tuple ds ∧ ds.length ≤ m ∧ ∀ e ∈ ds, f e = true := by
  cases d with
  | tuple ds =>
    have h' : (decide (ds.length ≤ m) && ds.all f) = true := h
    rw [Bool.and_eq_true, List.all_eq_true] at h'
    exact ⟨ds, rfl, of_decide_eq_true h'.1, h'.2⟩
  | _ => cases h
theorem atomB_parts {d : PyData} (h : atomB d = true) : ∃ a ts, d = .tuple [a, .tuple ts] ∧ txtD small a = true ∧ ts.length ≤ 4 ∧ ∀ e ∈ ts, termB e = true := by
  unfold atomB at h
  split at h
  · rw [Bool.and_eq_true] at h
    obtain ⟨ts, rfl, l, ht⟩ := upD_parts h.2
    exact ⟨_, ts, rfl, h.1, l, ht⟩
  · cases h
theorem choiceB_parts {d : PyData} (h : choiceB d = true) : ∃ s a b, d = .tuple [s, a, b] ∧ signB s = true ∧ termB a = true ∧ termB b = true := by
  unfold choiceB at h
  split at h
  · rw [Bool.and_eq_true, Bool.and_eq_true] at h
    exact ⟨_, _, _, rfl, h⟩
  · cases h
theorem eqv_str (a b : Str) : PyData.eqv (.str a) (.str b) = decide (a = b) := by
  show (a == b) = _
  by_cases h : a = b <;> simp [h]
theorem any_str (ks : List Str) (z : Str) : ((ks.map PyData.str).any fun y => PyData.eqv y (.str z)) = decide (z ∈ ks) := by
  rw [Bool.eq_iff_iff, List.any_eq_true, decide_eq_true_iff]
  constructor
  · rintro ⟨y, hy, e⟩
    obtain ⟨k, hk, rfl⟩ := List.mem_map.mp hy
    rw [eqv_str] at e
    rw [← of_decide_eq_true e]
    exact hk
  · intro h
    exact ⟨.str z, List.mem_map_of_mem h, by rw [eqv_str]; simp⟩
section
variable {P : Program} {w : World} {K : PySem.W.Frag} {mg : Str → Option Value} {base : Heap}
theorem dats_strs {H : Hp} : ∀ {ks : List Str}, (∀ z ∈ ks, txtB capS z = true) → Dats K H (ks.map .str) (ks.map V.str)
  | [], _ => .nil
  | z :: ks, h => .cons (.str z (txtB_str cap_lt (h z (List.mem_cons_self ..)))) (dats_strs fun y hy => h y (List.mem_cons_of_mem _ hy))
theorem depth_strs (ks : List Str) : PyData.depthAll (ks.map .str) ≤ 0 := by
  induction ks with
  | nil => exact Nat.le_refl _
  | cons z ks ih => exact Nat.max_le.mpr ⟨Nat.le_refl _, ih⟩
def sp_vars (K : PySem.W.Frag) : Sp := fun vs H Q _ => ∃ (a : Addr) (xs : List V) (ds : List PyData) (n : Nat), vs = [.ref a] ∧ SqT K H a xs ∧ Dats K H ds xs ∧ ds.length ≤ 10 ∧ (∀ d ∈ ds, okD n d) ∧ ∀ L H', Same H H' → H L = none → H' L = some (.lst ((vnames ds).map V.str)) → Q (.ref L) H'
theorem ok_variables_in (T : Txt K mg) : Def P w K mg base 3 "variables_in" ["terms"] (sp_vars K) := by
  refine T.t_variables_in.ok sc_variables_in (fun vs H Q E h => ?_) fun f cdv A outer s H vs Q E hr h => ?_
  · obtain ⟨a, xs, ds, n, rfl, _⟩ := h
    rfl
  · obtain ⟨a, xs, ds, n, rfl, ht, hds, hl, hm, k⟩ := h
    have el := dats_len hds
    refine ⟨_, (pss_one (ps_ret (pe_comp (N := ["term"]) (caps := [none]) rfl (by with_unfolding_all rfl) (pi_tupK K (pv 0)) (fun _ _ _ _ _ => (pg_name (i := 0) (show (["term"] : List Str).Nodup by decide +kernel) rfl (Or.inl rfl))) (fun _ _ _ _ _ => pf_one (pt_val (pe_def (ok_is_var T) hr rfl (pa_1 (pv 0))))) (fun _ _ _ _ _ => (pv 0))))), ?_⟩
    refine ⟨_, rfl, a, rfl, ⟨_, ht⟩, fun D hD => ?_⟩
    refine comp_by xs.length (fun i σ' H' => (∃ v, σ' = [v]) ∧ Same H H' ∧ H' D = some (.lst ((vnames (ds.take i)).map V.str))) ⟨⟨_, rfl⟩, same_upd hD, upd_same⟩ (fun i σ' H' hi p => ?_) (fun σ' H' p => ⟨?_, ?_⟩) (fun i σ' H' hi p x H2 y => ?_)
    · obtain ⟨_, sm, _⟩ := p
      exact ⟨xs, xs[i], sm.seqT ht, List.getElem?_eq_getElem hi⟩
    · obtain ⟨_, sm, _⟩ := p
      exact ⟨xs, sm.seqT ht, Nat.le_refl _⟩
    · obtain ⟨_, sm, e⟩ := p
      rw [← el, List.take_length] at e
      exact k D H' sm hD e
    · obtain ⟨⟨v, rfl⟩, sm, e⟩ := p
      obtain ⟨rfl, hx⟩ := y
      obtain ⟨d, hdi, hdx⟩ := dats_get (Dats.same sm _ _ hds) (hx xs (sm.seqT ht))
      refine ⟨_, rfl, x, d, n, rfl, hdx, hm d (List.mem_of_getElem? hdi), fun H3 s3 => ⟨_, rfl, ite2 (fun h1 => ?_) (fun h1 => ?_)⟩⟩
      · rcases dat_str hdx with ⟨z, rfl, rfl⟩ | ⟨_, hn⟩
        · have ez : var? (.str z) = [z] := if_pos h1
          refine ⟨_, rfl, _, s3 _ _ e, ?_, ⟨_, rfl⟩, (sm.trans s3).set hD, ?_⟩
          · have := vn_len (ds.take i)
            rw [List.length_take] at this
            rw [List.length_map]
            exact small1000 (by omega)
          · rw [upd_same, vn_step hdi, ez, List.map_append]
            rfl
        · rw [hn] at h1
          cases h1
      · have ez : var? d = [] := by
          unfold var?
          split
          · exact if_neg h1
          · rfl
        refine ⟨⟨_, rfl⟩, sm.trans s3, ?_⟩
        rw [vn_step hdi, ez, List.append_nil]
        exact s3 _ _ e
def sp_bvars (K : PySem.W.Frag) : Sp := fun vs H Q _ => ∃ (x : V) (ds : List PyData) (n : Nat), vs = [x] ∧ Dat K H (.tuple ds) x ∧ okD n (.tuple ds) ∧ atomsB (.tuple ds) = true ∧ ∀ L H', Same H H' → H L = none → H' L = some (.lst ((bodyVars ds).map V.str)) → Q (.ref L) H'
theorem ok_variables_of_body (T : Txt K mg) : Def P w K mg base 4 "variables_of_body" ["body"] (sp_bvars K) := by
  refine T.t_variables_of_body.ok sc_variables_of_body (fun vs H Q E h => ?_) fun f cdv A outer s H vs Q E hr h => ?_
  · obtain ⟨x, ds, n, rfl, _⟩ := h
    rfl
  · obtain ⟨x, ds, n, rfl, hd, hz, hat, k⟩ := h
    obtain ⟨ds', e0, l3, hat⟩ := upD_parts hat
    cases e0
    obtain ⟨m, _, hm⟩ := okD_tup hz
    cases hd with
    | @tup a xs _ ht hds =>
      have el := dats_len hds
      refine ⟨_, (pss_3
      (ps_set (i := 1) sc_variables_of_body.nd rfl (Or.inl rfl) (pe_lst pa_nil))
      (ps_for PassesOwn.never rfl (pi_tupK K (pv 0)) (pg_tup rfl (pgs_cons (pg_name (i := 2) sc_variables_of_body.nd rfl (Or.inl rfl)) (pgs_cons (pg_name (i := 3) sc_variables_of_body.nd rfl (Or.inl rfl)) pgs_nil))) (pss_one (ps_expr (pe_bm PySem.F.plainAttrs_list PySem.F.slot_list_extend PySem.F.type_list_extend mt_extend (pv 1) (pa_1 (pe_def (ok_variables_in T) hr rfl (pa_1 (pv 3))))))))
      (ps_ret (pv 1))), ?_⟩
      refine ⟨by decide, fun L hL => ?_⟩
      have s1 := same_upd (o := HO.lst []) hL
      refine ⟨_, rfl, a, rfl, ⟨_, s1.seqT ht⟩, for_tup (xs := xs) (fun i σ H' => ∃ v2 v3 : Option V, σ = [some (.ref a), some (.ref L), v2, v3] ∧ Same H H' ∧ H' L = some (.lst ((bodyVars (ds.take i)).map V.str)) ∧ (bodyVars (ds.take i)).length ≤ 10 * i) ⟨none, none, rfl, s1, upd_same, Nat.le_refl _⟩ (fun i σ H' _ p => by obtain ⟨_, _, _, z, _⟩ := p; exact z.seqT ht) ?_ ?_⟩
      · rintro i x σ H1 hx ⟨v2, v3, rfl, sm, hl, lb⟩
        have hil := (List.getElem?_eq_some_iff.mp hx).1
        obtain ⟨d, hdi, hdx⟩ := dats_get hds hx
        obtain ⟨b, ts, rfl, _, l4, _⟩ := atomB_parts (hat d (List.mem_of_getElem? hdi))
        obtain ⟨m2, _, hm2⟩ := okD_tup (hm _ (List.mem_of_getElem? hdi))
        obtain ⟨m3, _, hm3⟩ := okD_tup (hm2 (.tuple ts) (by simp))
        cases hdx with
        | @tup p ys _ hp hys =>
          cases hys with
          | cons h1 hr =>
            cases hr with
            | cons h2 hr2 =>
              cases hr2
              cases h2 with
              | @tup q zs _ hq hzs =>
                refine ⟨p, _, rfl, sm.seqT hp, rfl, _, _, rfl, _, _, rfl, rfl, ?_⟩
                refine ⟨_, rfl, .inl ⟨rfl, _, SqL.of hl⟩, _, rfl, q, zs, ts, m3, rfl, sm.seqT hq, Dats.same sm _ _ hzs, by omega, hm3, fun L2 H2 s2 hL2 h2 => ?_⟩
                have vl := vn_len ts
                refine ⟨L, L2, _, _, rfl, rfl, s2 _ _ hl, h2, ?_, ?_⟩
                · rw [List.length_map, List.length_map]
                  exact Nat.le_trans (show _ ≤ 1000 by omega) (by decide)
                · refine ⟨_, _, rfl, (sm.trans s2).set hL, ?_, ?_⟩
                  · rw [upd_same, bv_step hdi, List.map_append]
                    rfl
                  · rw [bv_step hdi, List.length_append]
                    show _ + (vnames ts).length ≤ _
                    omega
      · rintro σ H1 ⟨v2, v3, rfl, sm, hl, lb⟩
        rw [← el, List.take_length] at hl
        exact ⟨_, rfl, k L H1 sm hL hl⟩
def sp_known (K : PySem.W.Frag) : Sp := fun vs H Q _ => ∃ (a L : Addr) (xs : List V) (ds : List PyData) (n : Nat) (ks : List Str), vs = [.ref a, .ref L] ∧ SqT K H a xs ∧ Dats K H ds xs ∧ ds.length ≤ 10 ∧ (∀ d ∈ ds, okD n d) ∧ H L = some (.lst (ks.map V.str)) ∧ (∀ z ∈ ks, txtB capS z = true) ∧ ∀ H', Same H H' → Q (.bl (knownB ds ks)) H'
theorem ok_are_known (T : Txt K mg) : Def P w K mg base 4 "are_known" ["terms", "known"] (sp_known K) := by
  refine T.t_are_known.ok sc_are_known (fun vs H Q E h => ?_) fun f cdv A outer s H vs Q E hr h => ?_
  · obtain ⟨a, L, xs, ds, n, ks, rfl, _⟩ := h
    rfl
  · obtain ⟨a, L, xs, ds, n, ks, rfl, ht, hds, hl, hm, hL, hks, k⟩ := h
    refine ⟨_, (pss_one (ps_ret (pe_callB (call_allL rfl K) rfl T.b_all bt_all (pa_1 (pe_comp (N := ["variable", "known"]) (caps := [none, some 1]) rfl (by with_unfolding_all rfl) (pi_listK K (pe_def (ok_variables_in T) hr rfl (pa_1 (pv 0)))) (fun _ _ _ _ _ => (pg_name (i := 0) (show (["variable", "known"] : List Str).Nodup by decide +kernel) rfl (Or.inl rfl))) (fun _ _ _ _ _ => pf_nil) (fun _ _ _ _ _ => (pe_cmpR (op_inLD hr.units K) (pv 0) (pv 1) (by with_unfolding_all rfl)))))))), ?_⟩
    refine ⟨_, rfl, a, xs, ds, n, rfl, ht, hds, hl, hm, fun V1 H1 s1 hV0 hV => ?_⟩
    have vl := vn_len ds
    refine ⟨V1, rfl, ⟨_, SqL.of hV⟩, fun D hD => ?_⟩
    refine comp_by ((vnames ds).map V.str).length (fun i σ' H' => (∃ v, σ' = [v, some (.ref L)]) ∧ Same H1 H' ∧ H' D = some (.lst ((((vnames ds).take i).map fun z => decide (z ∈ ks)).map V.bl))) ⟨⟨_, rfl⟩, same_upd hD, upd_same⟩ (fun i σ' H' hi p => ?_) (fun σ' H' p => ⟨?_, ?_⟩) (fun i σ' H' hi p x H2 y => ?_)
    · obtain ⟨_, sm, _⟩ := p
      exact ⟨_, _, SqL.of (sm _ _ hV), List.getElem?_eq_getElem hi⟩
    · obtain ⟨_, sm, _⟩ := p
      exact ⟨_, SqL.of (sm _ _ hV), Nat.le_refl _⟩
    · obtain ⟨_, sm, e⟩ := p
      rw [List.length_map, List.take_length] at e
      refine ⟨D, _, rfl, SqL.of e, ?_⟩
      have := k H' (s1.trans sm)
      rw [List.all_map]
      exact this
    · obtain ⟨⟨v, rfl⟩, sm, e⟩ := p
      obtain ⟨rfl, hx⟩ := y
      have hx' := hx _ (SqL.of (sm _ _ hV))
      rw [List.getElem?_map] at hx'
      obtain ⟨z, hz, rfl⟩ := Option.map_eq_some_iff.mp hx'
      have oz := vn_ok z (List.mem_of_getElem? hz)
      refine ⟨_, rfl, _, rfl, .str z, ks.map .str, .str z (txtB_str cap_lt oz), .lst (SqL.of (sm _ _ (s1 _ _ hL))) (dats_strs hks), Nat.le_trans (depth_strs ks) (by decide), ?_⟩
      rw [any_str]
      refine ⟨_, e, ?_, ⟨_, rfl⟩, sm.set hD, ?_⟩
      · rw [List.length_map, List.length_map, List.length_take]
        exact small1000 (by omega)
      · rw [upd_same, List.take_succ, hz, List.map_append, List.map_append]
        rfl
theorem ok_is_rule (T : Txt K mg) : Def P w K mg base 8 "is_rule" ["thing"] (sp_is K ruleB) := by
  refine T.t_is_rule.ok sc_is_rule (fun vs H Q E h => ?_) fun f cdv A outer s H vs Q E hr h => ?_
  · obtain ⟨x, d, n, rfl, _⟩ := h
    rfl
  · obtain ⟨x, d, n, rfl, hd, hz, k⟩ := h
    refine ⟨_, (pss_4
      (ps_if (pt_not (pt_val (pe_def (ok_is_tuple_of_just T) hr rfl (pa_2 (pv 0) pe_int)))) (pss_one (ps_ret pe_bl)) pss_nil)
      (ps_if (PW.pt (pw_or (pt_not (pt_val (pe_def (ok_is_atom T) hr rfl (pa_1 (pe_ix (ix_tupK K) (pv 0) pe_int (fun _ _ => rfl)))))) (pw_or (pt_not (pt_val (pe_def (ok_are_atoms T) hr rfl (pa_1 (pe_ix (ix_tupK K) (pv 0) pe_int (fun _ _ => rfl)))))) (pw_or1 (pt_not (pt_val (pe_def (ok_are_choices T) hr rfl (pa_1 (pe_ix (ix_tupK K) (pv 0) pe_int (fun _ _ => rfl)))))))))) (pss_one (ps_ret pe_bl)) pss_nil)
      (ps_set (i := 1) sc_is_rule.nd rfl (Or.inr rfl) (pe_def (ok_variables_of_body T) hr rfl (pa_1 (pe_ix (ix_tupK K) (pv 0) pe_int (fun _ _ => rfl)))))
      (ps_ret (pe_and (pe_def (ok_are_known T) hr rfl (pa_2 (pe_ix (ix_tupK K) (pe_ix (ix_tupK K) (pv 0) pe_int (fun _ _ => rfl)) pe_int (fun _ _ => rfl)) (pv 1))) (pe_one (pe_callB (call_allL rfl K) rfl T.b_all bt_all (pa_1 (pe_comp (N := ["choice", "known"]) (caps := [none, some 1]) rfl (by with_unfolding_all rfl) (pi_tupK K (pe_ix (ix_tupK K) (pv 0) pe_int (fun _ _ => rfl))) (fun _ _ _ _ _ => (pg_name (i := 0) (show (["choice", "known"] : List Str).Nodup by decide +kernel) rfl (Or.inl rfl))) (fun _ _ _ _ _ => pf_nil) (fun _ _ _ _ _ => (pe_def (ok_are_known T) hr rfl (pa_2 (pe_slice (sl_tupA K) (pv 0) (po_some pe_int) po_none) (pv 1))))))))))), ?_⟩
    refine ⟨_, rfl, _, d, _, rfl, hd, _, rfl, ite2 (fun h1 => ?_) (fun h1 => ?_)⟩
    · have := k H (Same.refl H)
      rw [ruleB_no (by simpa using h1)] at this
      exact this
    · rcases dat_tup2 hd with ⟨a, xs, ds, rfl, rfl, ht, hds⟩ | ⟨ty, hn⟩
      · have l3 : ds.length = 3 := by
          have : tupJ (.tuple ds) 3 = true := by simpa using h1
          have := of_decide_eq_true (show decide ((ds.length : Int) = 3) = true from this)
          omega
        obtain ⟨d1, d2, d3, x1, x2, x3, rfl, rfl, e1, e2, e3⟩ := dats3 hds l3
        obtain ⟨m, _, hm⟩ := okD_tup hz
        have k' : ∀ H', Same H H' → Q (.bl (atomB d1 && (atomsB d2 && (choicesB d3 && (headKnown (bodyVars (parts d2)) d1 && (parts d3).all (chKnown (bodyVars (parts d2)))))))) H' := k
        refine ⟨_, rfl, _, _, _, _, rfl, rfl, ht, atI_nat (j := 0) rfl, _, d1, m, rfl, e1, hm _ (by simp), fun H1 s1 => ⟨_, rfl, ?_⟩⟩
        cases b1 : atomB d1 with
        | false =>
          refine iteT (iteT ?_)
          have := k' H1 s1
          rw [b1, Bool.false_and] at this
          exact this
        | true =>
          refine iteF ?_
          refine ⟨_, rfl, _, _, _, _, rfl, rfl, s1.seqT ht, atI_nat (j := 1) rfl, _, d2, m, rfl, Dat.same s1 _ _ e2, hm _ (by simp), fun H2 s2 => ⟨_, rfl, ?_⟩⟩
          have t2 := s1.trans s2
          cases b2 : atomsB d2 with
          | false =>
            refine iteT (iteT ?_)
            have := k' H2 t2
            rw [b1, b2, Bool.true_and, Bool.false_and] at this
            exact this
          | true =>
            refine iteF ?_
            refine ⟨_, rfl, _, _, _, _, rfl, rfl, t2.seqT ht, atI_nat (j := 2) rfl, _, d3, m, rfl, Dat.same t2 _ _ e3, hm _ (by simp), fun H3 s3 => ⟨_, rfl, ?_⟩⟩
            have t3 := t2.trans s3
            cases b3 : choicesB d3 with
            | false =>
              refine iteT ?_
              have := k' H3 t3
              rw [b1, b2, b3, Bool.true_and, Bool.true_and, Bool.false_and] at this
              exact this
            | true =>
              refine iteF ?_
              rw [b1, b2, b3, Bool.true_and, Bool.true_and, Bool.true_and] at k'
              obtain ⟨as, rfl, la, _⟩ := upD_parts b2
              obtain ⟨cs, rfl, lc, hcs⟩ := upD_parts b3
              obtain ⟨tb, ts, rfl, _, lts, _⟩ := atomB_parts b1
              have k' : ∀ H', Same H H' → Q (.bl (knownB ts (bodyVars as) && cs.all (chKnown (bodyVars as)))) H' := k'
              refine ⟨_, rfl, _, _, _, _, rfl, rfl, t3.seqT ht, atI_nat (j := 1) rfl, _, as, m, rfl, Dat.same t3 _ _ e2, hm _ (by simp), b2, fun L H4 s4 hL0 hL => ?_⟩
              have t4 := t3.trans s4
              obtain ⟨m2, _, hm2⟩ := okD_tup (hm (.tuple [tb, .tuple ts]) (by simp))
              obtain ⟨m3, _, hm3⟩ := okD_tup (hm2 (.tuple ts) (by simp))
              obtain ⟨m4, _, hm4⟩ := okD_tup (hm (.tuple cs) (by simp))
              cases e1 with
              | @tup p1 ys _ hp hys =>
                cases hys with
                | cons y1 hr1 =>
                  cases hr1 with
                  | cons y2 hr2 =>
                    cases hr2
                    cases y2 with
                    | @tup q1 zs _ hq hzs =>
                      cases e3 with
                      | @tup c1 ws _ hc hcw =>
                        have el := dats_len hcw
                        refine ⟨_, rfl, _, _, _, _, rfl, rfl, t4.seqT ht, atI_nat (j := 0) rfl, _, _, _, _, rfl, rfl, t4.seqT hp, atI_nat (j := 1) rfl, _, rfl, q1, L, zs, ts, m3, bodyVars as, rfl, t4.seqT hq, Dats.same t4 _ _ hzs, by omega, hm3, hL, bv_ok, fun H5 s5 => ⟨_, rfl, ?_⟩⟩
                        have t5 := t4.trans s5
                        cases b5 : knownB ts (bodyVars as) with
                        | false =>
                          refine iteF ?_
                          have := k' H5 t5
                          rw [b5, Bool.false_and] at this
                          exact this
                        | true =>
                          refine iteT ?_
                          refine ⟨_, rfl, _, _, _, _, rfl, rfl, t5.seqT ht, atI_nat (j := 2) rfl, c1, rfl, ⟨_, t5.seqT hc⟩, fun D hD => ?_⟩
                          refine comp_by ws.length (fun i σ' H' => (∃ v, σ' = [v, some (.ref L)]) ∧ Same H5 H' ∧ H' D = some (.lst (((cs.take i).map (chKnown (bodyVars as))).map V.bl))) ⟨⟨_, rfl⟩, same_upd hD, upd_same⟩ (fun i σ' H' hi p => ?_) (fun σ' H' p => ⟨?_, ?_⟩) (fun i σ' H' hi p x H6 y => ?_)
                          · obtain ⟨_, sm, _⟩ := p
                            exact ⟨_, _, (t5.trans sm).seqT hc, List.getElem?_eq_getElem hi⟩
                          · obtain ⟨_, sm, _⟩ := p
                            exact ⟨_, (t5.trans sm).seqT hc, Nat.le_refl _⟩
                          · obtain ⟨_, sm, e⟩ := p
                            rw [← el, List.take_length] at e
                            refine ⟨D, _, rfl, SqL.of e, ?_⟩
                            have := k' H' (t5.trans sm)
                            rw [b5, Bool.true_and] at this
                            rw [List.all_map]
                            exact this
                          · obtain ⟨⟨v, rfl⟩, sm, e⟩ := p
                            obtain ⟨rfl, hx⟩ := y
                            have t6 := t5.trans sm
                            obtain ⟨d, hdi, hdx⟩ := dats_get (Dats.same t6 _ _ hcw) (hx ws (t6.seqT hc))
                            obtain ⟨s0, a0, b0, rfl, _⟩ := choiceB_parts (hcs d (List.mem_of_getElem? hdi))
                            obtain ⟨m5, _, hm5⟩ := okD_tup (hm4 _ (List.mem_of_getElem? hdi))
                            cases hdx with
                            | @tup p2 us _ hp2 hus =>
                              cases hus with
                              | cons u1 ur =>
                                cases ur with
                                | cons u2 ur2 =>
                                  cases ur2 with
                                  | cons u3 ur3 =>
                                    cases ur3
                                    refine ⟨_, rfl, _, rfl, _, _, rfl, hp2, fun q2 H7 s7 hq2 => ?_⟩
                                    refine ⟨_, rfl, q2, L, _, [a0, b0], m5, bodyVars as, rfl, hq2, Dats.same s7 _ _ (.cons u2 (.cons u3 .nil)), by show 2 ≤ 10; decide, (fun d hd => hm5 d (by simp at hd ⊢; exact .inr hd)), (s5.trans (sm.trans s7)) _ _ hL, bv_ok, fun H8 s8 => ?_⟩
                                    have sm8 := sm.trans (s7.trans s8)
                                    refine ⟨_, (s7.trans s8) _ _ e, ?_, ⟨_, rfl⟩, sm8.set hD, ?_⟩
                                    · rw [List.length_map, List.length_map, List.length_take]
                                      exact small1000 (by omega)
                                    · rw [upd_same, List.take_succ, hdi, List.map_append, List.map_append]
                                      rfl
      · have : tupJ d 3 = false := tupJ_no hn
        exact absurd (by rw [this]; rfl) h1
end
end Wy
namespace Wy
open PySem L2
theorem len_fur : fur.length = 36 := by decide +kernel
theorem len_cap : capS.length = 26 := by decide +kernel
theorem fur26 : ∀ c ∈ fur.cps.toList.take 26, c ∈ small.cps.toList := by decide +kernel
theorem small_lt : ∀ c ∈ small.cps.toList, c < 0x110000 := by decide +kernel
theorem up_small : ∀ c ∈ small.cps.toList, (Txt.upper ⟨#[c]⟩).cps.toList.length = 1 ∧ ∀ d ∈ (Txt.upper ⟨#[c]⟩).cps.toList, d ∈ capS.cps.toList := by decide +kernel
theorem app_list (a b : Str) : (a ++ b).cps.toList = a.cps.toList ++ b.cps.toList := by
  show (a.cps ++ b.cps).toList = _
  rw [Array.toList_append]
theorem txtB_of {F z : Str} {c : Nat} {r : List Nat} (e : z.cps.toList = c :: r) (hl : r.length ≤ 11) (hc : c ∈ F.cps.toList) (hr : ∀ d ∈ r, d ∈ fur.cps.toList) : txtB F z = true := by
  have hz := len_list z
  rw [e, List.length_cons] at hz
  rw [txtB_ok (by omega) (by omega), e]
  show (decide (c ∈ F.cps.toList) && r.all fun d => decide (d ∈ fur.cps.toList)) = true
  rw [decide_eq_true hc, Bool.true_and, List.all_eq_true]
  exact fun d hd => decide_eq_true (hr d hd)
theorem cat_ones (ds : List Nat) : (catS (ds.map fun d => (⟨#[d]⟩ : Str))).cps.toList = ds := by
  unfold catS
  rw [List.toList_toArray, List.flatMap_map]
  induction ds with
  | nil => rfl
  | cons d r ih => rw [List.flatMap_cons, ih]; rfl
theorem sum_ones (ds : List Nat) : ((ds.map fun d => (⟨#[d]⟩ : Str)).map (·.length)).sum = ds.length := by
  induction ds with
  | nil => rfl
  | cons d r ih => rw [List.map_cons, List.map_cons, List.sum_cons, ih, List.length_cons]; show 1 + r.length = _; omega
def sgF (x : Int) : Nat := (atI fur.cps.toList x).getD 0
theorem sgF_at {x : Int} (h0 : 0 ≤ x) (h1 : x < 36) : atI fur.cps.toList x = some (sgF x) ∧ sgF x ∈ fur.cps.toList ∧ (x < 26 → sgF x ∈ small.cps.toList) := by
  have hl : fur.cps.toList.length = 36 := by rw [len_list, len_fur]
  obtain ⟨k, rfl⟩ := Int.eq_ofNat_of_zero_le h0
  have hk : k < fur.cps.toList.length := by omega
  have e := atI_nat (List.getElem?_eq_getElem hk)
  have e2 : sgF (k : Int) = fur.cps.toList[k] := by
    unfold sgF
    rw [e]
    rfl
  rw [e2]
  refine ⟨e, List.getElem_mem hk, fun h => fur26 _ ?_⟩
  have h26 : k < 26 := by omega
  exact List.mem_of_getElem? (i := k) (by rw [List.getElem?_take, if_pos h26, List.getElem?_eq_getElem hk])
theorem pick_pos {p : Int} : ∃ k : Int, atI [V.int 1, .int 5, .int 7, .int 11] (p / 12 % 4) = some (.int k) := by
  obtain ⟨v, hat, hv⟩ := atI_in (xs := [V.int 1, .int 5, .int 7, .int 11]) (i := p / 12 % 4) (Int.emod_nonneg _ (by decide)) (Int.emod_lt_of_pos _ (by decide))
  simp only [List.mem_cons, List.not_mem_nil, or_false] at hv
  rcases hv with rfl | rfl | rfl | rfl <;> exact ⟨_, hat⟩
section
variable {P : Program} {w : World} {K : PySem.W.Frag} {mg : Str → Option Value} {base : Heap}
def sp_stream : Sp := fun vs H Q _ => ∃ (c : Int) (n : Nat), vs = [.int c, .int n] ∧ n ≤ 30 ∧ ∀ L (xs : List Int) H', Same H H' → H' L = some (.lst (xs.map V.int)) → xs.length = n → Q (.ref L) H'
theorem ok__law_stream (T : Txt K mg) : Def P w K mg base 1 "_law_stream" ["_law_cell", "_law_many"] sp_stream := by
  refine T.t__law_stream.ok sc__law_stream (fun vs H Q E h => ?_) fun f cdv A outer s H vs Q E hr h => ?_
  · obtain ⟨c, n, rfl, _⟩ := h
    rfl
  · obtain ⟨c, n, rfl, hn, q⟩ := h
    refine ⟨_, (pss_4
      (ps_set (i := 2) sc__law_stream.nd rfl (Or.inl rfl) (pe_op op_add (pe_op op_mod (pv 0) pe_int) pe_int))
      (ps_set (i := 3) sc__law_stream.nd rfl (Or.inl rfl) (pe_lst pa_nil))
      (ps_for PassesOwn.never rfl (pi_range1 rfl T.b_range (pa_1 (pe_op op_add (pv 1) pe_int))) (pg_name (i := 4) sc__law_stream.nd rfl (Or.inl rfl)) (pss_2
      (ps_set (i := 2) sc__law_stream.nd rfl (Or.inl rfl) (pe_op op_mod (pe_op op_add (pe_op op_add (pe_op op_add (pe_op op_mul (pv 2) pe_int) (pe_op op_fdiv (pv 2) pe_int)) (pe_op op_mul pe_int (pv 4))) pe_int) pe_int))
      (ps_expr (pe_bm PySem.F.plainAttrs_list PySem.F.slot_list_append PySem.F.type_list_append mt_append (pv 3) (pa_1 (pe_op op_fdiv (pv 2) pe_int))))))
      (ps_ret (pe_slice (sl_listK K) (pv 3) (po_some pe_int) po_none))), ?_⟩
    refine ⟨_, rfl, _, _, rfl, rfl, (by show (0 : Int) < 2147483629; decide), _, _, rfl, rfl, ?_⟩
    refine ⟨by decide, fun L hL => ?_⟩
    have s1 := same_upd (o := HO.lst []) hL
    refine ⟨_, rfl, _, _, rfl, rfl, _, rfl, by omega, by omega, ?_⟩
    refine for_range (lo := 0) (n := n + 1) (fun i σ H' => ∃ (x : Int) (v4 : Option V) (xs : List Int), σ = [some (.int c), some (.int n), some (.int x), some (.ref L), v4] ∧ Same H H' ∧ H' L = some (.lst (xs.map V.int)) ∧ xs.length = i) ⟨_, none, [], rfl, s1, upd_same, rfl⟩ ?_ ?_
    · rintro i σ H1 hi ⟨x, v4, xs, rfl, sm, hl, lx⟩
      refine ⟨_, rfl, _, _, rfl, rfl, .inr ⟨by decide, by decide⟩, _, rfl, _, _, rfl, rfl, ⟨by decide, by decide⟩, _, _, rfl, rfl, _, rfl, _, _, rfl, rfl, .inl ⟨by decide, by decide⟩, _, _, rfl, rfl, _, _, rfl, rfl, _, _, rfl, rfl, (by show (0 : Int) < 2147483647; decide), ?_⟩
      refine ⟨_, rfl, .inl ⟨rfl, _, SqL.of hl⟩, _, rfl, _, _, rfl, rfl, ⟨by decide, by decide⟩, _, _, _, rfl, rfl, hl, by rw [List.length_map, lx]; exact small1000 (by omega), ?_⟩
      exact ⟨_, _, xs ++ [_], rfl, sm.set hL, by rw [upd_same, List.map_append]; rfl, by rw [List.length_append, lx]; rfl⟩
    · rintro σ H1 ⟨x, v4, xs, rfl, sm, hl, lx⟩
      refine ⟨_, rfl, _, rfl, _, _, rfl, SqL.of hl, fun p hp => ?_⟩
      have e : cutV (xs.map V.int) (some 1) none = (xs.drop 1).map V.int := by
        unfold cutV
        have e1 := HT.sIx_nat (xs.map V.int).length 0 1
        rw [show (((1 : Nat)) : Int) = 1 from rfl] at e1
        rw [e1, HT.sIx_none, List.length_map, List.map_drop, List.take_of_length_le (by rw [List.length_drop, List.length_map]; omega)]
        congr 1
        omega
      rw [e]
      exact q p _ _ (sm.trans (same_upd hp)) upd_same (by rw [List.length_drop]; omega)
def sp_words : Sp := fun vs H Q _ => ∃ (c p : Int), vs = [.int c, .int p, .int 3] ∧
  ∀ q (z0 z1 z2 : Str) H', Same H H' → H' q = some (.lst [.str z0, .str z1, .str z2]) → txtB small z0 = true → txtB small z1 = true → txtB small z2 = true → Q (.ref q) H'
theorem ok__law_words (T : Txt K mg) : Def P w K mg base 1 "_law_words" ["_law_cell", "_law_place", "_law_many"] sp_words := by
  refine T.t__law_words.ok sc__law_words (fun vs H Q E h => ?_) fun f cdv A outer s H vs Q E hr h => ?_
  · obtain ⟨c, p, rfl, _⟩ := h
    rfl
  · obtain ⟨c, p, rfl, k⟩ := h
    have lfur : fur.length ≤ sizeLine := by rw [len_fur]; decide
    refine ⟨_, (pss_7
      (ps_set (i := 3) sc__law_words.nd rfl (Or.inr rfl) pe_str)
      (ps_set (i := 4) sc__law_words.nd rfl (Or.inr rfl) (pe_comp (N := ["_law_k", "_law_cell"]) (caps := [none, some 0]) rfl (by with_unfolding_all rfl) (pi_range1 rfl T.b_range (pa_1 (pe_op op_add pe_int (pe_op op_mod (pv 0) pe_int)))) (fun _ _ _ _ _ => (pg_name (i := 0) (show (["_law_k", "_law_cell"] : List Str).Nodup by decide +kernel) rfl (Or.inl rfl))) (fun _ _ _ _ _ => pf_nil) (fun _ _ _ _ _ => (pe_op op_mod (pe_op op_add (pe_op op_fdiv (pv 1) (pe_op op_add (pv 0) pe_int)) (pe_op op_mul pe_int (pv 0))) pe_int))))
      (ps_asg (pe_op op_mod (pe_ix (ix_listK K) (pv 4) pe_int (fun _ _ => rfl)) pe_int) (pg_sub (pv 4) pe_int set_list))
      (ps_set (i := 5) sc__law_words.nd rfl (Or.inr rfl) (pe_op op_mod (pv 1) (pe_callB (call_lenK K) rfl T.b_len bt_len (pa_1 (pv 4)))))
      (ps_set (i := 6) sc__law_words.nd rfl (Or.inl rfl) (pe_lst pa_nil))
      (ps_for PassesOwn.never rfl (pi_range1 rfl T.b_range (pa_1 (pv 2))) (pg_name (i := 7) sc__law_words.nd rfl (Or.inl rfl)) (pss_2
      (ps_set (i := 8) sc__law_words.nd rfl (Or.inr rfl) (pe_op op_mod (pe_op op_add (pe_ix (ix_listK K) (pv 4) (pv 5) (fun _ _ => rfl)) (pe_op op_mul (pv 7) (pe_ix (ix_listK K) (pe_lst (pa_4 pe_int pe_int pe_int pe_int)) (pe_op op_mod (pe_op op_fdiv (pv 1) pe_int) pe_int) (fun _ _ => rfl)))) (pe_ix (ix_listK K) (pe_lst (pa_2 pe_int pe_int)) (pe_callTy call_int1 rfl T.b_int bt_int (pa_1 (pe_cmpR op_eq (pv 5) pe_int (nomark _)))) (fun _ _ => rfl))))
      (ps_expr (pe_bm PySem.F.plainAttrs_list PySem.F.slot_list_append PySem.F.type_list_append mt_append (pv 6) (pa_1 (pe_bm PySem.F.plainAttrs_str PySem.F.slot_str_join PySem.F.type_str_join (mt_joinK K) pe_str (pa_1 (pe_comp (N := ["_law_j", "_law_signs", "_law_turned", "_law_at", "_law_base"]) (caps := [none, some 3, some 8, some 5, some 4]) rfl (by with_unfolding_all rfl) (pi_range1 rfl T.b_range (pa_1 (pe_callB (call_lenK K) rfl T.b_len bt_len (pa_1 (pv 4))))) (fun _ _ _ _ _ => (pg_name (i := 0) (show (["_law_j", "_law_signs", "_law_turned", "_law_at", "_law_base"] : List Str).Nodup by decide +kernel) rfl (Or.inl rfl))) (fun _ _ _ _ _ => pf_nil) (fun _ _ _ _ _ => (pe_ix ix_str (pv 1) (pe_ifExp (pt_cmpR op_eq (pv 0) (pv 3) (nomark _)) (pv 2) (pe_ix (ix_listK K) (pv 4) (pv 0) (fun _ _ => rfl))) (fun _ _ => rfl)))))))))))
      (ps_ret (pv 6))), ?_⟩
    have m0 := Int.emod_nonneg c (show (12 : Int) ≠ 0 by decide)
    have m1 := Int.emod_lt_of_pos c (show (0 : Int) < 12 by decide)
    refine ⟨_, rfl, _, _, rfl, rfl, (by show (0 : Int) < 12; decide), _, _, rfl, rfl, _, rfl, by omega, by omega, fun D hD => ?_⟩
    refine comp_by (1 + c % 12).toNat (fun i σ' H' => (∃ v, σ' = [v, some (.int c)]) ∧ Same H H' ∧ ∃ bs : List Int, H' D = some (.lst (bs.map V.int)) ∧ bs.length = i ∧ ∀ b ∈ bs, 0 ≤ b ∧ b < 36) ⟨⟨_, rfl⟩, same_upd hD, [], upd_same, rfl, fun _ z => nomatch z⟩ (fun i σ' H' hi p => hi) (fun σ' H' p => ⟨Nat.le_refl _, ?_⟩) (fun i σ' H' hi p x H2 y => ?_)
    · obtain ⟨_, s1, bs, hb, lb, ob⟩ := p
      obtain ⟨b0, br, rfl⟩ : ∃ b0 br, bs = b0 :: br := by
        cases bs with
        | nil => simp at lb; omega
        | cons b0 br => exact ⟨b0, br, rfl⟩
      refine ⟨_, rfl, _, _, _, _, rfl, rfl, SqL.of hb, atI_nat (j := 0) rfl, _, _, rfl, rfl, (by show (0 : Int) < 26; decide), ?_⟩
      refine ⟨_, rfl, D, _, 0, 0, rfl, rfl, hb, (by unfold ixN; rw [if_pos (Int.le_refl 0), if_pos (by rw [List.length_map, List.length_cons]; omega)]; rfl), ?_⟩
      have q0 := Int.emod_nonneg b0 (show (26 : Int) ≠ 0 by decide)
      have q1 := Int.emod_lt_of_pos b0 (show (0 : Int) < 26 by decide)
      have s2 : Same H (upd H' D (.lst (((b0 % 26) :: br).map V.int))) := s1.set hD
      have hb2 : upd H' D (.lst (((b0 % 26) :: br).map V.int)) D = some (.lst (((b0 % 26) :: br).map V.int)) := upd_same
      have ob2 : ∀ b ∈ (b0 % 26) :: br, 0 ≤ b ∧ b < 36 := fun b hb => by
        rcases List.mem_cons.mp hb with rfl | hb
        · omega
        · exact ob b (List.mem_cons_of_mem _ hb)
      have lb2 : ((b0 % 26) :: br).length = (1 + c % 12).toNat := lb
      have f26 : ∀ b, ((b0 % 26) :: br)[0]? = some b → b < 26 := fun b hb => by
        cases hb
        exact q1
      rw [show (List.map V.int (b0 :: br)).set 0 ((fun i j => V.int (i % j)) b0 26) = ((b0 % 26) :: br).map V.int from rfl]
      generalize upd H' D (.lst (((b0 % 26) :: br).map V.int)) = G at *
      generalize (b0 % 26) :: br = bs at *
      refine ⟨_, rfl, _, rfl, _, _, rfl, .inl ⟨_, SqL.of hb2, rfl⟩, _, _, rfl, rfl, by rw [List.length_map]; omega, ?_⟩
      rw [List.length_map]
      have a0 := Int.emod_nonneg p (show (bs.length : Int) ≠ 0 by omega)
      have a1 := Int.emod_lt_of_pos p (show (0 : Int) < (bs.length : Int) by omega)
      refine ⟨by decide, fun q hq => ?_⟩
      refine ⟨_, rfl, _, rfl, by decide, by decide, for_range (lo := 0) (n := 3) (fun i σ H' => ∃ (v1 v2 : Option V) (zs : List Str), σ = [some (.int c), some (.int p), some (.int 3), some (.str fur), some (.ref D), some (.int (p % (bs.length : Int))), some (.ref q), v1, v2] ∧ Same G H' ∧ H' q = some (.lst (zs.map V.str)) ∧ zs.length = i ∧ ∀ z ∈ zs, txtB small z = true)
        ⟨none, none, [], rfl, same_upd hq, upd_same, rfl, fun _ z => nomatch z⟩ ?_ ?_⟩
      · rintro i σ H1 hi ⟨v1, v2, zs, rfl, s3, hz, lz, oz⟩
        have hb3 := s3 _ _ hb2
        have ia : (p % (bs.length : Int)).toNat < bs.length := by omega
        have ata : atI (bs.map V.int) (p % (bs.length : Int)) = some (V.int bs[(p % (bs.length : Int)).toNat]) := by
          have := atI_nat (xs := bs.map V.int) (j := (p % (bs.length : Int)).toNat) (by rw [List.getElem?_map, List.getElem?_eq_getElem ia]; rfl)
          rwa [Int.toNat_of_nonneg a0] at this
        obtain ⟨pk, hpk⟩ := pick_pos (p := p)
        refine ⟨_, rfl, _, rfl, _, _, _, _, rfl, rfl, SqL.of hb3, ata, _, rfl, by show 4 ≤ sizeLine; decide, fun r hr' => ?_⟩
        have s31 := same_upd (o := HO.lst [V.int 1, .int 5, .int 7, .int 11]) hr'
        refine ⟨_, rfl, _, _, rfl, rfl, ⟨by decide, by decide⟩, _, _, rfl, rfl, (by show (0 : Int) < 4; decide), _, _, _, _, rfl, rfl, SqL.of upd_same, hpk, _, _, rfl, rfl, .inl ⟨by omega, by omega⟩, _, _, rfl, rfl, by show 2 ≤ sizeLine; decide, fun r2 hr2 => ?_⟩
        have s32 := same_upd (o := HO.lst [V.int 36, .int 26]) hr2
        obtain ⟨md, hmd, mp, m36, m26⟩ : ∃ md : Int, atI [V.int 36, .int 26] (if decide (V.int (p % (bs.length : Int)) = V.int 0) = true then 1 else 0) = some (.int md) ∧ 0 < md ∧ md ≤ 36 ∧ (p % (bs.length : Int) = 0 → md = 26) := by
          by_cases e : p % (bs.length : Int) = 0
          · rw [e]
            exact ⟨26, rfl, by decide, by decide, fun _ => rfl⟩
          · rw [if_neg (by rw [decide_eq_false (fun z => e (by injection z))]; exact Bool.false_ne_true)]
            exact ⟨36, rfl, by decide, by decide, fun z => absurd z e⟩
        refine ⟨_, rfl, rfl, .inr ⟨_, rfl, _, _, _, _, rfl, rfl, SqL.of upd_same, hmd, _, _, rfl, rfl, mp, ?_⟩⟩
        have t0 := Int.emod_nonneg (bs[(p % (bs.length : Int)).toNat] + (0 + (i : Int)) * pk) (show md ≠ 0 by omega)
        have t1' := Int.emod_lt_of_pos (bs[(p % (bs.length : Int)).toNat] + (0 + (i : Int)) * pk) mp
        have t1 : (bs[(p % (bs.length : Int)).toNat] + (0 + (i : Int)) * pk) % md < 36 := by omega
        have t26 : (p % (bs.length : Int)) = 0 → (bs[(p % (bs.length : Int)).toNat] + (0 + (i : Int)) * pk) % md < 26 := fun z => by
          have := m26 z
          omega
        have s4 := s31.trans s32
        have hz2 := s4 _ _ hz
        have hb3 := s4 _ _ hb3
        refine ⟨_, rfl, .inl ⟨rfl, _, SqL.of hz2⟩, rfl, _, rfl, _, _, rfl, .inl ⟨_, SqL.of hb3, rfl⟩, ?_⟩
        rw [List.length_map]
        refine ⟨_, rfl, by omega, by omega, fun E hE => ?_⟩
        refine comp_by bs.length (fun j σ' H' => (∃ v, σ' = [v, some (.str fur), some (.int ((bs[(p % (bs.length : Int)).toNat] + (0 + (i : Int)) * pk) % md)), some (.int (p % (bs.length : Int))), some (.ref D)]) ∧ Same (upd (upd H1 r (.lst [V.int 1, .int 5, .int 7, .int 11])) r2 (.lst [V.int 36, .int 26])) H' ∧ ∃ ds : List Nat, H' E = some (.lst ((ds.map fun d => (⟨#[d]⟩ : Str)).map V.str)) ∧ ds.length = j ∧ (∀ d ∈ ds, d ∈ fur.cps.toList) ∧ ∀ d, ds[0]? = some d → d ∈ small.cps.toList) ⟨⟨_, rfl⟩, same_upd hE, [], upd_same, rfl, (fun _ z => nomatch z), fun _ z => nomatch z⟩ (fun j σ' H' hj p => hj) (fun σ' H' p => ⟨Nat.le_refl _, ?_⟩) (fun j σ' H' hj p x H3 y => ?_)
        · obtain ⟨_, s5, ds, hd, ld, od, od0⟩ := p
          have hz3 := s5 _ _ hz2
          refine ⟨E, ds.map fun d => (⟨#[d]⟩ : Str), rfl, rfl, SqL.of hd, by rw [sum_ones]; omega, ?_⟩
          refine ⟨_, _, _, rfl, rfl, hz3, by rw [List.length_map, lz]; exact small1000 (by omega), ?_⟩
          refine ⟨_, _, zs ++ [catS (ds.map fun d => (⟨#[d]⟩ : Str))], rfl, ((s3.trans s4).trans s5).set hq, by rw [upd_same, List.map_append]; rfl, by rw [List.length_append, lz]; rfl, fun z hz' => ?_⟩
          rcases List.mem_append.mp hz' with hz' | hz'
          · exact oz z hz'
          · rw [List.mem_singleton.mp hz']
            match ds, ld, od, od0 with
            | d :: r, ld, od, od0 => exact txtB_of (cat_ones (d :: r)) (by rw [List.length_cons] at ld; omega) (od0 d rfl) fun x hx => od x (List.mem_cons_of_mem _ hx)
            | [], ld, _, _ => exact absurd ld (by simp; omega)
        · obtain ⟨⟨v, rfl⟩, s5, ds, hd, ld, od, od0⟩ := p
          obtain ⟨rfl, rfl⟩ := y
          have fin : ∀ x : Int, 0 ≤ x → x < 36 → (j = 0 → x < 26) → (∀ d ∈ ds ++ [sgF x], d ∈ fur.cps.toList) ∧ ∀ d, (ds ++ [sgF x])[0]? = some d → d ∈ small.cps.toList := fun x x0 x1 x26 => by
            obtain ⟨_, g1, g2⟩ := sgF_at x0 x1
            refine ⟨fun d hd' => ?_, fun d hd' => ?_⟩
            · rcases List.mem_append.mp hd' with hd' | hd'
              · exact od d hd'
              · rw [List.mem_singleton.mp hd']
                exact g1
            · rcases Nat.eq_zero_or_pos j with j0 | j0
              · have : ds = [] := List.length_eq_zero_iff.mp (by omega)
                subst this
                cases hd'
                exact g2 (x26 j0)
              · rw [List.getElem?_append_left (by omega)] at hd'
                exact od0 d hd'
          have bj : j < bs.length := hj
          have atb : atI (bs.map V.int) (0 + (j : Int)) = some (V.int bs[j]) := by
            rw [Int.zero_add]
            exact atI_nat (by rw [List.getElem?_map, List.getElem?_eq_getElem bj]; rfl)
          refine ⟨_, rfl, _, rfl, _, rfl, rfl, _, rfl, ite2 (fun h5 => ?_) (fun h5 => ?_)⟩
          · have e5 : (0 + (j : Int)) = (p % (bs.length : Int)) := by
              have := of_decide_eq_true h5
              injection this
            obtain ⟨f1, f2⟩ := fin ((bs[(p % (bs.length : Int)).toNat] + (0 + (i : Int)) * pk) % md) t0 t1 fun z => t26 (by omega)
            refine ⟨_, rfl, _, _, _, rfl, rfl, lfur, (sgF_at t0 t1).1, ?_⟩
            exact ⟨_, hd, by rw [List.length_map, List.length_map, ld]; exact small1000 (by omega), ⟨_, rfl⟩, s5.set hE, ds ++ [sgF ((bs[(p % (bs.length : Int)).toNat] + (0 + (i : Int)) * pk) % md)], by rw [upd_same, List.map_append, List.map_append]; rfl, by rw [List.length_append, ld]; rfl, f1, f2⟩
          · obtain ⟨b0', b1'⟩ := ob2 _ (List.getElem_mem bj)
            obtain ⟨f1, f2⟩ := fin bs[j] b0' b1' fun z => f26 _ (by subst z; exact List.getElem?_eq_getElem bj)
            refine ⟨_, rfl, _, rfl, _, _, _, _, rfl, rfl, SqL.of (s5 _ _ hb3), atb, _, _, _, rfl, rfl, lfur, (sgF_at b0' b1').1, ?_⟩
            exact ⟨_, hd, by rw [List.length_map, List.length_map, ld]; exact small1000 (by omega), ⟨_, rfl⟩, s5.set hE, ds ++ [sgF bs[j]], by rw [upd_same, List.map_append, List.map_append]; rfl, by rw [List.length_append, ld]; rfl, f1, f2⟩
      · rintro σ H1 ⟨v1, v2, zs, rfl, s3, hz, lz, oz⟩
        match zs, lz, oz, hz with
        | [z0, z1, z2], _, oz, hz => exact ⟨_, rfl, k q z0 z1 z2 H1 (s2.trans s3) hz (oz _ (by simp)) (oz _ (by simp)) (oz _ (by simp))⟩
    · obtain ⟨⟨v, rfl⟩, s1, bs, hb, lb, ob⟩ := p
      obtain ⟨rfl, rfl⟩ := y
      refine ⟨_, rfl, _, rfl, _, _, rfl, rfl, _, _, rfl, rfl, ⟨by omega, by omega⟩, _, rfl, _, _, rfl, rfl, .inl ⟨by decide, by decide⟩, _, _, rfl, rfl, _, _, rfl, rfl, (by show (0 : Int) < 36; decide), ?_⟩
      refine ⟨_, hb, by rw [List.length_map, lb]; exact small1000 (by omega), ⟨_, rfl⟩, s1.set hD, bs ++ [_], by rw [upd_same, List.map_append]; rfl, by rw [List.length_append, lb]; rfl, fun x hx => ?_⟩
      rcases List.mem_append.mp hx with hx | hx
      · exact ob x hx
      · rw [List.mem_singleton.mp hx]
        exact ⟨Int.emod_nonneg _ (by decide), Int.emod_lt_of_pos _ (by decide)⟩
def sp_capital : Sp := fun vs H Q _ => ∃ z : Str, vs = [.str z] ∧ txtB small z = true ∧ ∀ y, txtB capS y = true → Q (.str y) H
theorem ok__law_capital (T : Txt K mg) : Def P w K mg base 1 "_law_capital" ["_law_word"] sp_capital := by
  refine T.t__law_capital.ok sc__law_capital (fun vs H Q E h => ?_) fun f cdv A outer s H vs Q E hr h => ?_
  · obtain ⟨z, rfl, _⟩ := h
    rfl
  · obtain ⟨z, rfl, hz, q⟩ := h
    obtain ⟨h1, h2, c, r, e, hc, hrr⟩ := txtB_parts hz
    have zs : z.length ≤ sizeLine := Nat.le_trans h2 (by decide)
    obtain ⟨ul, um⟩ := up_small c hc
    obtain ⟨d, eu⟩ : ∃ d, (Txt.upper ⟨#[c]⟩).cps.toList = [d] := by
      cases eu : (Txt.upper ⟨#[c]⟩).cps.toList with
      | nil => rw [eu] at ul; cases ul
      | cons d r =>
        rw [eu] at ul
        have : r = [] := List.length_eq_zero_iff.mp (by simpa using ul)
        exact ⟨d, by rw [this]⟩
    refine ⟨_, (pss_one (ps_ret (pe_op op_add_str (pe_bm0 PySem.F.plainAttrs_str PySem.F.slot_str_upper PySem.F.type_str_upper mt_upper (pe_ix ix_str (pv 0) pe_int (fun _ _ => rfl))) (pe_slice sl_str (pv 0) (po_some pe_int) po_none)))), ?_⟩
    refine ⟨_, rfl, _, _, c, rfl, rfl, zs, (by rw [e]; exact atI_nat (j := 0) rfl), rfl, _, rfl, rfl, by show 1 ≤ 100; decide, _, rfl, _, rfl, _, rfl, zs, _, _, rfl, rfl, ?_, q _ ?_⟩
    · have l1 := cutS_length z (some 1) none
      rw [← len_list (Txt.upper _), ul]
      exact Nat.le_trans (show 1 + _ ≤ 100 by omega) (by decide)
    · refine txtB_of (c := d) (r := r) ?_ ?_ (um d (by rw [eu]; simp)) hrr
      · rw [app_list, eu, cut_tail h1, e]
        rfl
      · have := len_list z
        rw [e, List.length_cons] at this
        omega
end
end Wy
namespace Wy
open PySem L2
theorem small_cap : ∀ c ∈ small.cps.toList, c ∉ capS.cps.toList := by decide +kernel
theorem small_no {z : Str} (h : txtB small z = true) : txtB capS z = false := by
  obtain ⟨h1, h2, c, r, e, hc, _⟩ := txtB_parts h
  rw [txtB_ok h1 h2, e]
  show (decide (c ∈ capS.cps.toList) && _) = false
  rw [decide_eq_false (small_cap c hc), Bool.false_and]
theorem cap_no {z : Str} (h : txtB capS z = true) : txtB small z = false := by
  cases e : txtB small z with
  | false => rfl
  | true => rw [small_no e] at h; cases h
def GK : Key → Prop
  | .inl _ => True
  | .inr z => txtB small z = true ∨ txtB capS z = true
def keyD : Key → PyData
  | .inr z => .str z
  | .inl i => .int i
def isV : Key → Bool
  | .inr z => txtB capS z
  | .inl _ => false
theorem GK.dat {K : PySem.W.Frag} {H : Hp} : ∀ {t : Key}, GK t → Dat K H (keyD t) (kV t)
  | .inl i, _ => .int i
  | .inr z, h => .str z (h.elim (txtB_str small_lt) (txtB_str cap_lt))
theorem GK.tm : ∀ {t : Key}, GK t → termB (keyD t) = true
  | .inl i, _ => rfl
  | .inr z, h => by
    show (valD (.str z) || txtB capS z) = true
    rcases h with h | h
    · rw [show valD (.str z) = true from h]; rfl
    · rw [h, Bool.or_true]
theorem GK.len {z : Str} (h : GK (.inr z)) : 1 ≤ z.length ∧ z.length ≤ 12 := h.elim (fun h => ⟨(txtB_parts h).1, (txtB_parts h).2.1⟩) fun h => ⟨(txtB_parts h).1, (txtB_parts h).2.1⟩
theorem oD_str {n : Nat} {z : Str} (h : z.length ≤ 200) : okD n (.str z) := by cases n <;> exact h
theorem oD_int {n : Nat} {i : Int} : okD n (.int i) := by cases n <;> exact True.intro
theorem GK.okD (n : Nat) : ∀ {t : Key}, GK t → okD n (keyD t)
  | .inl i, _ => oD_int
  | .inr z, h => oD_str (Nat.le_trans h.len.2 (by decide))
section
variable {P : Program} {w : World} {K : PySem.W.Frag} {mg : Str → Option Value} {base : Heap}
structure Ws (K : PySem.W.Frag) (H : Hp) (a : Addr) : Prop where
  ex : ∃ z0 z1 z2 : Str, SqL K H a [.str z0, .str z1, .str z2] ∧ txtB small z0 = true ∧ txtB small z1 = true ∧ txtB small z2 = true
theorem Ws.same {H H' : Hp} {a : Addr} (h : Ws K H a) (s : Same H H') : Ws K H' a := by
  obtain ⟨z0, z1, z2, h1, r⟩ := h.ex
  exact ⟨z0, z1, z2, s.seq h1, r⟩
theorem Ws.at {H : Hp} {a : Addr} (h : Ws K H a) (x : Int) : ∃ (xs : List V) (z : Str), SqL K H a xs ∧ atI xs (x % 3) = some (.str z) ∧ txtB small z = true := by
  obtain ⟨z0, z1, z2, h1, g0, g1, g2⟩ := h.ex
  obtain ⟨v, hat, hv⟩ := atI_in (xs := [V.str z0, .str z1, .str z2]) (i := x % 3) (Int.emod_nonneg _ (by decide)) (Int.emod_lt_of_pos _ (by decide))
  simp only [List.mem_cons, List.not_mem_nil, or_false] at hv
  rcases hv with rfl | rfl | rfl
  · exact ⟨_, _, h1, hat, g0⟩
  · exact ⟨_, _, h1, hat, g1⟩
  · exact ⟨_, _, h1, hat, g2⟩
def sp_term (K : PySem.W.Frag) : Sp := fun vs H Q _ => ∃ (x c : Int) (W : Addr), vs = [.int x, .int c, .ref W] ∧ Ws K H W ∧ ∀ t H', Same H H' → GK t → Q (kV t) H'
theorem ok__law_term (T : Txt K mg) : Def P w K mg base 2 "_law_term" ["_law_x", "_law_cell", "_law_words_here"] (sp_term K) := by
  refine T.t__law_term.ok sc__law_term (fun vs H Q E h => ?_) fun f cdv A outer s H vs Q E hr h => ?_
  · obtain ⟨x, c, W, rfl, _⟩ := h
    rfl
  · obtain ⟨x, c, W, rfl, hW, q⟩ := h
    obtain ⟨xs, z, h1, hat, gz⟩ := hW.at (x / 4)
    refine ⟨_, (pss_3
      (ps_if (pt_cmpR op_lt (pe_op op_mod (pv 0) pe_int) pe_int (nomark _)) (pss_one (ps_ret (pe_def (ok__law_capital T) hr rfl (pa_1 (pe_ix (ix_listK K) (pv 2) (pe_op op_mod (pe_op op_fdiv (pv 0) pe_int) pe_int) (fun _ _ => rfl)))))) pss_nil)
      (ps_if (pt_cmpR op_eq (pe_op op_mod (pv 0) pe_int) pe_int (nomark _)) (pss_one (ps_ret (pe_ix (ix_listK K) (pv 2) (pe_op op_mod (pe_op op_fdiv (pv 0) pe_int) pe_int) (fun _ _ => rfl)))) pss_nil)
      (ps_ret (pe_op op_mul (pe_ix (ix_listK K) (pe_lst (pa_2 pe_int (pe_un un_neg pe_int))) (pe_op op_mod (pe_op op_fdiv (pv 0) pe_int) pe_int) (fun _ _ => rfl)) (pe_op op_mod (pv 1) (pe_op op_pow pe_int pe_int))))), ?_⟩
    refine ⟨_, rfl, _, _, rfl, rfl, (by show (0 : Int) < 4; decide), _, _, rfl, rfl, _, rfl, ite2 (fun _ => ?_) (fun _ => ?_)⟩
    · exact ⟨_, rfl, _, rfl, _, _, rfl, rfl, ⟨by decide, by decide⟩, _, _, rfl, rfl, (by show (0 : Int) < 3; decide), _, _, _, _, rfl, rfl, h1, hat, z, rfl, gz, fun y hy => q (.inr y) _ (Same.refl _) (.inr hy)⟩
    refine ⟨_, rfl, _, _, rfl, rfl, (by show (0 : Int) < 4; decide), rfl, _, rfl, ite2 (fun _ => ?_) (fun _ => ?_)⟩
    · exact ⟨_, rfl, _, rfl, _, _, rfl, rfl, ⟨by decide, by decide⟩, _, _, rfl, rfl, (by show (0 : Int) < 3; decide), _, _, _, _, rfl, rfl, h1, hat, q (.inr z) _ (Same.refl _) (.inl gz)⟩
    · refine ⟨_, rfl, by show 2 ≤ sizeLine; decide, fun p hp => ?_⟩
      obtain ⟨v, hat2, hv⟩ := atI_in (xs := [V.int 1, .int (-1)]) (i := x / 4 % 2) (Int.emod_nonneg _ (by decide)) (Int.emod_lt_of_pos _ (by decide))
      obtain ⟨n, rfl, hn⟩ : ∃ n : Int, v = .int n ∧ -(2 ^ 64) < n ∧ n < 2 ^ 64 := by
        simp only [List.mem_cons, List.not_mem_nil, or_false] at hv
        rcases hv with rfl | rfl
        · exact ⟨_, rfl, by decide⟩
        · exact ⟨_, rfl, by decide⟩
      exact ⟨_, rfl, _, _, rfl, rfl, ⟨by decide, by decide⟩, _, _, rfl, rfl, (by show (0 : Int) < 2; decide), _, _, _, _, rfl, rfl, SqL.of upd_same, hat2, _, rfl, _, _, rfl, rfl, ⟨by decide, by decide, by decide⟩, _, _, rfl, rfl, (by show (0 : Int) < 10 ^ 30; decide), _, _, rfl, rfl, .inl hn, q (.inl _) _ (same_upd hp) trivial⟩
def AV (K : PySem.W.Frag) (H : Hp) (x : V) (e : Str × List Key) : Prop := ∃ p q, x = .ref p ∧ SqT K H p [.str e.1, .ref q] ∧ SqT K H q (e.2.map kV)
theorem AV.same {H H' : Hp} {x : V} {e : Str × List Key} (h : AV K H x e) (s : Same H H') : AV K H' x e := by
  obtain ⟨p, q, e1, h1, h2⟩ := h
  exact ⟨p, q, e1, s.seqT h1, s.seqT h2⟩
structure AOk (e : Str × List Key) : Prop where
  tb : txtB small e.1 = true
  ks : ∀ t ∈ e.2, GK t
  len : e.2.length ≤ 4
def sp_atom (K : PySem.W.Frag) : Sp := fun vs H Q _ => ∃ (X W : Addr) (xs : List Int) (c : Int), vs = [.ref X, .int c, .ref W] ∧ SqL K H X (xs.map V.int) ∧ xs.length = 6 ∧ Ws K H W ∧ ∀ p q e H', Same H H' → H p = none → H q = none → H' p = some (.tup [.str e.1, .ref q]) → H' q = some (.tup (e.2.map kV)) → AOk e → Q (.ref p) H'
theorem ok__law_atom (T : Txt K mg) : Def P w K mg base 3 "_law_atom" ["_law_xs", "_law_cell", "_law_words_here"] (sp_atom K) := by
  refine T.t__law_atom.ok sc__law_atom (fun vs H Q E h => ?_) fun f cdv A outer s H vs Q E hr h => ?_
  · obtain ⟨X, W, xs, c, rfl, _⟩ := h
    rfl
  · obtain ⟨X, W, xs, c, rfl, hX, lx, hW, q⟩ := h
    have at1 : ∀ j : Nat, j < 6 → atI (xs.map V.int) (j : Int) = some (.int (xs.getD j 0)) := fun j hj => atI_nat (by rw [List.getElem?_map, List.getElem?_eq_getElem (by omega), List.getD_eq_getElem?_getD, List.getElem?_eq_getElem (by omega)]; rfl)
    obtain ⟨ws, tb, hw, hat, gtb⟩ := hW.at (xs.getD 0 0)
    have w0 := Int.emod_nonneg (xs.getD 5 0) (show (5 : Int) ≠ 0 by decide)
    have w1 := Int.emod_lt_of_pos (xs.getD 5 0) (show (0 : Int) < 5 by decide)
    refine ⟨_, (pss_one (ps_ret (pe_tup (pa_2 (pe_ix (ix_listK K) (pv 2) (pe_op op_mod (pe_ix (ix_listK K) (pv 0) pe_int (fun _ _ => rfl)) pe_int) (fun _ _ => rfl)) (pe_callTy (call_tupleK K) rfl T.b_tuple bt_tuple (pa_1 (pe_comp (N := ["_law_k", "_law_cell", "_law_words_here", "_law_xs"]) (caps := [none, some 1, some 2, some 0]) rfl (by with_unfolding_all rfl) (pi_range1 rfl T.b_range (pa_1 (pe_op op_mod (pe_ix (ix_listK K) (pv 0) pe_int (fun _ _ => rfl)) pe_int))) (fun _ _ _ _ _ => (pg_name (i := 0) (show (["_law_k", "_law_cell", "_law_words_here", "_law_xs"] : List Str).Nodup by decide +kernel) rfl (Or.inl rfl))) (fun _ _ _ _ _ => pf_nil) (fun _ _ _ _ _ => (pe_def (ok__law_term T) hr rfl (pa_3 (pe_ix (ix_listK K) (pv 3) (pe_op op_add pe_int (pv 0)) (fun _ _ => rfl)) (pv 1) (pv 2))))))))))), ?_⟩
    refine ⟨_, rfl, _, rfl, _, _, _, _, rfl, rfl, hX, at1 0 (by decide), _, _, rfl, rfl, (by show (0 : Int) < 3; decide), _, _, _, _, rfl, rfl, hw, hat, ?_⟩
    refine ⟨_, rfl, _, _, _, _, rfl, rfl, hX, at1 5 (by decide), _, _, rfl, rfl, (by show (0 : Int) < 5; decide), _, rfl, by omega, by omega, fun D hD => ?_⟩
    refine comp_by (xs.getD 5 0 % 5).toNat (fun i σ' H' => (∃ v, σ' = [v, some (.int c), some (.ref W), some (.ref X)]) ∧ Same H H' ∧ ∃ ts : List Key, H' D = some (.lst (ts.map kV)) ∧ ts.length = i ∧ ∀ t ∈ ts, GK t) ⟨⟨_, rfl⟩, same_upd hD, [], upd_same, rfl, fun _ z => nomatch z⟩ (fun i σ' H' hi p => hi) (fun σ' H' p => ⟨Nat.le_refl _, ?_⟩) (fun i σ' H' hi p x H2 y => ?_)
    · obtain ⟨_, sm, ts, hts, lts, gts⟩ := p
      refine ⟨D, _, rfl, .inl ⟨SqL.of hts, fun q1 hq1 => ⟨by show 2 ≤ sizeLine; decide, fun p1 hp1 => ?_⟩⟩⟩
      have s1 := same_upd (o := HO.tup (ts.map kV)) hq1
      have s2 := same_upd (o := HO.tup [.str tb, .ref q1]) hp1
      exact q p1 q1 (tb, ts) _ (sm.trans (s1.trans s2)) ((sm.trans s1).free hp1) (sm.free hq1) upd_same (s2 _ _ upd_same) ⟨gtb, gts, by show ts.length ≤ 4; omega⟩
    · obtain ⟨⟨v, rfl⟩, sm, ts, hts, lts, gts⟩ := p
      obtain ⟨rfl, rfl⟩ := y
      have ati : atI (xs.map V.int) (1 + (0 + (i : Int))) = some (.int (xs.getD (1 + i) 0)) := by
        rw [show 1 + (0 + (i : Int)) = ((1 + i : Nat) : Int) by omega]
        exact at1 (1 + i) (by omega)
      refine ⟨_, rfl, _, rfl, _, _, rfl, rfl, _, _, _, _, rfl, rfl, sm.seq hX, ati, _, rfl, _, rfl, _, _, W, rfl, hW.same sm, fun t H3 s3 gt => ?_⟩
      refine ⟨_, s3 _ _ hts, by rw [List.length_map, lts]; exact small1000 (by omega), ⟨_, rfl⟩, (sm.trans s3).set hD, ts ++ [t], by rw [upd_same, List.map_append]; rfl, by rw [List.length_append, lts]; rfl, fun x hx => ?_⟩
      rcases List.mem_append.mp hx with hx | hx
      · exact gts x hx
      · rw [List.mem_singleton.mp hx]
        exact gt
def sp_isv : Sp := fun vs H Q _ => ∃ t : Key, vs = [kV t] ∧ GK t ∧ Q (.bl (isV t)) H
theorem ok__law_is_var (T : Txt K mg) : Def P w K mg base 1 "_law_is_var" ["_law_term_here"] sp_isv := by
  refine T.t__law_is_var.ok sc__law_is_var (fun vs H Q E h => ?_) fun f cdv A outer s H vs Q E hr h => ?_
  · obtain ⟨t, rfl, _⟩ := h
    rfl
  · obtain ⟨t, rfl, gt, q⟩ := h
    refine ⟨_, (pss_one (ps_ret (pe_and (pe_callB (call_isi K) rfl T.b_isinstance bt_isinstance (pa_2 (pv 0) (pe_ty rfl T.b_str bt_str))) (pe_and (pe_cmpR op_gt (pe_callB (call_lenK K) rfl T.b_len bt_len (pa_1 (pv 0))) pe_int (nomark _)) (pe_one (pe_cmpR op_in_str (pe_ix ix_str (pv 0) pe_int (fun _ _ => rfl)) pe_str (by with_unfolding_all rfl))))))), ?_⟩
    cases t with
    | inl i => exact ⟨_, rfl, _, _, _, rfl, .int i, by decide, by decide, _, rfl, iteFb rfl q⟩
    | inr z =>
      have lz := gt.len
      have zs : z.length ≤ sizeLine := Nat.le_trans lz.2 (by decide)
      obtain ⟨c, r, e⟩ := split_list lz.1
      refine ⟨_, rfl, _, _, _, rfl, .str z, by decide, by decide, _, rfl, iteTb rfl ?_⟩
      refine ⟨_, rfl, _, _, rfl, ⟨zs, rfl⟩, _, _, rfl, rfl, _, rfl, iteTb (decide_eq_true (by show (0 : Int) < (z.length : Int); omega)) ?_⟩
      refine ⟨_, rfl, _, _, c, rfl, rfl, zs, (by rw [e]; exact atI_nat (j := 0) rfl), _, _, rfl, rfl, ?_⟩
      have found : (!(Builtin.Str.occurrences capS ⟨#[c]⟩ 0 capS.length 1).isEmpty) = decide (c ∈ capS.cps.toList) := StrLaws.found_one ..
      have ev : isV (.inr z) = decide (c ∈ capS.cps.toList) := by
        show txtB capS z = _
        rcases gt with g | g
        · obtain ⟨_, _, c', r', e', hc, _⟩ := txtB_parts g
          rw [e] at e'
          cases e'
          rw [small_no g, decide_eq_false (small_cap c hc)]
        · obtain ⟨_, _, c', r', e', hc, _⟩ := txtB_parts g
          rw [e] at e'
          cases e'
          rw [g, decide_eq_true hc]
      rw [ev, ← found] at q
      exact q
theorem dats_keys {H : Hp} : ∀ {us : List Key}, (∀ u ∈ us, GK u) → Dats K H (us.map keyD) (us.map kV)
  | [], _ => .nil
  | u :: us, h => .cons (h u (List.mem_cons_self ..)).dat (dats_keys fun x hx => h x (List.mem_cons_of_mem _ hx))
theorem depth_keys (us : List Key) : PyData.depthAll (us.map keyD) ≤ 0 := by
  induction us with
  | nil => exact Nat.le_refl _
  | cons u us ih => exact Nat.max_le.mpr ⟨by cases u <;> exact Nat.le_refl _, ih⟩
def sp_bound (K : PySem.W.Frag) : Sp := fun vs H Q _ => ∃ (t : Key) (L : Addr) (us : List Key) (c : Int), vs = [kV t, .ref L, .int c] ∧ GK t ∧ SqL K H L (us.map kV) ∧ (∀ u ∈ us, GK u) ∧ ∀ t' H', Same H H' → GK t' → Q (kV t') H'
theorem ok__law_bound (T : Txt K mg) : Def P w K mg base 2 "_law_bound" ["_law_term_here", "_law_there", "_law_cell"] (sp_bound K) := by
  refine T.t__law_bound.ok sc__law_bound (fun vs H Q E h => ?_) fun f cdv A outer s H vs Q E hr h => ?_
  · obtain ⟨t, L, us, c, rfl, _⟩ := h
    rfl
  · obtain ⟨t, L, us, c, rfl, gt, hL, gu, q⟩ := h
    have dL : Dat K H (.list (us.map keyD)) (.ref L) := .lst hL (dats_keys gu)
    refine ⟨_, (pss_3
      (ps_if (PW.pt (pw_or (pt_not (pt_val (pe_def (ok__law_is_var T) hr rfl (pa_1 (pv 0))))) (pw_or1 (pt_cmpR (op_inLD hr.units K) (pv 0) (pv 1) (by with_unfolding_all rfl))))) (pss_one (ps_ret (pv 0))) pss_nil)
      (ps_if (pt_cmpR (op_eqD hr.units K) (pv 1) (pe_lst pa_nil) (nomark _)) (pss_one (ps_ret (pe_op op_mod (pv 2) (pe_op op_pow pe_int pe_int)))) pss_nil)
      (ps_ret (pe_ix (ix_listK K) (pv 1) (pe_op op_mod (pv 2) (pe_callB (call_lenK K) rfl T.b_len bt_len (pa_1 (pv 1)))) (fun _ _ => rfl)))), ?_⟩
    refine ⟨_, rfl, t, rfl, gt, _, rfl, ite2 (fun _ => iteT ⟨_, rfl, q t _ (Same.refl _) gt⟩) (fun _ => ?_)⟩
    refine ⟨_, rfl, _, rfl, keyD t, _, gt.dat, dL, Nat.le_trans (depth_keys us) (by decide), _, rfl, ite2 (fun _ => ⟨_, rfl, q t _ (Same.refl _) gt⟩) (fun _ => ?_)⟩
    refine ⟨_, rfl, by show 0 ≤ sizeLine; decide, fun p hp => ?_⟩
    have s1 := same_upd (o := HO.lst []) hp
    refine ⟨.list (us.map keyD), .list [], Dat.same s1 _ _ dL, .lst (SqL.of upd_same) .nil, Nat.le_trans (Nat.succ_le_succ (depth_keys us)) (by decide), _, rfl, ite2 (fun h => ?_) (fun h => ?_)⟩
    · exact ⟨_, rfl, _, _, rfl, rfl, ⟨by decide, by decide, by decide⟩, _, _, rfl, rfl, (by show (0 : Int) < 10 ^ 30; decide), q (.inl _) _ s1 trivial⟩
    · have ul : 0 < us.length := by
        cases us with
        | nil => exact absurd rfl h
        | cons u us => exact Nat.succ_pos _
      have lb : LenV K (.ref L) (upd H p (.lst [])) us.length := .inl ⟨_, s1.seq hL, by rw [List.length_map]⟩
      obtain ⟨v, hat, hv⟩ := atI_in (xs := us.map kV) (i := c % (us.length : Int)) (Int.emod_nonneg _ (by omega)) (by rw [List.length_map]; exact Int.emod_lt_of_pos _ (by omega))
      obtain ⟨u, hu, rfl⟩ := List.mem_map.mp hv
      exact ⟨_, rfl, _, rfl, _, rfl, _, _, rfl, lb, _, _, rfl, rfl, by show (0 : Int) < us.length; omega, _, _, _, _, rfl, rfl, s1.seq hL, hat, q u _ s1 (gu u hu)⟩
end
end Wy
namespace Wy
open PySem L2
abbrev AT := Str × List Key
abbrev CT := Str × Key × Key
def sgs : List Str := ["=", "!=", "<"]
def COk (c : CT) : Prop := c.1 ∈ sgs ∧ GK c.2.1 ∧ GK c.2.2
def KT (H H' : Hp) : Prop := ∀ b ys, H b = some (.tup ys) → H' b = some (.tup ys)
theorem KT.trans {H H1 H2 : Hp} (a : KT H H1) (b : KT H1 H2) : KT H H2 := fun c ys e => b c ys (a c ys e)
theorem KT.upd {H H' : Hp} {d : Addr} {xs ys : List V} (k : KT H H') (e : H' d = some (.lst xs)) : KT H (upd H' d (.lst ys)) := fun b zs hb => by
  have h := k b zs hb
  rw [upd_ne (fun z => by rw [z, e] at h; cases h)]
  exact h
def AVh (H : Hp) (e : V × AT) : Prop := ∃ p q, e.1 = .ref p ∧ H p = some (.tup [.str e.2.1, .ref q]) ∧ H q = some (.tup (e.2.2.map kV))
theorem AVh.kt {H H' : Hp} {e : V × AT} (h : AVh H e) (s : KT H H') : AVh H' e := by
  obtain ⟨p, q, e1, h1, h2⟩ := h
  exact ⟨p, q, e1, s _ _ h1, s _ _ h2⟩
theorem AVh.same {H H' : Hp} {e : V × AT} (h : AVh H e) (s : Same H H') : AVh H' e := h.kt fun b _ z => s b _ z
def CVh (H : Hp) (e : V × CT) : Prop := ∃ p, e.1 = .ref p ∧ H p = some (.tup [.str e.2.1, kV e.2.2.1, kV e.2.2.2])
theorem CVh.kt {H H' : Hp} {e : V × CT} (h : CVh H e) (s : KT H H') : CVh H' e := by
  obtain ⟨p, e1, h1⟩ := h
  exact ⟨p, e1, s _ _ h1⟩
theorem CVh.same {H H' : Hp} {e : V × CT} (h : CVh H e) (s : Same H H') : CVh H' e := h.kt fun b _ z => s b _ z
structure RS (K : PySem.W.Frag) (H : Hp) (W cA yA bL tL : Addr) (c0 c1 c2 : Int) (ys : List Int) (bs : List (V × AT)) (us : List Key) : Prop where
  w : Ws K H W
  cs : H cA = some (.lst [.int c0, .int c1, .int c2])
  y : H yA = some (.lst (ys.map V.int))
  ly : ys.length = 20
  b : H bL = some (.lst (bs.map (·.1)))
  ob : ∀ e ∈ bs, AVh H e ∧ AOk e.2
  lb : bs.length ≤ 3
  t : H tL = some (.lst (us.map kV))
  ou : ∀ u ∈ us, GK u
  lu : us.length ≤ 12
theorem RS.same {K : PySem.W.Frag} {H H' : Hp} {W cA yA bL tL : Addr} {c0 c1 c2 : Int} {ys : List Int} {bs : List (V × AT)} {us : List Key} (h : RS K H W cA yA bL tL c0 c1 c2 ys bs us) (s : Same H H') : RS K H' W cA yA bL tL c0 c1 c2 ys bs us :=
  ⟨h.w.same s, s _ _ h.cs, s _ _ h.y, h.ly, s _ _ h.b, fun e he => ⟨(h.ob e he).1.same s, (h.ob e he).2⟩, h.lb, s _ _ h.t, h.ou, h.lu⟩
theorem at_ints {xs : List Int} {n : Nat} (hl : xs.length = n) (j : Nat) (hj : j < n) : atI (xs.map V.int) (j : Int) = some (.int (xs.getD j 0)) := atI_nat (by rw [List.getElem?_map, List.getElem?_eq_getElem (by omega), List.getD_eq_getElem?_getD, List.getElem?_eq_getElem (by omega)]; rfl)
theorem RS.yat {K : PySem.W.Frag} {H : Hp} {W cA yA bL tL : Addr} {c0 c1 c2 : Int} {ys : List Int} {bs : List (V × AT)} {us : List Key} (h : RS K H W cA yA bL tL c0 c1 c2 ys bs us) (j : Nat) (hj : j < 20) : atI (ys.map V.int) (j : Int) = some (.int (ys.getD j 0)) := at_ints h.ly j hj
theorem cut_map {α : Type} (f : α → V) (es : List α) (lo hi : Option Int) : ∃ zs : List α, cutV (es.map f) lo hi = zs.map f ∧ zs.length ≤ es.length ∧ ∀ z ∈ zs, z ∈ es := by
  unfold cutV
  rw [← List.map_drop, ← List.map_take]
  exact ⟨_, rfl, by rw [List.length_take, List.length_drop]; omega, fun z hz => List.mem_of_mem_drop (List.mem_of_mem_take hz)⟩
theorem cut_to {α : Type} (f : α → V) (es : List α) (n : Nat) : cutV (es.map f) none (some (n : Int)) = (es.take n).map f := by
  unfold cutV
  rw [HT.sIx_none, HT.sIx_nat, List.drop_zero, Nat.sub_zero, List.length_map, ← List.map_take]
  congr 1
  by_cases h : n ≤ es.length
  · rw [Nat.min_eq_left h]
  · rw [Nat.min_eq_right (by omega), List.take_of_length_le (Nat.le_refl _), List.take_of_length_le (by omega)]
theorem cut_mid {α : Type} (f : α → V) (es : List α) (n m : Nat) (h : m ≤ es.length) (hn : n ≤ m) : cutV (es.map f) (some (n : Int)) (some (m : Int)) = ((es.drop n).take (m - n)).map f := by
  unfold cutV
  rw [HT.sIx_nat, HT.sIx_nat, List.length_map, Nat.min_eq_left h, Nat.min_eq_left (Nat.le_trans hn h), ← List.map_drop, ← List.map_take]
theorem nodup_le {α : Type} [DecidableEq α] : ∀ {l m : List α}, l.Nodup → (∀ x ∈ l, x ∈ m) → l.length ≤ m.length
  | [], _, _, _ => Nat.zero_le _
  | a :: l, m, hn, h => by
    have ha := h a (List.mem_cons_self ..)
    have hn' := List.nodup_cons.mp hn
    have := nodup_le (l := l) (m := m.erase a) hn'.2 fun x hx => (List.mem_erase_of_ne (fun e => hn'.1 (by rw [← e]; exact hx))).mpr (h x (List.mem_cons_of_mem _ hx))
    rw [List.length_erase_of_mem ha] at this
    have : 0 < m.length := List.length_pos_of_mem ha
    rw [List.length_cons]
    omega
def atomDat (e : AT) : PyData := .tuple [.str e.1, .tuple (e.2.map keyD)]
def choiceDat (e : CT) : PyData := .tuple [.str e.1, keyD e.2.1, keyD e.2.2]
theorem any_keys {us : List Key} {z : Str} (h : ((us.map keyD).any fun y => PyData.eqv y (.str z)) = true) : (Sum.inr z : Key) ∈ us := by
  obtain ⟨y, hy, e⟩ := List.any_eq_true.mp h
  obtain ⟨u, hu, rfl⟩ := List.mem_map.mp hy
  cases u with
  | inl i => cases e
  | inr x =>
    have e : PyData.eqv (.str x) (.str z) = true := e
    rw [eqv_str] at e
    rw [← of_decide_eq_true e]
    exact hu
structure Rl where
  hd : AT
  as : List AT
  cs : List CT
def ruleDat (R : Rl) : PyData := .tuple [atomDat R.hd, .tuple (R.as.map atomDat), .tuple (R.cs.map choiceDat)]
structure RGood (R : Rl) : Prop where
  hd : AOk R.hd
  as : ∀ e ∈ R.as, AOk e
  las : R.as.length ≤ 3
  cs : ∀ c ∈ R.cs, COk c
  lcs : R.cs.length ≤ 3
theorem dv_map {K : PySem.W.Frag} {α : Type} {H : Hp} (f : α → PyData) (g : α → V) : ∀ {es : List α}, (∀ e ∈ es, Dat K H (f e) (g e)) → Dats K H (es.map f) (es.map g)
  | [], _ => .nil
  | e :: es, h => .cons (h e (List.mem_cons_self ..)) (dv_map f g fun x hx => h x (List.mem_cons_of_mem _ hx))
theorem AVh.dat {K : PySem.W.Frag} {H : Hp} {e : V × AT} (h : AVh H e) (o : AOk e.2) : Dat K H (atomDat e.2) e.1 := by
  obtain ⟨p, q, e1, h1, h2⟩ := h
  rw [e1]
  exact .tup (SqT.of h1) (.cons (.str _ (txtB_str small_lt o.tb)) (.cons (.tup (SqT.of h2) (dats_keys o.ks)) .nil))
theorem sg_ok : ∀ z ∈ sgs, PyData.strOk z = true := by decide +kernel
theorem CVh.dat {K : PySem.W.Frag} {H : Hp} {e : V × CT} (h : CVh H e) (o : COk e.2) : Dat K H (choiceDat e.2) e.1 := by
  obtain ⟨p, e1, h1⟩ := h
  rw [e1]
  exact .tup (SqT.of h1) (.cons (.str _ (sg_ok _ o.1)) (.cons o.2.1.dat (.cons o.2.2.dat .nil)))
section
variable {P : Program} {w : World} {K : PySem.W.Frag} {mg : Str → Option Value} {base : Heap}
def sp_lrule (K : PySem.W.Frag) : Sp := fun vs H Q _ => ∃ (a W : Addr) (ns : List Int) (sf : Bool), vs = [.ref a, .ref W, .bl sf] ∧ SqL K H a (ns.map V.int) ∧ Ws K H W ∧ ∀ x R H', Same H H' → Dat K H' (ruleDat R) x → RGood R → Q x H'
theorem ok__law_rule (T : Txt K mg) : Def P w K mg base 4 "_law_rule" ["_law_script", "_law_words_here", "_law_safe_here"] (sp_lrule K) := by
  refine T.t__law_rule.ok sc__law_rule (fun vs H Q E h => ?_) fun f cdv A outer s H vs Q E hr h => ?_
  · obtain ⟨a, W, ns, sf, rfl, _⟩ := h
    rfl
  · obtain ⟨a, W, ns, sf, rfl, hS, hW, k⟩ := h
    refine join_at 9 (fun σ H1 => ∃ (cA xA yA bL tL q cL : Addr) (c0 c1 c2 : Int) (ys : List Int) (bs : List (V × AT)) (us : List Key) (tb : Str) (ts : List Key) (ch : List (V × CT)) (v7 v12 v13 v14 v15 : Option V), σ = [some (.ref a), some (.ref W), some (.bl sf), some (.ref cA), some (.ref xA), some (.ref bL), some (.ref tL), v7, some (.ref yA), some (.str tb), some (.ref q), some (.ref cL), v12, v13, v14, v15] ∧ Same H H1 ∧ RS K H1 W cA yA bL tL c0 c1 c2 ys bs us ∧ txtB small tb = true ∧ H1 q = some (.tup (ts.map kV)) ∧ (∀ t ∈ ts, GK t) ∧ ts.length ≤ 4 ∧ H1 cL = some (.lst (ch.map (·.1))) ∧ (∀ e ∈ ch, CVh H1 e ∧ COk e.2) ∧ ch.length ≤ 3) ?_ (fun u hu hC => ⟨_, (psr_9
      (ps_set (i := 3) sc__law_rule.nd rfl (Or.inr rfl) (pe_lst (pa_3 (pe_def (ok__law_cell_at T) hr rfl (pa_2 (pv 0) pe_int)) (pe_def (ok__law_cell_at T) hr rfl (pa_2 (pv 0) pe_int)) (pe_def (ok__law_cell_at T) hr rfl (pa_2 (pv 0) pe_int)))))
      (ps_set (i := 4) sc__law_rule.nd rfl (Or.inr rfl) (pe_def (ok__law_stream T) hr rfl (pa_2 (pe_ix (ix_listK K) (pv 3) pe_int (fun _ _ => rfl)) pe_int)))
      (ps_setComp (i := 5) sc__law_rule.nd rfl rfl (N := ["_law_k", "_law_words_here", "_law_xs", "_law_cells"]) (caps := [none, some 1, some 4, some 3]) rfl (by with_unfolding_all rfl) (pi_range1 rfl T.b_range (pa_1 (pe_op op_mod (pe_ix (ix_listK K) (pv 4) pe_int (fun _ _ => rfl)) pe_int))) (fun _ _ _ _ _ => (pg_name (i := 0) (show (["_law_k", "_law_words_here", "_law_xs", "_law_cells"] : List Str).Nodup by decide +kernel) rfl (Or.inl rfl))) (fun _ _ _ _ _ => pf_nil) (fun _ _ _ _ _ => (pe_def (ok__law_atom T) hr rfl (pa_3 (pe_slice (sl_listK K) (pv 2) (po_some (pe_op op_mul pe_int (pv 0))) (po_some (pe_op op_add (pe_op op_mul pe_int (pv 0)) pe_int))) (pe_ix (ix_listK K) (pv 3) pe_int (fun _ _ => rfl)) (pv 1)))))
      (ps_set (i := 6) sc__law_rule.nd rfl (Or.inr rfl) (pe_lst pa_nil))
      (ps_for PassesOwn.never rfl (pi_listK K (pv 5)) (pg_name (i := 7) sc__law_rule.nd rfl (Or.inl rfl)) (pss_one (ps_set (i := 6) sc__law_rule.nd rfl (Or.inr rfl) (pe_op op_cat (pv 6) (pe_comp (N := ["_law_term_here"]) (caps := [none]) rfl (by with_unfolding_all rfl) (pi_tupK K (pe_ix (ix_tupK K) (pv 7) pe_int (fun _ _ => rfl))) (fun _ _ _ _ _ => (pg_name (i := 0) (show (["_law_term_here"] : List Str).Nodup by decide +kernel) rfl (Or.inl rfl))) (fun _ _ _ _ _ => pf_one (pt_val (pe_def (ok__law_is_var T) hr rfl (pa_1 (pv 0))))) (fun _ _ _ _ _ => (pv 0)))))))
      (ps_set (i := 8) sc__law_rule.nd rfl (Or.inr rfl) (pe_def (ok__law_stream T) hr rfl (pa_2 (pe_ix (ix_listK K) (pv 3) pe_int (fun _ _ => rfl)) pe_int)))
      (ps_asg (pe_def (ok__law_atom T) hr rfl (pa_3 (pe_slice (sl_listK K) (pv 8) po_none (po_some pe_int)) (pe_ix (ix_listK K) (pv 3) pe_int (fun _ _ => rfl)) (pv 1))) (pg_tup rfl (pgs_cons (pg_name (i := 9) sc__law_rule.nd rfl (Or.inl rfl)) (pgs_cons (pg_name (i := 10) sc__law_rule.nd rfl (Or.inl rfl)) pgs_nil))))
      (ps_set (i := 11) sc__law_rule.nd rfl (Or.inl rfl) (pe_lst pa_nil))
      (ps_for PassesOwn.never rfl (pi_range1 rfl T.b_range (pa_1 (pe_op op_mod (pe_ix (ix_listK K) (pv 8) pe_int (fun _ _ => rfl)) pe_int))) (pg_name (i := 12) sc__law_rule.nd rfl (Or.inl rfl)) (pss_2
      (ps_set (i := 13) sc__law_rule.nd rfl (Or.inl rfl) (pe_ix (ix_listK K) (pe_lst (pa_3 pe_str pe_str pe_str)) (pe_op op_mod (pe_ix (ix_listK K) (pv 8) (pe_op op_add pe_int (pv 12)) (fun _ _ => rfl)) pe_int) (fun _ _ => rfl)))
      (ps_expr (pe_bm PySem.F.plainAttrs_list PySem.F.slot_list_append PySem.F.type_list_append mt_append (pv 11) (pa_1 (pe_tup (pa_3 (pv 13) (pe_def (ok__law_term T) hr rfl (pa_3 (pe_ix (ix_listK K) (pv 8) (pe_op op_add pe_int (pv 12)) (fun _ _ => rfl)) (pe_ix (ix_listK K) (pv 3) pe_int (fun _ _ => rfl)) (pv 1))) (pe_def (ok__law_term T) hr rfl (pa_3 (pe_ix (ix_listK K) (pv 8) (pe_op op_add pe_int (pv 12)) (fun _ _ => rfl)) (pe_ix (ix_listK K) (pv 3) pe_int (fun _ _ => rfl)) (pv 1))))))))))
      hu), ?_⟩)
    · refine join_more 1 (fun σ H1 => ∃ (cA xA yA bL tL q cL : Addr) (c0 c1 c2 : Int) (ys : List Int) (bs : List (V × AT)) (us : List Key) (tb : Str) (ts : List Key) (ch : List (V × CT)) (v7 v12 v13 v14 v15 : Option V), σ = [some (.ref a), some (.ref W), some (.bl sf), some (.ref cA), some (.ref xA), some (.ref bL), some (.ref tL), v7, some (.ref yA), some (.str tb), some (.ref q), some (.ref cL), v12, v13, v14, v15] ∧ Same H H1 ∧ RS K H1 W cA yA bL tL c0 c1 c2 ys bs us ∧ txtB small tb = true ∧ H1 q = some (.tup (ts.map kV)) ∧ (∀ t ∈ ts, GK t) ∧ ts.length ≤ 4 ∧ H1 cL = some (.lst (ch.map (·.1))) ∧ (∀ e ∈ ch, CVh H1 e ∧ COk e.2) ∧ ch.length ≤ 3) ?_ (fun u hu hC => ⟨_, (psr_1
      (ps_if (PW.pt (pw_or (pt_val (pv 2)) (pw_or1 (pt_cmpR op_ne (pe_op op_mod (pe_ix (ix_listK K) (pv 3) pe_int (fun _ _ => rfl)) pe_int) pe_int (nomark _))))) (pss_2
      (ps_set (i := 10) sc__law_rule.nd rfl (Or.inl rfl) (pe_callTy (call_tupleK K) rfl T.b_tuple bt_tuple (pa_1 (pe_comp (N := ["_law_term_here", "_law_there", "_law_ys"]) (caps := [none, some 6, some 8]) rfl (by with_unfolding_all rfl) (pi_tupK K (pv 10)) (fun _ _ _ _ _ => (pg_name (i := 0) (show (["_law_term_here", "_law_there", "_law_ys"] : List Str).Nodup by decide +kernel) rfl (Or.inl rfl))) (fun _ _ _ _ _ => pf_nil) (fun _ _ _ _ _ => (pe_def (ok__law_bound T) hr rfl (pa_3 (pv 0) (pv 1) (pe_ix (ix_listK K) (pv 2) pe_int (fun _ _ => rfl)))))))))
      (ps_setComp (i := 11) sc__law_rule.nd rfl rfl (N := ["_law_c", "_law_there", "_law_ys"]) (caps := [none, some 6, some 8]) rfl (by with_unfolding_all rfl) (pi_listK K (pv 11)) (fun _ _ _ _ _ => (pg_name (i := 0) (show (["_law_c", "_law_there", "_law_ys"] : List Str).Nodup by decide +kernel) rfl (Or.inl rfl))) (fun _ _ _ _ _ => pf_nil) (fun _ _ _ _ _ => (pe_tup (pa_3 (pe_ix (ix_tupK K) (pv 0) pe_int (fun _ _ => rfl)) (pe_def (ok__law_bound T) hr rfl (pa_3 (pe_ix (ix_tupK K) (pv 0) pe_int (fun _ _ => rfl)) (pv 1) (pe_ix (ix_listK K) (pv 2) pe_int (fun _ _ => rfl)))) (pe_def (ok__law_bound T) hr rfl (pa_3 (pe_ix (ix_tupK K) (pv 0) pe_int (fun _ _ => rfl)) (pv 1) (pe_ix (ix_listK K) (pv 2) pe_int (fun _ _ => rfl))))))))) pss_nil)
      hu), ?_⟩)
      · refine join_more 1 (fun σ H1 => ∃ (cA xA yA bL tL q cL : Addr) (c0 c1 c2 : Int) (ys : List Int) (bs : List (V × AT)) (us : List Key) (tb : Str) (ts : List Key) (ch : List (V × CT)) (v7 v12 v13 v14 v15 : Option V), σ = [some (.ref a), some (.ref W), some (.bl sf), some (.ref cA), some (.ref xA), some (.ref bL), some (.ref tL), v7, some (.ref yA), some (.str tb), some (.ref q), some (.ref cL), v12, v13, v14, v15] ∧ Same H H1 ∧ RS K H1 W cA yA bL tL c0 c1 c2 ys bs us ∧ txtB small tb = true ∧ H1 q = some (.tup (ts.map kV)) ∧ (∀ t ∈ ts, GK t) ∧ ts.length ≤ 4 ∧ H1 cL = some (.lst (ch.map (·.1))) ∧ (∀ e ∈ ch, CVh H1 e ∧ COk e.2) ∧ ch.length ≤ 3) ⟨_, (pss_one (ps_ret (pe_tup (pa_3 (pe_tup (pa_2 (pv 9) (pv 10))) (pe_callTy (call_tupleK K) rfl T.b_tuple bt_tuple (pa_1 (pv 5))) (pe_callTy (call_tupleK K) rfl T.b_tuple bt_tuple (pa_1 (pv 11))))))), ?_⟩ (fun u hu hC => ⟨_, (psr_1
      (ps_if (PW.pt (pw_and (pt_not (pt_val (pv 2))) (pw_and1 (pt_cmpR op_eq (pe_op op_mod (pe_ix (ix_listK K) (pv 3) pe_int (fun _ _ => rfl)) pe_int) pe_int (nomark _))))) (pss_3
      (ps_setComp (i := 14) sc__law_rule.nd rfl rfl (N := ["_law_sign", "_law_there"]) (caps := [none, some 6]) rfl (by with_unfolding_all rfl) (pi_str pe_str) (fun _ _ _ _ _ => (pg_name (i := 0) (show (["_law_sign", "_law_there"] : List Str).Nodup by decide +kernel) rfl (Or.inl rfl))) (fun _ _ _ _ _ => pf_one (pt_cmpR (op_notInD hr.units K) (pv 0) (pv 1) (by with_unfolding_all rfl))) (fun _ _ _ _ _ => (pv 0)))
      (ps_set (i := 15) sc__law_rule.nd rfl (Or.inl rfl) (pe_ix (ix_listK K) (pv 14) (pe_op op_mod (pe_ix (ix_listK K) (pv 3) pe_int (fun _ _ => rfl)) (pe_callB (call_lenK K) rfl T.b_len bt_len (pa_1 (pv 14)))) (fun _ _ => rfl)))
      (ps_set (i := 11) sc__law_rule.nd rfl (Or.inl rfl) (pe_op op_cat (pe_slice (sl_listK K) (pv 11) po_none (po_some pe_int)) (pe_slice (sl_listK K) (pe_slice (sl_listK K) (pe_lst (pa_2 (pe_tup (pa_3 pe_str (pv 15) (pe_ix (ix_listK K) (pv 1) pe_int (fun _ _ => rfl)))) (pe_tup (pa_3 pe_str (pe_op op_mod (pe_ix (ix_listK K) (pv 3) pe_int (fun _ _ => rfl)) (pe_op op_pow pe_int pe_int)) (pv 15))))) (po_some (pe_op op_mod (pe_ix (ix_listK K) (pv 3) pe_int (fun _ _ => rfl)) pe_int)) po_none) po_none (po_some pe_int))))) pss_nil)
      hu), ?_⟩)
        · rintro σ H1 ⟨cA, xA, yA, bL, tL, q, cL, c0, c1, c2, ys, bs, us, tb, ts, ch, v7, v12, v13, v14, v15, rfl, s1, R, gtb, hq, gts, lts, hc, oc, lch⟩
          refine ⟨_, rfl, _, rfl, by show 2 ≤ sizeLine; decide, fun p1 hp1 => ?_⟩
          have u1 := same_upd (o := HO.tup [.str tb, .ref q]) hp1
          refine ⟨_, rfl, _, _, rfl, .inl ⟨SqL.of (u1 _ _ R.b), fun p2 hp2 => ?_⟩⟩
          have u2 := same_upd (o := HO.tup (bs.map (·.1))) hp2
          refine ⟨_, rfl, _, _, rfl, .inl ⟨SqL.of (u2 _ _ (u1 _ _ hc)), fun p3 hp3 => ?_⟩⟩
          have u3 := same_upd (o := HO.tup (ch.map (·.1))) hp3
          refine ⟨by show 3 ≤ sizeLine; decide, fun p4 hp4 => ?_⟩
          have u4 := same_upd (o := HO.tup [.ref p1, .ref p2, .ref p3]) hp4
          have t4 := u1.trans (u2.trans (u3.trans u4))
          have g1 := (u2.trans (u3.trans u4)) _ _ (upd_same (H := H1) (a := p1) (o := HO.tup [.str tb, .ref q]))
          refine k _ ⟨(tb, ts), bs.map (·.2), ch.map (·.2)⟩ _ (s1.trans t4) (.tup (SqT.of upd_same) (.cons ?_ (.cons (.tup (SqT.of ((u3.trans u4) _ _ upd_same)) ?_) (.cons (.tup (SqT.of (u4 _ _ upd_same)) ?_) .nil)))) ⟨⟨gtb, gts, lts⟩, fun e he => ?_, by show (bs.map (·.2)).length ≤ 3; rw [List.length_map]; exact R.lb, fun e he => ?_, by show (ch.map (·.2)).length ≤ 3; rw [List.length_map]; exact lch⟩
          · exact AVh.dat (e := (.ref p1, (tb, ts))) ⟨p1, q, rfl, g1, t4 _ _ hq⟩ ⟨gtb, gts, lts⟩
          · show Dats K _ ((bs.map (·.2)).map atomDat) _
            rw [List.map_map]
            exact dv_map (fun e : V × AT => atomDat e.2) (·.1) fun e he => ((R.ob e he).1.same t4).dat (R.ob e he).2
          · show Dats K _ ((ch.map (·.2)).map choiceDat) _
            rw [List.map_map]
            exact dv_map (fun e : V × CT => choiceDat e.2) (·.1) fun e he => ((oc e he).1.same t4).dat (oc e he).2
          · obtain ⟨b, hb, rfl⟩ := List.mem_map.mp he
            exact (R.ob b hb).2
          · obtain ⟨b, hb, rfl⟩ := List.mem_map.mp he
            exact (oc b hb).2
        · rintro σ H1 ⟨cA, xA, yA, bL, tL, q, cL, c0, c1, c2, ys, bs, us, tb, ts, ch, v7, v12, v13, v14, v15, rfl, s1, R, gtb, hq, gts, lts, hc, oc, lch⟩
          have C0 := SqL.of (K := K) R.cs
          refine ⟨_, rfl, _, rfl, ite2 (fun _ => ?_) (fun _ => iteF (hC _ _ ⟨cA, xA, yA, bL, tL, q, cL, c0, c1, c2, ys, bs, us, tb, ts, ch, _, _, _, _, _, rfl, s1, R, gtb, hq, gts, lts, hc, oc, lch⟩))⟩
          refine ⟨_, rfl, _, _, _, _, rfl, rfl, C0, atI_nat (j := 0) rfl, _, _, rfl, rfl, (by show (0 : Int) < 4; decide), rfl, _, rfl, ite2 (fun _ => ?_) (fun _ => hC _ _ ⟨cA, xA, yA, bL, tL, q, cL, c0, c1, c2, ys, bs, us, tb, ts, ch, _, _, _, _, _, rfl, s1, R, gtb, hq, gts, lts, hc, oc, lch⟩)⟩
          have dL : ∀ {G : Hp}, Same H1 G → Dat K G (.list (us.map keyD)) (.ref tL) := fun sG => .lst (SqL.of (sG _ _ R.t)) (dats_keys R.ou)
          refine ⟨_, rfl, fun D hD => ?_⟩
          have esz : capS.cps.size = 26 := len_cap
          refine comp_by 26 (fun i σ' G => (∃ v, σ' = [v, some (.ref tL)]) ∧ Same H1 G ∧ ∃ fr : List Nat, G D = some (.lst (fr.map fun c => V.str ⟨#[c]⟩)) ∧ fr.length ≤ i ∧ (∀ c ∈ fr, c ∈ capS.cps.toList) ∧ ∀ c ∈ capS.cps.toList.take i, c ∈ fr ∨ (Sum.inr ⟨#[c]⟩ : Key) ∈ us) ⟨⟨_, rfl⟩, same_upd hD, [], upd_same, Nat.le_refl _, (fun _ z => nomatch z), fun _ z => nomatch z⟩ (fun i σ' G hi _ => by show i < capS.cps.size; rw [esz]; exact hi) (fun σ' G p => ⟨esz.symm, ?_⟩) (fun i σ' G hi p x G2 y => ?_)
          · obtain ⟨_, sm, fr, hfr, lfr, mfr, cov⟩ := p
            have fpos : 0 < fr.length := by
              cases fr with
              | cons c r => exact Nat.succ_pos _
              | nil =>
                exfalso
                rw [List.take_of_length_le (by rw [len_list, len_cap]; exact Nat.le_refl _)] at cov
                have h1 := nodup_le (l := capS.cps.toList.map fun c => (Sum.inr ⟨#[c]⟩ : Key)) (m := us) (by decide +kernel) fun x hx => by
                  obtain ⟨c, hc, rfl⟩ := List.mem_map.mp hx
                  exact (cov c hc).resolve_left fun z => nomatch z
                rw [List.length_map, len_list, len_cap] at h1
                have := R.lu
                omega
            have C1 := SqL.of (K := K) (sm _ _ R.cs)
            have lF : LenV K (.ref D) G fr.length := .inl ⟨_, SqL.of hfr, by rw [List.length_map]⟩
            obtain ⟨v, hat, hv⟩ := atI_in (xs := fr.map fun c => V.str ⟨#[c]⟩) (i := c2 % (fr.length : Int)) (Int.emod_nonneg _ (by omega)) (by rw [List.length_map]; exact Int.emod_lt_of_pos _ (by omega))
            obtain ⟨c, hcf, rfl⟩ := List.mem_map.mp hv
            have gv : txtB capS ⟨#[c]⟩ = true := txtB_of (c := c) (r := []) rfl (by decide) (mfr c hcf) fun _ z => nomatch z
            refine ⟨_, rfl, _, rfl, _, _, _, _, rfl, rfl, C1, atI_nat (j := 2) rfl, _, rfl, _, _, rfl, lF, _, _, rfl, rfl, (by show (0 : Int) < fr.length; omega), _, _, _, _, rfl, rfl, SqL.of hfr, hat, ?_⟩
            have hc1 := sm _ _ hc
            refine ⟨_, rfl, _, rfl, _, _, rfl, SqL.of hc1, fun p1 hp1 => ?_⟩
            have e1 : cutV (ch.map (·.1)) none (some (2 : Int)) = (ch.take 2).map (·.1) := cut_to (·.1) ch 2
            have v1 := same_upd (o := HO.lst (cutV (ch.map (·.1)) none (some 2))) hp1
            obtain ⟨z0, z1, z2, hWs, g0, _, _⟩ := (R.w.same sm).ex
            refine ⟨_, rfl, _, rfl, _, _, _, _, rfl, rfl, v1.seq hWs, atI_nat (j := 0) rfl, by show 3 ≤ sizeLine; decide, fun p2 hp2 => ?_⟩
            have v2 := same_upd (o := HO.tup [.str "=", .str ⟨#[c]⟩, .str z0]) hp2
            refine ⟨_, rfl, _, _, _, _, rfl, rfl, v2.seq (v1.seq C1), atI_nat (j := 1) rfl, _, _, rfl, rfl, ⟨by decide, by decide, by decide⟩, _, _, rfl, rfl, (by show (0 : Int) < 10 ^ 30; decide), _, rfl, by show 3 ≤ sizeLine; decide, fun p3 hp3 => ?_⟩
            have v3 := same_upd (o := HO.tup [.str "=", .int (c1 % 10 ^ 30), .str ⟨#[c]⟩]) hp3
            refine ⟨by show 2 ≤ sizeLine; decide, fun p4 hp4 => ?_⟩
            have v4 := same_upd (o := HO.lst [.ref p2, .ref p3]) hp4
            refine ⟨_, rfl, _, _, _, _, rfl, rfl, (v2.trans (v3.trans v4)).seq (v1.seq C1), atI_nat (j := 2) rfl, _, _, rfl, rfl, (by show (0 : Int) < 2; decide), _, rfl, _, _, rfl, SqL.of upd_same, fun p5 hp5 => ?_⟩
            obtain ⟨zs, ez, lz, mz⟩ := cut_map (·.1) [((.ref p2, ("=", .inr ⟨#[c]⟩, .inr z0)) : V × CT), (.ref p3, ("=", .inl (c1 % 10 ^ 30), .inr ⟨#[c]⟩))] (some (c2 % 2)) none
            have ez : cutV [V.ref p2, .ref p3] (some (c2 % 2)) none = zs.map (·.1) := ez
            have v5 := same_upd (o := HO.lst (cutV [V.ref p2, .ref p3] (some (c2 % 2)) none)) hp5
            refine ⟨_, rfl, _, _, rfl, SqL.of upd_same, fun p6 hp6 => ?_⟩
            have e6 : cutV (zs.map (·.1)) none (some (1 : Int)) = (zs.take 1).map (·.1) := cut_to (·.1) zs 1
            have v6 := same_upd (o := HO.lst (cutV (cutV [V.ref p2, .ref p3] (some (c2 % 2)) none) none (some 1))) hp6
            have v26 := v2.trans (v3.trans (v4.trans (v5.trans v6)))
            refine ⟨p1, p6, _, _, rfl, rfl, v26 _ _ upd_same, upd_same, ?_, fun p7 hp7 => ?_⟩
            · rw [e1, ez, e6, List.length_map, List.length_map, List.length_take, List.length_take]
              exact Nat.le_trans (show _ ≤ 1000 by omega) (by decide)
            have v7' := same_upd (o := HO.lst (cutV (ch.map (·.1)) none (some 2) ++ cutV (cutV [V.ref p2, .ref p3] (some (c2 % 2)) none) none (some 1))) hp7
            have vA := v1.trans (v26.trans v7')
            refine hC _ _ ⟨cA, xA, yA, bL, tL, q, p7, c0, c1, c2, ys, bs, us, tb, ts, ch.take 2 ++ zs.take 1, _, _, _, _, _, rfl, s1.trans (sm.trans vA), R.same (sm.trans vA), gtb, (sm.trans vA) _ _ hq, gts, lts, ?_, fun e he => ?_, ?_⟩
            · rw [upd_same, e1, ez, e6, List.map_append]
            · rcases List.mem_append.mp he with he | he
              · have := oc e (List.mem_of_mem_take he)
                exact ⟨this.1.same (sm.trans vA), this.2⟩
              · have m := mz e (List.mem_of_mem_take he)
                simp only [List.mem_cons, List.not_mem_nil, or_false] at m
                rcases m with rfl | rfl
                · exact ⟨⟨p2, rfl, (v3.trans (v4.trans (v5.trans (v6.trans v7')))) _ _ upd_same⟩, by simp [sgs], .inr gv, .inl g0⟩
                · exact ⟨⟨p3, rfl, (v4.trans (v5.trans (v6.trans v7'))) _ _ upd_same⟩, by simp [sgs], trivial, .inr gv⟩
            · rw [List.length_append, List.length_take, List.length_take]
              omega
          · obtain ⟨⟨v, rfl⟩, sm, fr, hfr, lfr, mfr, cov⟩ := p
            obtain ⟨rfl, c, hcc, rfl⟩ := y
            have hc2 : capS.cps.toList[i]? = some c := by rw [Array.getElem?_toList]; exact hcc
            have mc := List.mem_of_getElem? hc2
            have gv : txtB capS ⟨#[c]⟩ = true := txtB_of (c := c) (r := []) rfl (by decide) mc fun _ z => nomatch z
            refine ⟨_, rfl, _, rfl, .str ⟨#[c]⟩, us.map keyD, .str _ (txtB_str cap_lt gv), dL sm, Nat.le_trans (depth_keys us) (by decide), _, rfl, ite2 (fun h => ?_) (fun h => ?_)⟩
            · refine ⟨_, rfl, _, hfr, by rw [List.length_map]; exact small1000 (by omega), ⟨_, rfl⟩, sm.set hD, fr ++ [c], by rw [upd_same, List.map_append]; rfl, by rw [List.length_append]; exact Nat.succ_le_succ lfr, fun d hd => ?_, fun d hd => ?_⟩
              · rcases List.mem_append.mp hd with hd | hd
                · exact mfr d hd
                · rw [List.mem_singleton.mp hd]
                  exact mc
              · rw [List.take_succ, hc2] at hd
                rcases List.mem_append.mp hd with hd | hd
                · exact (cov d hd).imp (fun z => List.mem_append_left _ z) id
                · rw [List.mem_singleton.mp hd]
                  exact .inl (List.mem_append_right _ (List.mem_singleton.mpr rfl))
            · refine ⟨⟨_, rfl⟩, sm, fr, hfr, Nat.le_succ_of_le lfr, mfr, fun d hd => ?_⟩
              rw [List.take_succ, hc2] at hd
              rcases List.mem_append.mp hd with hd | hd
              · exact cov d hd
              · rw [List.mem_singleton.mp hd]
                exact .inr (any_keys (by simpa using h))
      · rintro σ H1 ⟨cA, xA, yA, bL, tL, q, cL, c0, c1, c2, ys, bs, us, tb, ts, ch, v7, v12, v13, v14, v15, rfl, s1, R, gtb, hq, gts, lts, hc, oc, lch⟩
        have C0 := SqL.of (K := K) R.cs
        refine ⟨_, rfl, _, rfl, ite2 (fun _ => iteT ?_) (fun _ => ?_)⟩
        · refine ⟨_, rfl, q, rfl, ⟨_, SqT.of hq⟩, fun D hD => ?_⟩
          refine comp_by (ts.map kV).length (fun i σ' G => (∃ v, σ' = [v, some (.ref tL), some (.ref yA)]) ∧ Same H1 G ∧ ∃ us2 : List Key, G D = some (.lst (us2.map kV)) ∧ us2.length = i ∧ ∀ u ∈ us2, GK u) ⟨⟨_, rfl⟩, same_upd hD, [], upd_same, rfl, fun _ z => nomatch z⟩ (fun i σ' G hi p => ?_) (fun σ' G p => ⟨?_, ?_⟩) (fun i σ' G hi p x G2 y => ?_)
          · obtain ⟨_, sm, _⟩ := p
            exact ⟨_, _, SqT.of (sm _ _ hq), List.getElem?_eq_getElem hi⟩
          · obtain ⟨_, sm, _⟩ := p
            exact ⟨_, SqT.of (sm _ _ hq), Nat.le_refl _⟩
          · obtain ⟨_, sm, us2, hu2, lu2, gu2⟩ := p
            rw [List.length_map] at lu2
            refine ⟨D, _, rfl, .inl ⟨SqL.of hu2, fun q2 hq2 => ?_⟩⟩
            have s2 := same_upd (o := HO.tup (us2.map kV)) hq2
            have hq3 : upd G q2 (.tup (us2.map kV)) q2 = some (.tup (us2.map kV)) := upd_same
            have R2 := R.same (sm.trans s2)
            have hc2 := (sm.trans s2) _ _ hc
            have oc2 : ∀ e ∈ ch, CVh (upd G q2 (.tup (us2.map kV))) e ∧ COk e.2 := fun e he => ⟨(oc e he).1.same (sm.trans s2), (oc e he).2⟩
            have sG := s1.trans (sm.trans s2)
            generalize upd G q2 (.tup (us2.map kV)) = H4 at hq3 R2 hc2 oc2 sG
            refine ⟨_, rfl, cL, rfl, ⟨_, SqL.of hc2⟩, fun D2 hD2 => ?_⟩
            refine comp_by (ch.map (·.1)).length (fun i σ' G => (∃ v, σ' = [v, some (.ref tL), some (.ref yA)]) ∧ Same H4 G ∧ ∃ ch2 : List (V × CT), G D2 = some (.lst (ch2.map (·.1))) ∧ ch2.length = i ∧ ∀ e ∈ ch2, CVh G e ∧ COk e.2) ⟨⟨_, rfl⟩, same_upd hD2, [], upd_same, rfl, fun _ z => nomatch z⟩ (fun i σ' G hi p => ?_) (fun σ' G p => ⟨?_, ?_⟩) (fun i σ' G hi p x G2 y => ?_)
            · obtain ⟨_, sm, _⟩ := p
              exact ⟨_, _, SqL.of (sm _ _ hc2), List.getElem?_eq_getElem hi⟩
            · obtain ⟨_, sm, _⟩ := p
              exact ⟨_, SqL.of (sm _ _ hc2), Nat.le_refl _⟩
            · obtain ⟨_, sm, ch2, hch2, lch2, och2⟩ := p
              rw [List.length_map] at lch2
              exact hC _ _ ⟨cA, xA, yA, bL, tL, q2, D2, c0, c1, c2, ys, bs, us, tb, us2, ch2, _, _, _, _, _, rfl, sG.trans sm, R2.same sm, gtb, sm _ _ hq3, gu2, by omega, hch2, och2, by omega⟩
            · obtain ⟨⟨v, rfl⟩, sm, ch2, hch2, lch2, och2⟩ := p
              obtain ⟨rfl, hx⟩ := y
              have hx' := hx _ (SqL.of (sm _ _ hc2))
              rw [List.getElem?_map] at hx'
              obtain ⟨⟨x0, e⟩, he, rfl⟩ := Option.map_eq_some_iff.mp hx'
              obtain ⟨⟨p, e1, hp⟩, ok⟩ := oc2 _ (List.mem_of_getElem? he)
              have e1 : x0 = .ref p := e1
              subst e1
              have hp1 := sm _ _ hp
              have R3 := R2.same sm
              refine ⟨_, rfl, _, _, _, _, rfl, rfl, SqT.of hp1, atI_nat (j := 0) rfl, ?_⟩
              refine ⟨_, rfl, _, _, _, _, rfl, rfl, SqT.of hp1, atI_nat (j := 1) rfl, _, rfl, _, rfl, _, _, _, _, rfl, rfl, SqL.of R3.y, R3.yat 18 (by decide), e.2.1, tL, us, _, rfl, ok.2.1, SqL.of R3.t, R3.ou, fun a' G3 s3 ga' => ?_⟩
              refine ⟨_, rfl, _, _, _, _, rfl, rfl, SqT.of (s3 _ _ hp1), atI_nat (j := 2) rfl, _, rfl, _, rfl, _, _, _, _, rfl, rfl, SqL.of (s3 _ _ R3.y), R3.yat 19 (by decide), e.2.2, tL, us, _, rfl, ok.2.2, SqL.of (s3 _ _ R3.t), R3.ou, fun b' G4 s4 gb' => ?_⟩
              refine ⟨by show 3 ≤ sizeLine; decide, fun p9 hp9 => ?_⟩
              have s9 := same_upd (o := HO.tup [.str e.1, kV a', kV b']) hp9
              have s49 := s3.trans (s4.trans s9)
              have hD9 := s49 _ _ hch2
              have lch : ch2.length < 400 := by
                have := (List.getElem?_eq_some_iff.mp he).1
                omega
              refine ⟨_, hD9, by rw [List.length_map]; exact small1000 (by omega), ⟨_, rfl⟩, (sm.trans s49).set hD2, ch2 ++ [(.ref p9, (e.1, a', b'))], by rw [upd_same, List.map_append]; rfl, by rw [List.length_append, lch2]; rfl, fun f hf => ?_⟩
              have kt := KT.upd (xs := ch2.map (·.1)) (ys := ch2.map (·.1) ++ [.ref p9]) (fun _ _ z => z) hD9
              rcases List.mem_append.mp hf with hf | hf
              · exact ⟨((och2 f hf).1.same s49).kt kt, (och2 f hf).2⟩
              · rw [List.mem_singleton.mp hf]
                exact ⟨⟨p9, rfl, kt _ _ upd_same⟩, ok.1, ga', gb'⟩
          · obtain ⟨⟨v, rfl⟩, sm, us2, hu2, lu2, gu2⟩ := p
            obtain ⟨rfl, hx⟩ := y
            have hx' := hx _ (SqT.of (sm _ _ hq))
            rw [List.getElem?_map] at hx'
            obtain ⟨t, ht, rfl⟩ := Option.map_eq_some_iff.mp hx'
            have R3 := R.same sm
            refine ⟨_, rfl, _, rfl, _, rfl, _, _, _, _, rfl, rfl, SqL.of R3.y, R3.yat 17 (by decide), t, tL, us, _, rfl, gts t (List.mem_of_getElem? ht), SqL.of R3.t, R3.ou, fun t' G3 s3 gt' => ?_⟩
            have lt4 : i < 400 := by
              have := (List.getElem?_eq_some_iff.mp ht).1
              omega
            refine ⟨_, s3 _ _ hu2, by rw [List.length_map, lu2]; exact small1000 (by omega), ⟨_, rfl⟩, (sm.trans s3).set hD, us2 ++ [t'], by rw [upd_same, List.map_append]; rfl, by rw [List.length_append, lu2]; rfl, fun x hx => ?_⟩
            rcases List.mem_append.mp hx with hx | hx
            · exact gu2 x hx
            · rw [List.mem_singleton.mp hx]
              exact gt'
        · refine ⟨_, rfl, _, _, _, _, rfl, rfl, C0, atI_nat (j := 0) rfl, _, _, rfl, rfl, (by show (0 : Int) < 4; decide), rfl, _, rfl, ite2 (fun _ => ?_) (fun _ => hC _ _ ⟨cA, xA, yA, bL, tL, q, cL, c0, c1, c2, ys, bs, us, tb, ts, ch, _, _, _, _, _, rfl, s1, R, gtb, hq, gts, lts, hc, oc, lch⟩)⟩
          refine ⟨_, rfl, q, rfl, ⟨_, SqT.of hq⟩, fun D hD => ?_⟩
          refine comp_by (ts.map kV).length (fun i σ' G => (∃ v, σ' = [v, some (.ref tL), some (.ref yA)]) ∧ Same H1 G ∧ ∃ us2 : List Key, G D = some (.lst (us2.map kV)) ∧ us2.length = i ∧ ∀ u ∈ us2, GK u) ⟨⟨_, rfl⟩, same_upd hD, [], upd_same, rfl, fun _ z => nomatch z⟩ (fun i σ' G hi p => ?_) (fun σ' G p => ⟨?_, ?_⟩) (fun i σ' G hi p x G2 y => ?_)
          · obtain ⟨_, sm, _⟩ := p
            exact ⟨_, _, SqT.of (sm _ _ hq), List.getElem?_eq_getElem hi⟩
          · obtain ⟨_, sm, _⟩ := p
            exact ⟨_, SqT.of (sm _ _ hq), Nat.le_refl _⟩
          · obtain ⟨_, sm, us2, hu2, lu2, gu2⟩ := p
            rw [List.length_map] at lu2
            refine ⟨D, _, rfl, .inl ⟨SqL.of hu2, fun q2 hq2 => ?_⟩⟩
            have s2 := same_upd (o := HO.tup (us2.map kV)) hq2
            have hq3 : upd G q2 (.tup (us2.map kV)) q2 = some (.tup (us2.map kV)) := upd_same
            have R2 := R.same (sm.trans s2)
            have hc2 := (sm.trans s2) _ _ hc
            have oc2 : ∀ e ∈ ch, CVh (upd G q2 (.tup (us2.map kV))) e ∧ COk e.2 := fun e he => ⟨(oc e he).1.same (sm.trans s2), (oc e he).2⟩
            have sG := s1.trans (sm.trans s2)
            generalize upd G q2 (.tup (us2.map kV)) = H4 at hq3 R2 hc2 oc2 sG
            refine ⟨_, rfl, cL, rfl, ⟨_, SqL.of hc2⟩, fun D2 hD2 => ?_⟩
            refine comp_by (ch.map (·.1)).length (fun i σ' G => (∃ v, σ' = [v, some (.ref tL), some (.ref yA)]) ∧ Same H4 G ∧ ∃ ch2 : List (V × CT), G D2 = some (.lst (ch2.map (·.1))) ∧ ch2.length = i ∧ ∀ e ∈ ch2, CVh G e ∧ COk e.2) ⟨⟨_, rfl⟩, same_upd hD2, [], upd_same, rfl, fun _ z => nomatch z⟩ (fun i σ' G hi p => ?_) (fun σ' G p => ⟨?_, ?_⟩) (fun i σ' G hi p x G2 y => ?_)
            · obtain ⟨_, sm, _⟩ := p
              exact ⟨_, _, SqL.of (sm _ _ hc2), List.getElem?_eq_getElem hi⟩
            · obtain ⟨_, sm, _⟩ := p
              exact ⟨_, SqL.of (sm _ _ hc2), Nat.le_refl _⟩
            · obtain ⟨_, sm, ch2, hch2, lch2, och2⟩ := p
              rw [List.length_map] at lch2
              exact hC _ _ ⟨cA, xA, yA, bL, tL, q2, D2, c0, c1, c2, ys, bs, us, tb, us2, ch2, _, _, _, _, _, rfl, sG.trans sm, R2.same sm, gtb, sm _ _ hq3, gu2, by omega, hch2, och2, by omega⟩
            · obtain ⟨⟨v, rfl⟩, sm, ch2, hch2, lch2, och2⟩ := p
              obtain ⟨rfl, hx⟩ := y
              have hx' := hx _ (SqL.of (sm _ _ hc2))
              rw [List.getElem?_map] at hx'
              obtain ⟨⟨x0, e⟩, he, rfl⟩ := Option.map_eq_some_iff.mp hx'
              obtain ⟨⟨p, e1, hp⟩, ok⟩ := oc2 _ (List.mem_of_getElem? he)
              have e1 : x0 = .ref p := e1
              subst e1
              have hp1 := sm _ _ hp
              have R3 := R2.same sm
              refine ⟨_, rfl, _, _, _, _, rfl, rfl, SqT.of hp1, atI_nat (j := 0) rfl, ?_⟩
              refine ⟨_, rfl, _, _, _, _, rfl, rfl, SqT.of hp1, atI_nat (j := 1) rfl, _, rfl, _, rfl, _, _, _, _, rfl, rfl, SqL.of R3.y, R3.yat 18 (by decide), e.2.1, tL, us, _, rfl, ok.2.1, SqL.of R3.t, R3.ou, fun a' G3 s3 ga' => ?_⟩
              refine ⟨_, rfl, _, _, _, _, rfl, rfl, SqT.of (s3 _ _ hp1), atI_nat (j := 2) rfl, _, rfl, _, rfl, _, _, _, _, rfl, rfl, SqL.of (s3 _ _ R3.y), R3.yat 19 (by decide), e.2.2, tL, us, _, rfl, ok.2.2, SqL.of (s3 _ _ R3.t), R3.ou, fun b' G4 s4 gb' => ?_⟩
              refine ⟨by show 3 ≤ sizeLine; decide, fun p9 hp9 => ?_⟩
              have s9 := same_upd (o := HO.tup [.str e.1, kV a', kV b']) hp9
              have s49 := s3.trans (s4.trans s9)
              have hD9 := s49 _ _ hch2
              have lch : ch2.length < 400 := by
                have := (List.getElem?_eq_some_iff.mp he).1
                omega
              refine ⟨_, hD9, by rw [List.length_map]; exact small1000 (by omega), ⟨_, rfl⟩, (sm.trans s49).set hD2, ch2 ++ [(.ref p9, (e.1, a', b'))], by rw [upd_same, List.map_append]; rfl, by rw [List.length_append, lch2]; rfl, fun f hf => ?_⟩
              have kt := KT.upd (xs := ch2.map (·.1)) (ys := ch2.map (·.1) ++ [.ref p9]) (fun _ _ z => z) hD9
              rcases List.mem_append.mp hf with hf | hf
              · exact ⟨((och2 f hf).1.same s49).kt kt, (och2 f hf).2⟩
              · rw [List.mem_singleton.mp hf]
                exact ⟨⟨p9, rfl, kt _ _ upd_same⟩, ok.1, ga', gb'⟩
          · obtain ⟨⟨v, rfl⟩, sm, us2, hu2, lu2, gu2⟩ := p
            obtain ⟨rfl, hx⟩ := y
            have hx' := hx _ (SqT.of (sm _ _ hq))
            rw [List.getElem?_map] at hx'
            obtain ⟨t, ht, rfl⟩ := Option.map_eq_some_iff.mp hx'
            have R3 := R.same sm
            refine ⟨_, rfl, _, rfl, _, rfl, _, _, _, _, rfl, rfl, SqL.of R3.y, R3.yat 17 (by decide), t, tL, us, _, rfl, gts t (List.mem_of_getElem? ht), SqL.of R3.t, R3.ou, fun t' G3 s3 gt' => ?_⟩
            have lt4 : i < 400 := by
              have := (List.getElem?_eq_some_iff.mp ht).1
              omega
            refine ⟨_, s3 _ _ hu2, by rw [List.length_map, lu2]; exact small1000 (by omega), ⟨_, rfl⟩, (sm.trans s3).set hD, us2 ++ [t'], by rw [upd_same, List.map_append]; rfl, by rw [List.length_append, lu2]; rfl, fun x hx => ?_⟩
            rcases List.mem_append.mp hx with hx | hx
            · exact gu2 x hx
            · rw [List.mem_singleton.mp hx]
              exact gt'
    · refine ⟨_, rfl, a, ns, _, rfl, hS, by decide, _, rfl, a, ns, _, rfl, hS, by decide, _, rfl, a, ns, _, rfl, hS, by decide, by show 3 ≤ sizeLine; decide, fun cA hcA => ?_⟩
      have s0 := same_upd (o := HO.lst [V.int (ns.getD (3 : Int).toNat 0), .int (ns.getD (4 : Int).toNat 0), .int (ns.getD (5 : Int).toNat 0)]) hcA
      have hC0 : upd H cA (HO.lst [V.int (ns.getD (3 : Int).toNat 0), .int (ns.getD (4 : Int).toNat 0), .int (ns.getD (5 : Int).toNat 0)]) cA = some (.lst [V.int (ns.getD (3 : Int).toNat 0), .int (ns.getD (4 : Int).toNat 0), .int (ns.getD (5 : Int).toNat 0)]) := upd_same
      generalize upd H cA (HO.lst [V.int (ns.getD (3 : Int).toNat 0), .int (ns.getD (4 : Int).toNat 0), .int (ns.getD (5 : Int).toNat 0)]) = H0 at s0 hC0
      generalize ns.getD (3 : Int).toNat 0 = c0 at hC0
      generalize ns.getD (4 : Int).toNat 0 = c1 at hC0
      generalize ns.getD (5 : Int).toNat 0 = c2 at hC0
      refine ⟨_, rfl, _, _, _, _, rfl, rfl, SqL.of hC0, atI_nat (j := 0) rfl, c0, 30, rfl, by decide, fun xA xs H1 s1 hx lx => ?_⟩
      have t1 := s0.trans s1
      have w0 := Int.emod_nonneg (xs.getD 27 0) (show (4 : Int) ≠ 0 by decide)
      have w1 := Int.emod_lt_of_pos (xs.getD 27 0) (show (0 : Int) < 4 by decide)
      refine ⟨_, rfl, _, _, _, _, rfl, rfl, SqL.of hx, at_ints lx 27 (by decide), _, _, rfl, rfl, (by show (0 : Int) < 4; decide), _, rfl, by omega, by omega, fun bL hbL => ?_⟩
      refine comp_by (xs.getD 27 0 % 4).toNat (fun i σ' G => (∃ v, σ' = [v, some (.ref W), some (.ref xA), some (.ref cA)]) ∧ Same H1 G ∧ ∃ bs : List (V × AT), G bL = some (.lst (bs.map (·.1))) ∧ bs.length = i ∧ ∀ e ∈ bs, AVh G e ∧ AOk e.2) ⟨⟨_, rfl⟩, same_upd hbL, [], upd_same, rfl, fun _ z => nomatch z⟩ (fun i σ' G hi p => hi) (fun σ' G p => ⟨Nat.le_refl _, ?_⟩) (fun i σ' G hi p x G2 y => ?_)
      · obtain ⟨_, s2, bs, hb, lb, ob⟩ := p
        have lb3 : bs.length ≤ 3 := by omega
        refine ⟨by decide, fun t0 ht0 => ?_⟩
        have s3 := same_upd (o := HO.lst []) ht0
        refine ⟨_, rfl, bL, rfl, ⟨_, SqL.of (s3 _ _ hb)⟩, ?_⟩
        refine for_list (xs := bs.map (·.1)) (fun i σ G3 => ∃ (tL : Addr) (us : List Key) (v7 : Option V), σ = [some (.ref a), some (.ref W), some (.bl sf), some (.ref cA), some (.ref xA), some (.ref bL), some (.ref tL), v7, none, none, none, none, none, none, none, none] ∧ Same G G3 ∧ G3 tL = some (.lst (us.map kV)) ∧ (∀ u ∈ us, GK u) ∧ us.length ≤ 4 * i) ⟨t0, [], none, rfl, s3, upd_same, (fun _ z => nomatch z), Nat.le_refl _⟩ (fun i σ G3 _ p => by obtain ⟨_, _, _, _, z, _⟩ := p; exact SqL.of (z _ _ hb)) ?_ ?_
        · rintro i x σ G3 hxi ⟨tL, us, v7, rfl, s4, htL, gu, lu⟩
          rw [List.getElem?_map] at hxi
          obtain ⟨⟨x0, e⟩, he, rfl⟩ := Option.map_eq_some_iff.mp hxi
          have hil := (List.getElem?_eq_some_iff.mp he).1
          obtain ⟨⟨p, q, e1, hp, hq⟩, ok⟩ := ob _ (List.mem_of_getElem? he)
          have e1 : x0 = .ref p := e1
          subst e1
          have hp4 := s4 _ _ hp
          have hq4 := s4 _ _ hq
          refine ⟨_, rfl, _, rfl, _, _, _, _, rfl, rfl, SqT.of hp4, atI_nat (j := 1) rfl, q, rfl, ⟨_, SqT.of hq4⟩, fun D hD => ?_⟩
          have lq : e.2.length ≤ 4 := ok.len
          refine comp_by (e.2.map kV).length (fun j σ' G5 => (∃ v, σ' = [v]) ∧ Same G3 G5 ∧ ∃ vs : List Key, G5 D = some (.lst (vs.map kV)) ∧ vs.length ≤ j ∧ ∀ u ∈ vs, GK u) ⟨⟨_, rfl⟩, same_upd hD, [], upd_same, Nat.le_refl _, fun _ z => nomatch z⟩ (fun j σ' G5 hj p => ?_) (fun σ' G5 p => ⟨?_, ?_⟩) (fun j σ' G5 hj p x G6 y => ?_)
          · obtain ⟨_, sm, _⟩ := p
            exact ⟨_, _, SqT.of (sm _ _ hq4), List.getElem?_eq_getElem hj⟩
          · obtain ⟨_, sm, _⟩ := p
            exact ⟨_, SqT.of (sm _ _ hq4), Nat.le_refl _⟩
          · obtain ⟨_, sm, vs, hvs, lvs, gvs⟩ := p
            rw [List.length_map] at lvs
            refine ⟨tL, D, _, _, rfl, rfl, sm _ _ htL, hvs, ?_, fun p9 hp9 => ?_⟩
            · rw [List.length_map, List.length_map]
              exact Nat.le_trans (show _ ≤ 1000 by omega) (by decide)
            · refine ⟨p9, us ++ vs, _, rfl, s4.trans (sm.trans (same_upd hp9)), by rw [upd_same, List.map_append], fun u hu => (List.mem_append.mp hu).elim (gu u) (gvs u), by rw [List.length_append]; omega⟩
          · obtain ⟨⟨v, rfl⟩, sm, vs, hvs, lvs, gvs⟩ := p
            obtain ⟨rfl, hx6⟩ := y
            have hx' := hx6 _ (SqT.of (sm _ _ hq4))
            rw [List.getElem?_map] at hx'
            obtain ⟨t, ht, rfl⟩ := Option.map_eq_some_iff.mp hx'
            have gt := ok.ks t (List.mem_of_getElem? ht)
            have hj4 : j < e.2.length := (List.getElem?_eq_some_iff.mp ht).1
            refine ⟨_, rfl, t, rfl, gt, _, rfl, ite2 (fun _ => ?_) (fun _ => ⟨⟨_, rfl⟩, sm, vs, hvs, Nat.le_succ_of_le lvs, gvs⟩)⟩
            refine ⟨_, rfl, _, hvs, by rw [List.length_map]; exact small1000 (by omega), ⟨_, rfl⟩, sm.set hD, vs ++ [t], by rw [upd_same, List.map_append]; rfl, by rw [List.length_append]; exact Nat.succ_le_succ lvs, fun u hu => ?_⟩
            rcases List.mem_append.mp hu with hu | hu
            · exact gvs u hu
            · rw [List.mem_singleton.mp hu]
              exact gt
        · rintro σ G3 ⟨tL, us, v7, rfl, s4, htL, gu, lu⟩
          rw [List.length_map] at lu
          have t3 := t1.trans (s2.trans s4)
          have C3 := SqL.of (K := K) (s4 _ _ (s2 _ _ (s1 _ _ hC0)))
          refine ⟨_, rfl, _, _, _, _, rfl, rfl, C3, atI_nat (j := 2) rfl, c2, 20, rfl, by decide, fun yA ys H5 s5 hy ly => ?_⟩
          have t5 := t3.trans s5
          refine ⟨_, rfl, _, rfl, _, _, rfl, SqL.of hy, fun p6 hp6 => ?_⟩
          have e6 : cutV (ys.map V.int) none (some (6 : Int)) = (ys.take 6).map V.int := cut_to V.int ys 6
          have s6 := same_upd (o := HO.lst (cutV (ys.map V.int) none (some 6))) hp6
          have h6 : SqL K (upd H5 p6 (.lst (cutV (ys.map V.int) none (some 6)))) p6 ((ys.take 6).map V.int) := SqL.of (by rw [upd_same, e6])
          refine ⟨_, rfl, _, _, _, _, rfl, rfl, s6.seq (s5.seq C3), atI_nat (j := 1) rfl, _, rfl, p6, W, ys.take 6, c1, rfl, h6, by rw [List.length_take]; omega, hW.same (t5.trans s6), fun p q e H7 s7 _ _ hp hq ok => ?_⟩
          have t7 := s6.trans s7
          refine ⟨p, _, rfl, SqT.of hp, rfl, _, _, rfl, _, _, rfl, rfl, ?_⟩
          have R7 : RS K H7 W cA yA bL tL c0 c1 c2 ys bs us := ⟨hW.same (t5.trans t7), (s1.trans (s2.trans (s4.trans (s5.trans t7)))) _ _ hC0, t7 _ _ hy, ly, (s4.trans (s5.trans t7)) _ _ hb, fun e he => ⟨(ob e he).1.same (s4.trans (s5.trans t7)), (ob e he).2⟩, lb3, (s5.trans t7) _ _ htL, gu, by omega⟩
          refine ⟨by decide, fun cL hcL => ?_⟩
          have s8 := same_upd (o := HO.lst []) hcL
          have R8 := R7.same s8
          have y0 := Int.emod_nonneg (ys.getD 6 0) (show (4 : Int) ≠ 0 by decide)
          have y1 := Int.emod_lt_of_pos (ys.getD 6 0) (show (0 : Int) < 4 by decide)
          refine ⟨_, rfl, _, _, _, _, rfl, rfl, SqL.of R8.y, R8.yat 6 (by decide), _, _, rfl, rfl, (by show (0 : Int) < 4; decide), _, rfl, by omega, by omega, ?_⟩
          refine for_range (lo := 0) (n := (ys.getD 6 0 % 4).toNat) (fun i σ G9 => ∃ (ch : List (V × CT)) (v12 v13 : Option V), σ = [some (.ref a), some (.ref W), some (.bl sf), some (.ref cA), some (.ref xA), some (.ref bL), some (.ref tL), v7, some (.ref yA), some (.str e.1), some (.ref q), some (.ref cL), v12, v13, none, none] ∧ Same H7 G9 ∧ G9 cL = some (.lst (ch.map (·.1))) ∧ ch.length = i ∧ ∀ e ∈ ch, CVh G9 e ∧ COk e.2) ⟨[], none, none, rfl, s8, upd_same, rfl, fun _ z => nomatch z⟩ ?_ ?_
          · rintro i σ G9 hi ⟨ch, v12, v13, rfl, s9, hch, lch, och⟩
            have R9 := R7.same s9
            have aty : ∀ b : Nat, b + i < 20 → atI (ys.map V.int) ((b : Int) + (0 + (i : Int))) = some (.int (ys.getD (b + i) 0)) := fun b hb => by
              rw [show (b : Int) + (0 + (i : Int)) = ((b + i : Nat) : Int) by omega]
              exact R9.yat _ hb
            refine ⟨by show 3 ≤ sizeLine; decide, fun p10 hp10 => ?_⟩
            have s10 := same_upd (o := HO.lst [V.str "=", .str "!=", .str "<"]) hp10
            obtain ⟨sv, hat, hsv⟩ := atI_in (xs := [V.str "=", .str "!=", .str "<"]) (i := ys.getD (7 + i) 0 % 3) (Int.emod_nonneg _ (by decide)) (Int.emod_lt_of_pos _ (by decide))
            obtain ⟨sg, rfl, gsg⟩ : ∃ z : Str, sv = .str z ∧ z ∈ sgs := by
              simp only [List.mem_cons, List.not_mem_nil, or_false] at hsv
              rcases hsv with rfl | rfl | rfl
              · exact ⟨_, rfl, by simp [sgs]⟩
              · exact ⟨_, rfl, by simp [sgs]⟩
              · exact ⟨_, rfl, by simp [sgs]⟩
            refine ⟨_, rfl, _, rfl, _, _, rfl, rfl, _, _, _, _, rfl, rfl, SqL.of (s10 _ _ R9.y), aty 7 (by omega), _, _, rfl, rfl, (by show (0 : Int) < 3; decide), _, _, _, _, rfl, rfl, SqL.of upd_same, hat, ?_⟩
            have hch10 := s10 _ _ hch
            have R10 := R9.same s10
            refine ⟨_, rfl, .inl ⟨rfl, _, SqL.of hch10⟩, _, rfl, ?_⟩
            refine ⟨_, rfl, _, rfl, _, _, rfl, rfl, _, _, _, _, rfl, rfl, SqL.of R10.y, aty 10 (by omega), _, rfl, _, _, _, _, rfl, rfl, SqL.of R10.cs, atI_nat (j := 0) rfl, _, rfl, _, _, W, rfl, R10.w, fun ta G11 s11 gta => ?_⟩
            have R11 := R10.same s11
            refine ⟨_, rfl, _, rfl, _, _, rfl, rfl, _, _, _, _, rfl, rfl, SqL.of R11.y, aty 13 (by omega), _, rfl, _, _, _, _, rfl, rfl, SqL.of R11.cs, atI_nat (j := 1) rfl, _, rfl, _, _, W, rfl, R11.w, fun tb' G12 s12 gtb' => ?_⟩
            refine ⟨by show 3 ≤ sizeLine; decide, fun p13 hp13 => ?_⟩
            have s13 := same_upd (o := HO.tup [.str sg, kV ta, kV tb']) hp13
            have s1013 := s10.trans (s11.trans (s12.trans s13))
            have hch13 := s1013 _ _ hch
            refine ⟨_, _, _, rfl, rfl, hch13, by rw [List.length_map, lch]; exact small1000 (by omega), ?_⟩
            refine ⟨ch ++ [(.ref p13, (sg, ta, tb'))], _, _, rfl, (s9.trans s1013).set hcL, by rw [upd_same, List.map_append]; rfl, by rw [List.length_append, lch]; rfl, fun f hf => ?_⟩
            have kt := KT.upd (xs := ch.map (·.1)) (ys := ch.map (·.1) ++ [.ref p13]) (fun _ _ z => z) hch13
            rcases List.mem_append.mp hf with hf | hf
            · exact ⟨((och f hf).1.same s1013).kt kt, (och f hf).2⟩
            · rw [List.mem_singleton.mp hf]
              exact ⟨⟨p13, rfl, kt _ _ upd_same⟩, gsg, gta, gtb'⟩
          · rintro σ G9 ⟨ch, v12, v13, rfl, s9, hch, lch, och⟩
            exact hC _ _ ⟨cA, xA, yA, bL, tL, q, cL, c0, c1, c2, ys, bs, us, e.1, e.2, ch, _, _, _, _, _, rfl, t5.trans (t7.trans s9), R7.same s9, ok.tb, s9 _ _ hq, ok.ks, ok.len, hch, och, by omega⟩
      · obtain ⟨⟨v, rfl⟩, s2, bs, hb, lb, ob⟩ := p
        obtain ⟨rfl, rfl⟩ := y
        have ec : cutV (xs.map V.int) (some (6 * (0 + (i : Int)))) (some (6 * (0 + (i : Int)) + 6)) = ((xs.drop (6 * i)).take 6).map V.int := by
          have := cut_mid V.int xs (6 * i) (6 * i + 6) (by omega) (by omega)
          rw [show ((6 * i : Nat) : Int) = 6 * (0 + (i : Int)) by omega, show ((6 * i + 6 : Nat) : Int) = 6 * (0 + (i : Int)) + 6 by omega, show 6 * i + 6 - 6 * i = 6 by omega] at this
          exact this
        refine ⟨_, rfl, _, rfl, _, _, rfl, rfl, .inl ⟨by decide, by decide⟩, _, rfl, _, rfl, _, _, rfl, rfl, .inl ⟨by decide, by decide⟩, _, _, rfl, rfl, _, rfl, _, _, rfl, SqL.of (s2 _ _ hx), fun p3 hp3 => ?_⟩
        have s3 := same_upd (o := HO.lst (cutV (xs.map V.int) (some (6 * (0 + (i : Int)))) (some (6 * (0 + (i : Int)) + 6)))) hp3
        have h3 : SqL K (upd G2 p3 (.lst (cutV (xs.map V.int) (some (6 * (0 + (i : Int)))) (some (6 * (0 + (i : Int)) + 6))))) p3 (((xs.drop (6 * i)).take 6).map V.int) := SqL.of (by rw [upd_same, ec])
        refine ⟨_, rfl, _, _, _, _, rfl, rfl, SqL.of (s3 _ _ (s2 _ _ (s1 _ _ hC0))), atI_nat (j := 1) rfl, _, rfl, p3, W, (xs.drop (6 * i)).take 6, c1, rfl, h3, by rw [List.length_take, List.length_drop]; omega, hW.same (t1.trans (s2.trans s3)), fun p q e H4 s4 _ _ hp hq ok => ?_⟩
        have s34 := s3.trans s4
        have hb4 := s34 _ _ hb
        refine ⟨_, hb4, by rw [List.length_map, lb]; exact small1000 (by omega), ⟨_, rfl⟩, (s2.trans s34).set hbL, bs ++ [(.ref p, e)], by rw [upd_same, List.map_append]; rfl, by rw [List.length_append, lb]; rfl, fun f hf => ?_⟩
        have kt := KT.upd (xs := bs.map (·.1)) (ys := bs.map (·.1) ++ [.ref p]) (fun _ _ z => z) hb4
        rcases List.mem_append.mp hf with hf | hf
        · exact ⟨((ob f hf).1.same s34).kt kt, (ob f hf).2⟩
        · rw [List.mem_singleton.mp hf]
          exact ⟨⟨p, q, rfl, kt _ _ hp, kt _ _ hq⟩, ok⟩
end
end Wy
namespace Wy
open PySem L2
section
variable {K : PySem.W.Frag}
theorem dl_drop {H : Hp} : ∀ {ds : List PyData} {xs : List V} (a : Nat), Dats K H ds xs → Dats K H (ds.drop a) (xs.drop a)
  | _, _, 0, h => h
  | _, _, _ + 1, .nil => .nil
  | _, _, a + 1, .cons _ h => dl_drop a h
theorem dl_take {H : Hp} : ∀ {ds : List PyData} {xs : List V} (a : Nat), Dats K H ds xs → Dats K H (ds.take a) (xs.take a)
  | _, _, 0, _ => .nil
  | _, _, _ + 1, .nil => .nil
  | _, _, a + 1, .cons d h => .cons d (dl_take a h)
theorem dl_app {H : Hp} : ∀ {ds es : List PyData} {xs ys : List V}, Dats K H ds xs → Dats K H es ys → Dats K H (ds ++ es) (xs ++ ys)
  | _, _, _, _, .nil, h => h
  | _, _, _, _, .cons d h1, h => .cons d (dl_app h1 h)
def cutD (ds : List PyData) (lo hi : Option Int) : List PyData := (ds.drop (HT.sIx ds.length 0 lo)).take (HT.sIx ds.length ds.length hi - HT.sIx ds.length 0 lo)
theorem dl_cut {H : Hp} {ds : List PyData} {xs : List V} (lo hi : Option Int) (h : Dats K H ds xs) : Dats K H (cutD ds lo hi) (cutV xs lo hi) := by
  unfold cutD cutV
  rw [dats_len h]
  exact dl_take _ (dl_drop _ h)
theorem cutD_len (ds : List PyData) (lo hi : Option Int) : (cutD ds lo hi).length ≤ ds.length := by
  unfold cutD
  rw [List.length_take, List.length_drop]
  omega
theorem cutD_mem {ds : List PyData} {lo hi : Option Int} {d : PyData} (h : d ∈ cutD ds lo hi) : d ∈ ds := List.mem_of_mem_drop (List.mem_of_mem_take h)
theorem cutD_to (ds : List PyData) (n : Nat) (h : n ≤ ds.length) : (cutD ds none (some (n : Int))).length = n := by
  unfold cutD
  rw [HT.sIx_none, HT.sIx_nat, List.drop_zero, Nat.sub_zero, List.length_take]
  omega
theorem oD_non {n : Nat} : okD n .none := by cases n <;> exact True.intro
theorem oD_bl {n : Nat} {b : Bool} : okD n (.bool b) := by cases n <;> exact True.intro
theorem oT {n : Nat} {ds : List PyData} (h : ds.length ≤ 10) (hd : ∀ e ∈ ds, okD n e) : okD (n + 1) (.tuple ds) := ⟨h, hd⟩
theorem oL {n : Nat} {ds : List PyData} (h : ds.length ≤ 10) (hd : ∀ e ∈ ds, okD n e) : okD (n + 1) (.list ds) := ⟨h, hd⟩
theorem oKs (n : Nat) {ts : List Key} (h : ∀ t ∈ ts, GK t) : ∀ e ∈ ts.map keyD, okD n e := fun e he => by
  obtain ⟨t, ht, rfl⟩ := List.mem_map.mp he
  exact (h t ht).okD n
theorem atom_un {H : Hp} {e : AT} {x : V} (h : Dat K H (atomDat e) x) : ∃ p q zs, x = .ref p ∧ SqT K H p [.str e.1, .ref q] ∧ SqT K H q zs ∧ Dats K H (e.2.map keyD) zs := by
  cases h with
  | tup hp hys =>
    cases hys with
    | cons h1 hr =>
      cases h1
      cases hr with
      | cons h2 hr2 =>
        cases hr2
        cases h2 with
        | tup hq hzs => exact ⟨_, _, _, rfl, hp, hq, hzs⟩
theorem choice_un {H : Hp} {e : CT} {x : V} (h : Dat K H (choiceDat e) x) : ∃ p a b, x = .ref p ∧ SqT K H p [.str e.1, a, b] ∧ Dat K H (keyD e.2.1) a ∧ Dat K H (keyD e.2.2) b := by
  cases h with
  | tup hp hys =>
    cases hys with
    | cons h1 hr =>
      cases h1
      cases hr with
      | cons h2 hr2 =>
        cases hr2 with
        | cons h3 hr3 =>
          cases hr3
          exact ⟨_, _, _, rfl, hp, h2, h3⟩
theorem rule_un {H : Hp} {R : Rl} {x : V} (h : Dat K H (ruleDat R) x) : ∃ p hv b c bs cs, x = .ref p ∧ SqT K H p [hv, .ref b, .ref c] ∧ Dat K H (atomDat R.hd) hv ∧ SqT K H b bs ∧ Dats K H (R.as.map atomDat) bs ∧ SqT K H c cs ∧ Dats K H (R.cs.map choiceDat) cs := by
  cases h with
  | tup hp hys =>
    cases hys with
    | cons h1 hr =>
      cases hr with
      | cons h2 hr2 =>
        cases hr2 with
        | cons h3 hr3 =>
          cases hr3
          cases h2 with
          | tup hb hbs =>
            cases h3 with
            | tup hc hcs => exact ⟨_, _, _, _, _, _, rfl, hp, h1, hb, hbs, hc, hcs⟩
theorem all_no {ds : List PyData} {f : PyData → Bool} {d : PyData} (h : d ∈ ds) (e : f d = false) : ds.all f = false := by
  rw [Bool.eq_false_iff]
  intro z
  rw [List.all_eq_true.mp z d h] at e
  cases e
theorem up_no {m : Nat} {f : PyData → Bool} {ds : List PyData} {d : PyData} (h : d ∈ ds) (e : f d = false) : upD m f (.tuple ds) = false := by
  rw [upD, all_no h e, Bool.and_false]
theorem up_long {m : Nat} {f : PyData → Bool} {ds : List PyData} (h : m < ds.length) : upD m f (.tuple ds) = false := by
  rw [upD, decide_eq_false (by omega), Bool.false_and]
theorem atom_tm {a b : PyData} (h : termsB b = false) : atomB (.tuple [a, b]) = false := by rw [atomB, h, Bool.and_false]
theorem atom_tb {a b : PyData} (h : txtD small a = false) : atomB (.tuple [a, b]) = false := by rw [atomB, h, Bool.false_and]
variable {P : Program} {w : World} {mg : Str → Option Value} {base : Heap}
def sp_spat (K : PySem.W.Frag) : Sp := fun vs H Q _ => ∃ (x : V) (e : AT) (way c : Int), vs = [x, .int way, .int c] ∧ Dat K H (atomDat e) x ∧ AOk e ∧ ∀ y d H', Same H H' → Dat K H' d y → atomB d = false → (∀ n, okD (n + 3) d) → Q y H'
theorem ok__law_spoiled_atom (T : Txt K mg) : Def P w K mg base 2 "_law_spoiled_atom" ["_law_atom_here", "_law_way", "_law_cell"] (sp_spat K) := by
  refine T.t__law_spoiled_atom.ok sc__law_spoiled_atom (fun vs H Q E h => ?_) fun f cdv A outer s H vs Q E hr h => ?_
  · obtain ⟨x, e, way, c, rfl, _⟩ := h
    rfl
  · obtain ⟨x, e, way, c, rfl, hd, ok, q⟩ := h
    obtain ⟨p, qq, zs, rfl, hp, hq, hzs⟩ := atom_un hd
    have gtb := ok.tb
    have dtb : ∀ {G : Hp}, Dat K G (.str e.1) (.str e.1) := .str _ (txtB_str small_lt gtb)
    have otb : ∀ n, okD n (.str e.1) := fun n => oD_str (Nat.le_trans (txtB_parts gtb).2.1 (by decide))
    have lz : zs.length = e.2.length := by rw [← dats_len hzs, List.length_map]
    have l4 := ok.len
    have dts : ∀ {G : Hp}, Same H G → Dat K G (.tuple (e.2.map keyD)) (.ref qq) := fun sG => .tup (sG.seqT hq) (Dats.same sG _ _ hzs)
    have ots : ∀ n, okD (n + 1) (.tuple (e.2.map keyD)) := fun n => oT (by rw [List.length_map]; omega) (oKs n ok.ks)
    refine ⟨_, (pss_11
      (ps_asg (pv 0) (pg_tup rfl (pgs_cons (pg_name (i := 3) sc__law_spoiled_atom.nd rfl (Or.inl rfl)) (pgs_cons (pg_name (i := 4) sc__law_spoiled_atom.nd rfl (Or.inl rfl)) pgs_nil))))
      (ps_if (pt_cmpR op_eq (pv 1) pe_int (nomark _)) (pss_one (ps_ret (pe_lst (pa_2 (pv 3) (pv 4))))) pss_nil)
      (ps_if (pt_cmpR op_eq (pv 1) pe_int (nomark _)) (pss_one (ps_ret (pe_tup (pa_2 (pv 3) (pe_callTy (call_listK K) rfl T.b_list bt_list (pa_1 (pv 4))))))) pss_nil)
      (ps_if (pt_cmpR op_eq (pv 1) pe_int (nomark _)) (pss_one (ps_ret (pe_tup (pa_2 (pv 3) (pe_slice (sl_tupA K) (pe_op (op_catA K) (pv 4) (pe_tup (pa_5 pe_int pe_int pe_int pe_int pe_int))) po_none (po_some pe_int)))))) pss_nil)
      (ps_if (pt_cmpR op_eq (pv 1) pe_int (nomark _)) (pss_one (ps_ret (pe_tup (pa_2 (pe_ix (ix_listK K) (pe_lst (pa_5 (pe_def (ok__law_capital T) hr rfl (pa_1 (pv 3))) pe_str pe_int pe_non (pe_tup (pa_1 (pv 3))))) (pe_op op_mod (pv 2) pe_int) (fun _ _ => rfl)) (pv 4))))) pss_nil)
      (ps_if (pt_cmpR op_eq (pv 1) pe_int (nomark _)) (pss_one (ps_ret (pe_ix (ix_listK K) (pe_lst (pa_3 (pe_tup (pa_1 (pv 3))) (pe_tup (pa_3 (pv 3) (pv 4) (pv 4))) (pe_tup (pa_3 (pv 3) (pv 4) (pe_tup pa_nil))))) (pe_op op_mod (pv 2) pe_int) (fun _ _ => rfl)))) pss_nil)
      (ps_if (pt_cmpR op_eq (pv 1) pe_int (nomark _)) (pss_one (ps_ret (pe_ix (ix_listK K) (pe_lst (pa_6 pe_non pe_int pe_str (pe_tup pa_nil) (pv 3) pe_bl)) (pe_op op_mod (pv 2) pe_int) (fun _ _ => rfl)))) pss_nil)
      (ps_set (i := 4) sc__law_spoiled_atom.nd rfl (Or.inl rfl) (pe_slice (sl_tupA K) (pv 4) po_none (po_some pe_int)))
      (ps_set (i := 5) sc__law_spoiled_atom.nd rfl (Or.inl rfl) (pe_op op_mod (pe_op op_fdiv (pv 2) pe_int) (pe_op op_add (pe_callB (call_lenK K) rfl T.b_len bt_len (pa_1 (pv 4))) pe_int)))
      (ps_set (i := 6) sc__law_spoiled_atom.nd rfl (Or.inl rfl) (pe_ix (ix_listK K) (pe_lst (pa_7 pe_non pe_bl pe_str pe_str (pe_tup (pa_1 pe_int)) (pe_lst (pa_1 pe_str)) pe_str)) (pe_op op_mod (pv 2) pe_int) (fun _ _ => rfl)))
      (ps_ret (pe_tup (pa_2 (pv 3) (pe_op (op_catA K) (pe_op (op_catA K) (pe_slice (sl_tupA K) (pv 4) po_none (po_some (pv 5))) (pe_tup (pa_1 (pv 6)))) (pe_slice (sl_tupA K) (pv 4) (po_some (pe_op op_add (pv 5) pe_int)) po_none)))))), ?_⟩
    refine ⟨_, rfl, p, _, rfl, hp, rfl, _, _, rfl, _, _, rfl, rfl, ?_⟩
    refine ⟨_, rfl, rfl, _, rfl, ite2 (fun _ => ?_) (fun _ => ?_)⟩
    · refine ⟨_, rfl, _, rfl, by show 2 ≤ sizeLine; decide, fun p1 hp1 => ?_⟩
      have s1 := same_upd (o := HO.lst [.str e.1, .ref qq]) hp1
      refine q _ (.list [.str e.1, .tuple (e.2.map keyD)]) _ s1 (.lst (SqL.of upd_same) (.cons dtb (.cons (dts s1) .nil))) rfl fun n => oL (by simp) fun d hd => ?_
      simp only [List.mem_cons, List.not_mem_nil, or_false] at hd
      rcases hd with rfl | rfl
      · exact otb _
      · exact ots (n + 1)
    refine ⟨_, rfl, rfl, _, rfl, ite2 (fun _ => ?_) (fun _ => ?_)⟩
    · refine ⟨_, rfl, _, rfl, _, _, rfl, .inr hq, fun l hl => ⟨by show 2 ≤ sizeLine; decide, fun p1 hp1 => ?_⟩⟩
      have s0 := same_upd (o := HO.lst zs) hl
      have s1 := same_upd (o := HO.tup [.str e.1, .ref l]) hp1
      refine q _ (.tuple [.str e.1, .list (e.2.map keyD)]) _ (s0.trans s1) (.tup (SqT.of upd_same) (.cons dtb (.cons (.lst (SqL.of (s1 _ _ upd_same)) (Dats.same (s0.trans s1) _ _ hzs)) .nil))) (atom_tm rfl) fun n => oT (by simp) fun d hd => ?_
      simp only [List.mem_cons, List.not_mem_nil, or_false] at hd
      rcases hd with rfl | rfl
      · exact otb _
      · exact oL (by rw [List.length_map]; omega) (oKs _ ok.ks)
    refine ⟨_, rfl, rfl, _, rfl, ite2 (fun _ => ?_) (fun _ => ?_)⟩
    · refine ⟨_, rfl, _, rfl, by show 5 ≤ sizeLine; decide, fun p1 hp1 => ?_⟩
      have s1 := same_upd (o := HO.tup [.int 1, .int 2, .int 3, .int 4, .int 5]) hp1
      refine ⟨_, _, _, _, rfl, rfl, s1.seqT hq, SqT.of upd_same, ?_, fun p2 H2 s2 hp2 => ?_⟩
      · show zs.length + 5 ≤ sizeLine
        exact Nat.le_trans (show _ ≤ 1000 by omega) (by decide)
      refine ⟨_, rfl, _, _, rfl, hp2, fun p3 H3 s3 hp3 => ⟨by show 2 ≤ sizeLine; decide, fun p4 hp4 => ?_⟩⟩
      have s4 := same_upd (o := HO.tup [.str e.1, .ref p3]) hp4
      have t4 := s1.trans (s2.trans (s3.trans s4))
      have dd : Dats K (upd H3 p4 (HO.tup [.str e.1, .ref p3])) (cutD (e.2.map keyD ++ [.int 1, .int 2, .int 3, .int 4, .int 5]) none (some 5)) (cutV (zs ++ [.int 1, .int 2, .int 3, .int 4, .int 5]) none (some 5)) := dl_cut _ _ (dl_app (Dats.same t4 _ _ hzs) (.cons (.int 1) (.cons (.int 2) (.cons (.int 3) (.cons (.int 4) (.cons (.int 5) .nil))))))
      have l5 : (cutD (e.2.map keyD ++ [.int 1, .int 2, .int 3, .int 4, .int 5]) none (some 5)).length = 5 := cutD_to _ 5 (by rw [List.length_append]; show 5 ≤ _ + 5; omega)
      refine q _ (.tuple [.str e.1, .tuple (cutD (e.2.map keyD ++ [.int 1, .int 2, .int 3, .int 4, .int 5]) none (some 5))]) _ t4 (.tup (SqT.of upd_same) (.cons dtb (.cons (.tup (s4.seqT hp3) dd) .nil))) (atom_tm (up_long (by rw [l5]; decide))) fun n => oT (by simp) fun d hd => ?_
      simp only [List.mem_cons, List.not_mem_nil, or_false] at hd
      rcases hd with rfl | rfl
      · exact otb _
      · refine oT (by rw [l5]; decide) fun d hd => ?_
        rcases List.mem_append.mp (cutD_mem hd) with hd | hd
        · exact oKs _ ok.ks d hd
        · simp only [List.mem_cons, List.not_mem_nil, or_false] at hd
          rcases hd with rfl | rfl | rfl | rfl | rfl <;> exact oD_int
    refine ⟨_, rfl, rfl, _, rfl, ite2 (fun _ => ?_) (fun _ => ?_)⟩
    · refine ⟨_, rfl, e.1, rfl, gtb, fun y gy => ?_⟩
      refine ⟨_, rfl, by show 1 ≤ sizeLine; decide, fun p1 hp1 => ⟨by show 5 ≤ sizeLine; decide, fun p2 hp2 => ?_⟩⟩
      have s1 := same_upd (o := HO.tup [.str e.1]) hp1
      have s2 := same_upd (o := HO.lst [.str y, .str "", .int 7, .non, .ref p1]) hp2
      obtain ⟨v, hat, hv⟩ := atI_in (xs := [V.str y, .str "", .int 7, .non, .ref p1]) (i := c % 5) (Int.emod_nonneg _ (by decide)) (Int.emod_lt_of_pos _ (by decide))
      refine ⟨_, rfl, _, _, rfl, rfl, (by show (0 : Int) < 5; decide), _, _, _, _, rfl, rfl, SqL.of upd_same, hat, _, rfl, by show 2 ≤ sizeLine; decide, fun p3 hp3 => ?_⟩
      have s3 := same_upd (o := HO.tup [v, .ref qq]) hp3
      have t3 := s1.trans (s2.trans s3)
      obtain ⟨d1, hd1, hn1, ho1⟩ : ∃ d1, Dat K (upd (upd (upd H p1 (.tup [.str e.1])) p2 (.lst [.str y, .str "", .int 7, .non, .ref p1])) p3 (.tup [v, .ref qq])) d1 v ∧ txtD small d1 = false ∧ ∀ n, okD (n + 1) d1 := by
        simp only [List.mem_cons, List.not_mem_nil, or_false] at hv
        rcases hv with rfl | rfl | rfl | rfl | rfl
        · exact ⟨.str y, .str _ (txtB_str cap_lt gy), cap_no gy, fun n => oD_str (Nat.le_trans (txtB_parts gy).2.1 (by decide))⟩
        · exact ⟨.str "", .str _ (by decide +kernel), rfl, fun n => oD_str (by decide)⟩
        · exact ⟨.int 7, .int 7, rfl, fun n => oD_int⟩
        · exact ⟨.none, .non, rfl, fun n => oD_non⟩
        · exact ⟨.tuple [.str e.1], .tup (SqT.of ((s2.trans s3) _ _ upd_same)) (.cons dtb .nil), rfl, fun n => oT (by simp) fun d hd => by rw [List.mem_singleton.mp hd]; exact otb n⟩
      refine q _ (.tuple [d1, .tuple (e.2.map keyD)]) _ t3 (.tup (SqT.of upd_same) (.cons hd1 (.cons (dts t3) .nil))) (atom_tb hn1) fun n => oT (by simp) fun d hd => ?_
      simp only [List.mem_cons, List.not_mem_nil, or_false] at hd
      rcases hd with rfl | rfl
      · exact ho1 _
      · exact ots (n + 1)
    refine ⟨_, rfl, rfl, _, rfl, ite2 (fun _ => ?_) (fun _ => ?_)⟩
    · refine ⟨_, rfl, by show 1 ≤ sizeLine; decide, fun p1 hp1 => ?_⟩
      have s1 := same_upd (o := HO.tup [.str e.1]) hp1
      refine ⟨_, rfl, _, rfl, _, rfl, by show 3 ≤ sizeLine; decide, fun p2 hp2 => ?_⟩
      have s2 := same_upd (o := HO.tup [.str e.1, .ref qq, .ref qq]) hp2
      refine ⟨_, rfl, _, rfl, by decide, fun p3 hp3 => ⟨by show 3 ≤ sizeLine; decide, fun p4 hp4 => ⟨by show 3 ≤ sizeLine; decide, fun p5 hp5 => ?_⟩⟩⟩
      have s3 := same_upd (o := HO.tup []) hp3
      have s4 := same_upd (o := HO.tup [.str e.1, .ref qq, .ref p3]) hp4
      have s5 := same_upd (o := HO.lst [.ref p1, .ref p2, .ref p4]) hp5
      have t5 := s1.trans (s2.trans (s3.trans (s4.trans s5)))
      obtain ⟨v, hat, hv⟩ := atI_in (xs := [V.ref p1, .ref p2, .ref p4]) (i := c % 3) (Int.emod_nonneg _ (by decide)) (Int.emod_lt_of_pos _ (by decide))
      refine ⟨_, rfl, _, _, rfl, rfl, (by show (0 : Int) < 3; decide), _, _, _, _, rfl, rfl, SqL.of upd_same, hat, ?_⟩
      simp only [List.mem_cons, List.not_mem_nil, or_false] at hv
      rcases hv with rfl | rfl | rfl
      · exact q _ (.tuple [.str e.1]) _ t5 (.tup (SqT.of ((s2.trans (s3.trans (s4.trans s5))) _ _ upd_same)) (.cons dtb .nil)) rfl fun n => oT (by simp) fun d hd => by rw [List.mem_singleton.mp hd]; exact otb _
      · refine q _ (.tuple [.str e.1, .tuple (e.2.map keyD), .tuple (e.2.map keyD)]) _ t5 (.tup (SqT.of ((s3.trans (s4.trans s5)) _ _ upd_same)) (.cons dtb (.cons (dts t5) (.cons (dts t5) .nil)))) rfl fun n => oT (by simp) fun d hd => ?_
        simp only [List.mem_cons, List.not_mem_nil, or_false] at hd
        rcases hd with rfl | rfl | rfl
        · exact otb _
        · exact ots (n + 1)
        · exact ots (n + 1)
      · refine q _ (.tuple [.str e.1, .tuple (e.2.map keyD), .tuple []]) _ t5 (.tup (SqT.of (s5 _ _ upd_same)) (.cons dtb (.cons (dts t5) (.cons (.tup (SqT.of ((s4.trans s5) _ _ upd_same)) .nil) .nil)))) rfl fun n => oT (by simp) fun d hd => ?_
        simp only [List.mem_cons, List.not_mem_nil, or_false] at hd
        rcases hd with rfl | rfl | rfl
        · exact otb _
        · exact ots (n + 1)
        · exact oT (by decide) fun _ z => nomatch z
    refine ⟨_, rfl, rfl, _, rfl, ite2 (fun _ => ?_) (fun _ => ?_)⟩
    · refine ⟨by decide, fun p1 hp1 => ⟨_, rfl, by show 6 ≤ sizeLine; decide, fun p2 hp2 => ?_⟩⟩
      have s1 := same_upd (o := HO.tup []) hp1
      have s2 := same_upd (o := HO.lst [.non, .int 7, .str "ab", .ref p1, .str e.1, .bl true]) hp2
      obtain ⟨v, hat, hv⟩ := atI_in (xs := [V.non, .int 7, .str "ab", .ref p1, .str e.1, .bl true]) (i := c % 6) (Int.emod_nonneg _ (by decide)) (Int.emod_lt_of_pos _ (by decide))
      refine ⟨_, rfl, _, _, rfl, rfl, (by show (0 : Int) < 6; decide), _, _, _, _, rfl, rfl, SqL.of upd_same, hat, ?_⟩
      simp only [List.mem_cons, List.not_mem_nil, or_false] at hv
      rcases hv with rfl | rfl | rfl | rfl | rfl | rfl
      · exact q _ .none _ (s1.trans s2) .non rfl fun n => oD_non
      · exact q _ (.int 7) _ (s1.trans s2) (.int 7) rfl fun n => oD_int
      · exact q _ (.str "ab") _ (s1.trans s2) (.str _ (by decide +kernel)) rfl fun n => oD_str (by decide)
      · exact q _ (.tuple []) _ (s1.trans s2) (.tup (SqT.of (s2 _ _ upd_same)) .nil) rfl fun n => oT (by decide) fun _ z => nomatch z
      · exact q _ (.str e.1) _ (s1.trans s2) dtb rfl fun n => otb _
      · exact q _ (.bool true) _ (s1.trans s2) (.bl true) rfl fun n => oD_bl
    · refine ⟨_, rfl, _, rfl, _, _, rfl, hq, fun q2 H2 s2 hq2 => ?_⟩
      have d2 := dl_cut none (some 3) (Dats.same s2 _ _ hzs)
      have o2 : ∀ n, ∀ d ∈ cutD (e.2.map keyD) none (some 3), okD n d := fun n d hd => oKs n ok.ks d (cutD_mem hd)
      have l2 : (cutD (e.2.map keyD) none (some 3)).length ≤ 4 := Nat.le_trans (cutD_len _ _ _) (by rw [List.length_map]; exact l4)
      generalize cutD (e.2.map keyD) none (some 3) = ds3 at d2 o2 l2
      generalize cutV zs none (some 3) = zs3 at d2 hq2
      have l3 := dats_len d2
      have b0 := Int.emod_nonneg (c / 7) (show ((zs3.length : Int) + 1) ≠ 0 by omega)
      refine ⟨_, rfl, _, _, rfl, rfl, ⟨by decide, by decide⟩, _, rfl, _, _, rfl, .inr ⟨_, hq2, rfl⟩, _, _, rfl, rfl, _, _, rfl, rfl, (by show (0 : Int) < (zs3.length : Int) + 1; omega), ?_⟩
      refine ⟨by show 1 ≤ sizeLine; decide, fun p3 hp3 => ⟨by show 1 ≤ sizeLine; decide, fun p4 hp4 => ⟨by show 7 ≤ sizeLine; decide, fun p5 hp5 => ?_⟩⟩⟩
      have s3 := same_upd (o := HO.tup [.int 1]) hp3
      have s4 := same_upd (o := HO.lst [.str "a"]) hp4
      have s5 := same_upd (o := HO.lst [.non, .bl true, .str "", .str "a b", .ref p3, .ref p4, .str "aB"]) hp5
      obtain ⟨v, hat, hv⟩ := atI_in (xs := [V.non, .bl true, .str "", .str "a b", .ref p3, .ref p4, .str "aB"]) (i := c % 7) (Int.emod_nonneg _ (by decide)) (Int.emod_lt_of_pos _ (by decide))
      refine ⟨_, rfl, _, _, rfl, rfl, (by show (0 : Int) < 7; decide), _, _, _, _, rfl, rfl, SqL.of upd_same, hat, ?_⟩
      have t5 := s3.trans (s4.trans s5)
      obtain ⟨od, hod, hno, hoo⟩ : ∃ od, Dat K (upd (upd (upd H2 p3 (.tup [.int 1])) p4 (.lst [.str "a"])) p5 (.lst [.non, .bl true, .str "", .str "a b", .ref p3, .ref p4, .str "aB"])) od v ∧ termB od = false ∧ ∀ n, okD (n + 1) od := by
        simp only [List.mem_cons, List.not_mem_nil, or_false] at hv
        rcases hv with rfl | rfl | rfl | rfl | rfl | rfl | rfl
        · exact ⟨.none, .non, rfl, fun n => oD_non⟩
        · exact ⟨.bool true, .bl true, rfl, fun n => oD_bl⟩
        · exact ⟨.str "", .str _ (by decide +kernel), by decide +kernel, fun n => oD_str (by decide)⟩
        · exact ⟨.str "a b", .str _ (by decide +kernel), by decide +kernel, fun n => oD_str (by decide)⟩
        · exact ⟨.tuple [.int 1], .tup (SqT.of ((s4.trans s5) _ _ upd_same)) (.cons (.int 1) .nil), rfl, fun n => oT (by simp) fun d hd => by rw [List.mem_singleton.mp hd]; exact oD_int⟩
        · exact ⟨.list [.str "a"], .lst (SqL.of (s5 _ _ upd_same)) (.cons (.str _ (by decide +kernel)) .nil), rfl, fun n => oL (by simp) fun d hd => by rw [List.mem_singleton.mp hd]; exact oD_str (by decide)⟩
        · exact ⟨.str "aB", .str _ (by decide +kernel), by decide +kernel, fun n => oD_str (by decide)⟩
      refine ⟨_, rfl, _, rfl, _, rfl, _, rfl, _, _, rfl, t5.seqT hq2, fun p6 H6 s6 hp6 => ?_⟩
      refine ⟨_, rfl, by show 1 ≤ sizeLine; decide, fun p7 hp7 => ?_⟩
      have s7 := same_upd (o := HO.tup [v]) hp7
      refine ⟨_, _, _, _, rfl, rfl, s7.seqT hp6, SqT.of upd_same, ?_, fun p8 H8 s8 hp8 => ?_⟩
      · have := cutV_length zs3 none (some (c / 7 % ((zs3.length : Int) + 1)))
        show _ + 1 ≤ sizeLine
        exact Nat.le_trans (show _ ≤ 1000 by omega) (by decide)
      have t8 := s6.trans (s7.trans s8)
      refine ⟨_, rfl, _, rfl, _, _, rfl, rfl, _, rfl, _, _, rfl, (t5.trans t8).seqT hq2, fun p9 H9 s9 hp9 => ?_⟩
      refine ⟨_, _, _, _, rfl, rfl, s9.seqT hp8, hp9, ?_, fun p10 H10 s10 hp10 => ⟨by show 2 ≤ sizeLine; decide, fun p11 hp11 => ?_⟩⟩
      · have h1 := cutV_length zs3 none (some (c / 7 % ((zs3.length : Int) + 1)))
        have h2 := cutV_length zs3 (some (c / 7 % ((zs3.length : Int) + 1) + 1)) none
        rw [List.length_append]
        show _ + 1 + _ ≤ sizeLine
        exact Nat.le_trans (show _ ≤ 1000 by omega) (by decide)
      have s11 := same_upd (o := HO.tup [.str e.1, .ref p10]) hp11
      have t11 := t8.trans (s9.trans (s10.trans s11))
      have dd := dl_app (dl_app (dl_cut none (some (c / 7 % ((zs3.length : Int) + 1))) (Dats.same (t5.trans t11) _ _ d2)) (.cons (Dat.same t11 _ _ hod) .nil)) (dl_cut (some (c / 7 % ((zs3.length : Int) + 1) + 1)) none (Dats.same (t5.trans t11) _ _ d2))
      refine q _ (.tuple [.str e.1, .tuple _]) _ (s2.trans (t5.trans t11)) (.tup (SqT.of upd_same) (.cons dtb (.cons (.tup (s11.seqT hp10) dd) .nil))) (atom_tm (up_no (d := od) (by simp) hno)) fun n => oT (by simp) fun d hd => ?_
      simp only [List.mem_cons, List.not_mem_nil, or_false] at hd
      rcases hd with rfl | rfl
      · exact otb _
      · refine oT ?_ fun d hd => ?_
        · have h1 := cutD_len ds3 none (some (c / 7 % ((zs3.length : Int) + 1)))
          have h2 := cutD_len ds3 (some (c / 7 % ((zs3.length : Int) + 1) + 1)) none
          rw [List.length_append, List.length_append]
          show _ + 1 + _ ≤ 10
          omega
        · rcases List.mem_append.mp hd with hd | hd
          · rcases List.mem_append.mp hd with hd | hd
            · exact o2 _ d (cutD_mem hd)
            · rw [List.mem_singleton.mp hd]
              exact hoo n
          · exact o2 _ d (cutD_mem hd)
end
end Wy
namespace Wy
open PySem L2
theorem oT1 {n : Nat} {a : PyData} (ha : okD n a) : okD (n + 1) (.tuple [a]) := oT (by simp) fun d hd => by rw [List.mem_singleton.mp hd]; exact ha
theorem oT2 {n : Nat} {a b : PyData} (ha : okD n a) (hb : okD n b) : okD (n + 1) (.tuple [a, b]) := oT (by simp) fun d hd => by
  simp only [List.mem_cons, List.not_mem_nil, or_false] at hd
  rcases hd with rfl | rfl
  · exact ha
  · exact hb
theorem mem3 {n : Nat} {a b c : PyData} (ha : okD n a) (hb : okD n b) (hc : okD n c) : ∀ d ∈ [a, b, c], okD n d := fun d hd => by
  simp only [List.mem_cons, List.not_mem_nil, or_false] at hd
  rcases hd with rfl | rfl | rfl
  · exact ha
  · exact hb
  · exact hc
theorem oT3 {n : Nat} {a b c : PyData} (ha : okD n a) (hb : okD n b) (hc : okD n c) : okD (n + 1) (.tuple [a, b, c]) := oT (by simp) (mem3 ha hb hc)
theorem oL3 {n : Nat} {a b c : PyData} (ha : okD n a) (hb : okD n b) (hc : okD n c) : okD (n + 1) (.list [a, b, c]) := oL (by simp) (mem3 ha hb hc)
theorem oT4 {n : Nat} {a b c e : PyData} (ha : okD n a) (hb : okD n b) (hc : okD n c) (he : okD n e) : okD (n + 1) (.tuple [a, b, c, e]) := oT (by simp) fun d hd => by
  rcases List.mem_cons.mp hd with rfl | hd
  · exact ha
  · exact mem3 hb hc he d hd
theorem choice_sg {s a b : PyData} (h : signB s = false) : choiceB (.tuple [s, a, b]) = false := by rw [choiceB, h, Bool.false_and]
theorem choice_a {s a b : PyData} (h : termB a = false) : choiceB (.tuple [s, a, b]) = false := by rw [choiceB, h, Bool.false_and, Bool.and_false]
theorem choice_b {s a b : PyData} (h : termB b = false) : choiceB (.tuple [s, a, b]) = false := by rw [choiceB, h, Bool.and_false, Bool.and_false]
theorem sg_len : ∀ z ∈ sgs, z.length ≤ 200 := by decide +kernel
section
variable {P : Program} {w : World} {K : PySem.W.Frag} {mg : Str → Option Value} {base : Heap}
def sp_spch (K : PySem.W.Frag) : Sp := fun vs H Q _ => ∃ (x : V) (e : CT) (way c : Int), vs = [x, .int way, .int c] ∧ Dat K H (choiceDat e) x ∧ COk e ∧ ∀ y d H', Same H H' → Dat K H' d y → choiceB d = false → (∀ n, okD (n + 3) d) → Q y H'
theorem ok__law_spoiled_choice (T : Txt K mg) : Def P w K mg base 1 "_law_spoiled_choice" ["_law_choice", "_law_way", "_law_cell"] (sp_spch K) := by
  refine T.t__law_spoiled_choice.ok sc__law_spoiled_choice (fun vs H Q E h => ?_) fun f cdv A outer s H vs Q E hr h => ?_
  · obtain ⟨x, e, way, c, rfl, _⟩ := h
    rfl
  · obtain ⟨x, e, way, c, rfl, hd, ok, q⟩ := h
    obtain ⟨p, a, b, rfl, hp, ha, hb⟩ := choice_un hd
    have ds : ∀ {G : Hp}, Dat K G (.str e.1) (.str e.1) := .str _ (sg_ok _ ok.1)
    have os : ∀ n, okD n (.str e.1) := fun n => oD_str (sg_len _ ok.1)
    have oa : ∀ n, okD n (keyD e.2.1) := fun n => ok.2.1.okD n
    have ob : ∀ n, okD n (keyD e.2.2) := fun n => ok.2.2.okD n
    refine ⟨_, (pss_7
      (ps_if (pt_cmpR op_eq (pv 1) pe_int (nomark _)) (pss_one (ps_ret (pe_tup (pa_3 (pe_ix (ix_listK K) (pe_lst (pa_6 pe_str pe_str pe_str pe_non pe_str pe_str)) (pe_op op_mod (pv 2) pe_int) (fun _ _ => rfl)) (pe_ix (ix_tupK K) (pv 0) pe_int (fun _ _ => rfl)) (pe_ix (ix_tupK K) (pv 0) pe_int (fun _ _ => rfl)))))) pss_nil)
      (ps_set (i := 3) sc__law_spoiled_choice.nd rfl (Or.inl rfl) (pe_ix (ix_listK K) (pe_lst (pa_7 pe_non pe_bl pe_str pe_str (pe_tup (pa_1 pe_int)) (pe_lst (pa_1 pe_str)) pe_str)) (pe_op op_mod (pe_op op_fdiv (pv 2) pe_int) pe_int) (fun _ _ => rfl)))
      (ps_if (PW.pt (pw_and (pt_cmpR op_eq (pv 1) pe_int (nomark _)) (pw_and1 (pt_cmpR op_eq (pe_op op_mod (pv 2) pe_int) pe_int (nomark _))))) (pss_one (ps_ret (pe_tup (pa_3 (pe_ix (ix_tupK K) (pv 0) pe_int (fun _ _ => rfl)) (pv 3) (pe_ix (ix_tupK K) (pv 0) pe_int (fun _ _ => rfl)))))) pss_nil)
      (ps_if (pt_cmpR op_eq (pv 1) pe_int (nomark _)) (pss_one (ps_ret (pe_tup (pa_3 (pe_ix (ix_tupK K) (pv 0) pe_int (fun _ _ => rfl)) (pe_ix (ix_tupK K) (pv 0) pe_int (fun _ _ => rfl)) (pv 3))))) pss_nil)
      (ps_if (pt_cmpR op_eq (pv 1) pe_int (nomark _)) (pss_one (ps_ret (pe_ix (ix_listK K) (pe_lst (pa_3 (pe_slice (sl_tupA K) (pv 0) po_none (po_some pe_int)) (pe_op (op_catA K) (pv 0) (pe_tup (pa_1 pe_str))) (pe_slice (sl_tupA K) (pv 0) po_none (po_some pe_int)))) (pe_op op_mod (pv 2) pe_int) (fun _ _ => rfl)))) pss_nil)
      (ps_if (pt_cmpR op_eq (pv 1) pe_int (nomark _)) (pss_one (ps_ret (pe_ix (ix_listK K) (pe_lst (pa_5 pe_non pe_int pe_str (pe_tup pa_nil) pe_bl)) (pe_op op_mod (pv 2) pe_int) (fun _ _ => rfl)))) pss_nil)
      (ps_ret (pe_callTy (call_listK K) rfl T.b_list bt_list (pa_1 (pv 0))))), ?_⟩
    refine ⟨_, rfl, rfl, _, rfl, ite2 (fun _ => ?_) (fun _ => ?_)⟩
    · refine ⟨by show 6 ≤ sizeLine; decide, fun p1 hp1 => ?_⟩
      have s1 := same_upd (o := HO.lst [.str "==", .str ">", .str "", .non, .str "<=", .str "a"]) hp1
      obtain ⟨v, hat, hv⟩ := atI_in (xs := [V.str "==", .str ">", .str "", .non, .str "<=", .str "a"]) (i := c % 6) (Int.emod_nonneg _ (by decide)) (Int.emod_lt_of_pos _ (by decide))
      refine ⟨_, rfl, _, _, rfl, rfl, (by show (0 : Int) < 6; decide), _, _, _, _, rfl, rfl, SqL.of upd_same, hat, ?_⟩
      refine ⟨_, rfl, _, _, _, _, rfl, rfl, s1.seqT hp, atI_nat (j := 1) rfl, _, rfl, _, _, _, _, rfl, rfl, s1.seqT hp, atI_nat (j := 2) rfl, by show 3 ≤ sizeLine; decide, fun p2 hp2 => ?_⟩
      have s2 := same_upd (o := HO.tup [v, a, b]) hp2
      have t2 := s1.trans s2
      obtain ⟨sd, hsd, hno, ho⟩ : ∃ sd, (∀ {G : Hp}, Dat K G sd v) ∧ signB sd = false ∧ ∀ n, okD n sd := by
        simp only [List.mem_cons, List.not_mem_nil, or_false] at hv
        rcases hv with rfl | rfl | rfl | rfl | rfl | rfl
        · exact ⟨.str "==", .str _ (by decide +kernel), by decide +kernel, fun n => oD_str (by decide)⟩
        · exact ⟨.str ">", .str _ (by decide +kernel), by decide +kernel, fun n => oD_str (by decide)⟩
        · exact ⟨.str "", .str _ (by decide +kernel), by decide +kernel, fun n => oD_str (by decide)⟩
        · exact ⟨.none, .non, by decide +kernel, fun n => oD_non⟩
        · exact ⟨.str "<=", .str _ (by decide +kernel), by decide +kernel, fun n => oD_str (by decide)⟩
        · exact ⟨.str "a", .str _ (by decide +kernel), by decide +kernel, fun n => oD_str (by decide)⟩
      exact q _ (.tuple [sd, keyD e.2.1, keyD e.2.2]) _ t2 (.tup (SqT.of upd_same) (.cons hsd (.cons (Dat.same t2 _ _ ha) (.cons (Dat.same t2 _ _ hb) .nil)))) (choice_sg hno) fun n => oT3 (ho _) (oa _) (ob _)
    refine ⟨by show 1 ≤ sizeLine; decide, fun p1 hp1 => ⟨by show 1 ≤ sizeLine; decide, fun p2 hp2 => ⟨by show 7 ≤ sizeLine; decide, fun p3 hp3 => ?_⟩⟩⟩
    have s1 := same_upd (o := HO.tup [.int 1]) hp1
    have s2 := same_upd (o := HO.lst [.str "b"]) hp2
    have s3 := same_upd (o := HO.lst [.non, .bl false, .str "", .str "a-", .ref p1, .ref p2, .str "Aa."]) hp3
    obtain ⟨v, hat, hv⟩ := atI_in (xs := [V.non, .bl false, .str "", .str "a-", .ref p1, .ref p2, .str "Aa."]) (i := c / 2 % 7) (Int.emod_nonneg _ (by decide)) (Int.emod_lt_of_pos _ (by decide))
    refine ⟨_, rfl, _, _, rfl, rfl, ⟨by decide, by decide⟩, _, _, rfl, rfl, (by show (0 : Int) < 7; decide), _, _, _, _, rfl, rfl, SqL.of upd_same, hat, ?_⟩
    have t3 := s1.trans (s2.trans s3)
    obtain ⟨od, hod, hno, ho⟩ : ∃ od, Dat K (upd (upd (upd H p1 (.tup [.int 1])) p2 (.lst [.str "b"])) p3 (.lst [.non, .bl false, .str "", .str "a-", .ref p1, .ref p2, .str "Aa."])) od v ∧ termB od = false ∧ ∀ n, okD (n + 1) od := by
      simp only [List.mem_cons, List.not_mem_nil, or_false] at hv
      rcases hv with rfl | rfl | rfl | rfl | rfl | rfl | rfl
      · exact ⟨.none, .non, rfl, fun n => oD_non⟩
      · exact ⟨.bool false, .bl false, rfl, fun n => oD_bl⟩
      · exact ⟨.str "", .str _ (by decide +kernel), by decide +kernel, fun n => oD_str (by decide)⟩
      · exact ⟨.str "a-", .str _ (by decide +kernel), by decide +kernel, fun n => oD_str (by decide)⟩
      · exact ⟨.tuple [.int 1], .tup (SqT.of ((s2.trans s3) _ _ upd_same)) (.cons (.int 1) .nil), rfl, fun n => oT1 oD_int⟩
      · exact ⟨.list [.str "b"], .lst (SqL.of (s3 _ _ upd_same)) (.cons (.str _ (by decide +kernel)) .nil), rfl, fun n => oL (by simp) fun d hd => by rw [List.mem_singleton.mp hd]; exact oD_str (by decide)⟩
      · exact ⟨.str "Aa.", .str _ (by decide +kernel), by decide +kernel, fun n => oD_str (by decide)⟩
    generalize upd (upd (upd H p1 (.tup [.int 1])) p2 (.lst [.str "b"])) p3 (.lst [.non, .bl false, .str "", .str "a-", .ref p1, .ref p2, .str "Aa."]) = H3 at hod t3 ⊢
    have hp' := t3.seqT hp
    have ha' := Dat.same t3 _ _ ha
    have hb' := Dat.same t3 _ _ hb
    have B : decide (V.int way = V.int 1) = true → ∀ p4 (hp4 : H3 p4 = none), Q (.ref p4) (upd H3 p4 (.tup [.str e.1, a, v])) := fun _ p4 hp4 => by
      have s4 := same_upd (o := HO.tup [.str e.1, a, v]) hp4
      exact q _ (.tuple [.str e.1, keyD e.2.1, od]) _ (t3.trans s4) (.tup (SqT.of upd_same) (.cons ds (.cons (Dat.same s4 _ _ ha') (.cons (Dat.same s4 _ _ hod) .nil)))) (choice_b hno) fun n => oT3 (os _) (oa _) (ho (n + 1))
    refine ⟨_, rfl, rfl, _, rfl, ite2 (fun h1 => ?_) (fun h1 => iteF ?_)⟩
    · refine ⟨_, rfl, _, _, rfl, rfl, (by show (0 : Int) < 2; decide), rfl, _, rfl, ite2 (fun _ => ?_) (fun _ => ?_)⟩
      · refine ⟨_, rfl, _, _, _, _, rfl, rfl, hp', atI_nat (j := 0) rfl, _, rfl, _, rfl, _, _, _, _, rfl, rfl, hp', atI_nat (j := 2) rfl, by show 3 ≤ sizeLine; decide, fun p4 hp4 => ?_⟩
        have s4 := same_upd (o := HO.tup [.str e.1, v, b]) hp4
        exact q _ (.tuple [.str e.1, od, keyD e.2.2]) _ (t3.trans s4) (.tup (SqT.of upd_same) (.cons ds (.cons (Dat.same s4 _ _ hod) (.cons (Dat.same s4 _ _ hb') .nil)))) (choice_a hno) fun n => oT3 (os _) (ho (n + 1)) (ob _)
      · refine ⟨_, rfl, rfl, _, rfl, ite2 (fun _ => ?_) (fun h2 => absurd h1 h2)⟩
        exact ⟨_, rfl, _, _, _, _, rfl, rfl, hp', atI_nat (j := 0) rfl, _, rfl, _, _, _, _, rfl, rfl, hp', atI_nat (j := 1) rfl, _, rfl, by show 3 ≤ sizeLine; decide, B h1⟩
    · refine ⟨_, rfl, rfl, _, rfl, ite2 (fun h2 => absurd h2 h1) (fun _ => ?_)⟩
      refine ⟨_, rfl, rfl, _, rfl, ite2 (fun _ => ?_) (fun _ => ?_)⟩
      · refine ⟨_, rfl, _, rfl, _, _, rfl, hp', fun p4 H4 s4 hp4 => ?_⟩
        refine ⟨_, rfl, by show 1 ≤ sizeLine; decide, fun p5 hp5 => ?_⟩
        have s5 := same_upd (o := HO.tup [.str "a"]) hp5
        refine ⟨_, _, _, _, rfl, rfl, s5.seqT (s4.seqT hp'), SqT.of upd_same, by show 4 ≤ sizeLine; decide, fun p6 H6 s6 hp6 => ?_⟩
        refine ⟨_, rfl, _, rfl, _, _, rfl, s6.seqT (s5.seqT (s4.seqT hp')), fun p7 H7 s7 hp7 => ⟨by show 3 ≤ sizeLine; decide, fun p8 hp8 => ?_⟩⟩
        have s8 := same_upd (o := HO.lst [.ref p4, .ref p6, .ref p7]) hp8
        have t8 := s4.trans (s5.trans (s6.trans (s7.trans s8)))
        obtain ⟨z, hat2, hz⟩ := atI_in (xs := [V.ref p4, .ref p6, .ref p7]) (i := c % 3) (Int.emod_nonneg _ (by decide)) (Int.emod_lt_of_pos _ (by decide))
        refine ⟨_, rfl, _, _, rfl, rfl, (by show (0 : Int) < 3; decide), _, _, _, _, rfl, rfl, SqL.of upd_same, hat2, ?_⟩
        simp only [List.mem_cons, List.not_mem_nil, or_false] at hz
        rcases hz with rfl | rfl | rfl
        · exact q _ (.tuple [.str e.1, keyD e.2.1]) _ (t3.trans t8) (.tup ((s5.trans (s6.trans (s7.trans s8))).seqT hp4) (.cons ds (.cons (Dat.same t8 _ _ ha') .nil))) rfl fun n => oT2 (os _) (oa _)
        · exact q _ (.tuple [.str e.1, keyD e.2.1, keyD e.2.2, .str "a"]) _ (t3.trans t8) (.tup ((s7.trans s8).seqT hp6) (.cons ds (.cons (Dat.same t8 _ _ ha') (.cons (Dat.same t8 _ _ hb') (.cons (.str _ (by decide +kernel)) .nil))))) rfl fun n => oT4 (os _) (oa _) (ob _) (oD_str (by decide))
        · exact q _ (.tuple [.str e.1]) _ (t3.trans t8) (.tup (s8.seqT hp7) (.cons ds .nil)) rfl fun n => oT1 (os _)
      refine ⟨_, rfl, rfl, _, rfl, ite2 (fun _ => ?_) (fun _ => ?_)⟩
      · refine ⟨by decide, fun p4 hp4 => ⟨by show 5 ≤ sizeLine; decide, fun p5 hp5 => ?_⟩⟩
        have s4 := same_upd (o := HO.tup []) hp4
        have s5 := same_upd (o := HO.lst [.non, .int 7, .str "=ab", .ref p4, .bl false]) hp5
        have t5 := t3.trans (s4.trans s5)
        obtain ⟨z, hat2, hz⟩ := atI_in (xs := [V.non, .int 7, .str "=ab", .ref p4, .bl false]) (i := c % 5) (Int.emod_nonneg _ (by decide)) (Int.emod_lt_of_pos _ (by decide))
        refine ⟨_, rfl, _, _, rfl, rfl, (by show (0 : Int) < 5; decide), _, _, _, _, rfl, rfl, SqL.of upd_same, hat2, ?_⟩
        simp only [List.mem_cons, List.not_mem_nil, or_false] at hz
        rcases hz with rfl | rfl | rfl | rfl | rfl
        · exact q _ .none _ t5 .non rfl fun n => oD_non
        · exact q _ (.int 7) _ t5 (.int 7) rfl fun n => oD_int
        · exact q _ (.str "=ab") _ t5 (.str _ (by decide +kernel)) rfl fun n => oD_str (by decide)
        · exact q _ (.tuple []) _ t5 (.tup (SqT.of (s5 _ _ upd_same)) .nil) rfl fun n => oT (by decide) fun _ z => nomatch z
        · exact q _ (.bool false) _ t5 (.bl false) rfl fun n => oD_bl
      · refine ⟨_, rfl, _, _, rfl, .inr hp', fun l hl => ?_⟩
        have s4 := same_upd (o := HO.lst [.str e.1, a, b]) hl
        exact q _ (.list [.str e.1, keyD e.2.1, keyD e.2.2]) _ (t3.trans s4) (.lst (SqL.of upd_same) (.cons ds (.cons (Dat.same s4 _ _ ha') (.cons (Dat.same s4 _ _ hb') .nil)))) rfl fun n => oL3 (os _) (oa _) (ob _)
end
end Wy
namespace Wy
open PySem L2
theorem rule_a {a b c : PyData} (h : atomB a = false) : ruleB (.tuple [a, b, c]) = false := by rw [ruleB, h, Bool.false_and]
theorem rule_b {a b c : PyData} (h : atomsB b = false) : ruleB (.tuple [a, b, c]) = false := by rw [ruleB, h, Bool.false_and, Bool.and_false]
theorem rule_c {a b c : PyData} (h : choicesB c = false) : ruleB (.tuple [a, b, c]) = false := by rw [ruleB, h, Bool.false_and, Bool.and_false, Bool.and_false]
theorem put_ok {n : Nat} {ds : List PyData} {sd : PyData} {i j : Int} (l : ds.length ≤ 4) (h : ∀ d ∈ ds, okD n d) (hs : okD n sd) : okD (n + 1) (.tuple (cutD ds none (some i) ++ [sd] ++ cutD ds (some j) none)) := by
  refine oT ?_ fun d hd => ?_
  · have h1 := cutD_len ds none (some i)
    have h2 := cutD_len ds (some j) none
    rw [List.length_append, List.length_append]
    show _ + 1 + _ ≤ 10
    omega
  · rcases List.mem_append.mp hd with hd | hd
    · rcases List.mem_append.mp hd with hd | hd
      · exact h d (cutD_mem hd)
      · rw [List.mem_singleton.mp hd]
        exact hs
    · exact h d (cutD_mem hd)
theorem oAtom {e : AT} (ok : AOk e) (n : Nat) : okD (n + 2) (atomDat e) := oT2 (oD_str (Nat.le_trans (txtB_parts ok.tb).2.1 (by decide))) (oT (by rw [List.length_map]; exact Nat.le_trans ok.len (by decide)) (oKs n ok.ks))
theorem oChoice {e : CT} (ok : COk e) (n : Nat) : okD (n + 1) (choiceDat e) := oT3 (oD_str (sg_len _ ok.1)) (ok.2.1.okD n) (ok.2.2.okD n)
theorem depth_ch (es : List CT) : PyData.depthAll (es.map choiceDat) ≤ 1 := by
  induction es with
  | nil => exact Nat.zero_le _
  | cons e es ih =>
    refine Nat.max_le.mpr ⟨?_, ih⟩
    obtain ⟨s, a, b⟩ := e
    cases a <;> cases b <;> exact Nat.le_refl _
theorem len1 {xs : List V} {v : V} {lo hi : Option Int} (h : xs.length ≤ 100) : (cutV xs lo hi).length + [v].length ≤ sizeLine := by
  have := cutV_length xs lo hi
  exact Nat.le_trans (show _ + 1 ≤ 1000 by omega) (by decide)
theorem len2 {xs : List V} {v : V} {lo hi lo' hi' : Option Int} (h : xs.length ≤ 100) : (cutV xs lo hi ++ [v]).length + (cutV xs lo' hi').length ≤ sizeLine := by
  have h1 := cutV_length xs lo hi
  have h2 := cutV_length xs lo' hi'
  rw [List.length_append]
  exact Nat.le_trans (show _ + 1 + _ ≤ 1000 by omega) (by decide)
section
variable {P : Program} {w : World} {K : PySem.W.Frag} {mg : Str → Option Value} {base : Heap}
theorem dats_at {H : Hp} {ds : List PyData} {xs : List V} {i : Int} (h : Dats K H ds xs) (h0 : 0 ≤ i) (h1 : i < (xs.length : Int)) : ∃ d v, d ∈ ds ∧ atI xs i = some v ∧ Dat K H d v := by
  obtain ⟨j, rfl⟩ := Int.eq_ofNat_of_zero_le h0
  have hj : j < xs.length := by omega
  obtain ⟨d, hd, hx⟩ := dats_get h (List.getElem?_eq_getElem hj)
  exact ⟨d, _, List.mem_of_getElem? hd, atI_nat (List.getElem?_eq_getElem hj), hx⟩
def sp_spl (K : PySem.W.Frag) : Sp := fun vs H Q _ => ∃ (x y : V) (R : Rl) (ea : AT) (way c : Int), vs = [x, .int way, .int c, y] ∧ Dat K H (ruleDat R) x ∧ RGood R ∧ Dat K H (atomDat ea) y ∧ AOk ea ∧ ∀ z d H', Same H H' → Dat K H' d z → ruleB d = false → (∀ n, okD (n + 5) d) → Q z H'
theorem ok__law_spoiled (T : Txt K mg) : Def P w K mg base 3 "_law_spoiled" ["_law_rule_here", "_law_way", "_law_cell", "_law_atom_here"] (sp_spl K) := by
  refine T.t__law_spoiled.ok sc__law_spoiled (fun vs H Q E h => ?_) fun f cdv A outer s H vs Q E hr h => ?_
  · obtain ⟨x, y, R, ea, way, c, rfl, _⟩ := h
    rfl
  · obtain ⟨x, ya, R, ea, way, c, rfl, hd, G, he, ga, q⟩ := h
    obtain ⟨p, hv, b, cc, bs, ws, rfl, hp, hh, hb, dbs, hc, dcs⟩ := rule_un hd
    have lbs : bs.length = R.as.length := by rw [← dats_len dbs, List.length_map]
    have lcs : ws.length = R.cs.length := by rw [← dats_len dcs, List.length_map]
    have g3 := G.las
    have g4 := G.lcs
    have dh : ∀ {H' : Hp}, Same H H' → Dat K H' (atomDat R.hd) hv := fun s => Dat.same s _ _ hh
    have db : ∀ {H' : Hp}, Same H H' → Dat K H' (.tuple (R.as.map atomDat)) (.ref b) := fun s => .tup (s.seqT hb) (Dats.same s _ _ dbs)
    have dc : ∀ {H' : Hp}, Same H H' → Dat K H' (.tuple (R.cs.map choiceDat)) (.ref cc) := fun s => .tup (s.seqT hc) (Dats.same s _ _ dcs)
    have oh : ∀ n, okD (n + 2) (atomDat R.hd) := fun n => oAtom G.hd n
    have obs : ∀ n, ∀ d ∈ R.as.map atomDat, okD (n + 2) d := fun n d hd => by
      obtain ⟨e, he, rfl⟩ := List.mem_map.mp hd
      exact oAtom (G.as e he) n
    have ocs : ∀ n, ∀ d ∈ R.cs.map choiceDat, okD (n + 1) d := fun n d hd => by
      obtain ⟨e, he, rfl⟩ := List.mem_map.mp hd
      exact oChoice (G.cs e he) n
    have ob : ∀ n, okD (n + 3) (.tuple (R.as.map atomDat)) := fun n => oT (by rw [List.length_map]; omega) (obs n)
    have oc : ∀ n, okD (n + 2) (.tuple (R.cs.map choiceDat)) := fun n => oT (by rw [List.length_map]; omega) (ocs n)
    have a0 := Int.emod_nonneg (c / 49) (show (3 : Int) ≠ 0 by decide)
    refine ⟨_, (pss_9
      (ps_asg (pv 0) (pg_tup rfl (pgs_cons (pg_name (i := 4) sc__law_spoiled.nd rfl (Or.inl rfl)) (pgs_cons (pg_name (i := 5) sc__law_spoiled.nd rfl (Or.inl rfl)) (pgs_cons (pg_name (i := 6) sc__law_spoiled.nd rfl (Or.inl rfl)) pgs_nil)))))
      (ps_set (i := 7) sc__law_spoiled.nd rfl (Or.inl rfl) (pe_op op_mod (pe_op op_fdiv (pv 2) pe_int) pe_int))
      (ps_if (pt_cmpR op_lt (pv 1) pe_int (nomark _)) (pss_2
      (ps_if (pt_cmpR op_lt (pv 7) (pe_callB (call_lenK K) rfl T.b_len bt_len (pa_1 (pv 5))) (nomark _)) (pss_one (ps_ret (pe_tup (pa_3 (pv 4) (pe_op (op_catA K) (pe_op (op_catA K) (pe_slice (sl_tupA K) (pv 5) po_none (po_some (pv 7))) (pe_tup (pa_1 (pe_def (ok__law_spoiled_atom T) hr rfl (pa_3 (pe_ix (ix_tupK K) (pv 5) (pv 7) (fun _ _ => rfl)) (pv 1) (pv 2)))))) (pe_slice (sl_tupA K) (pv 5) (po_some (pe_op op_add (pv 7) pe_int)) po_none)) (pv 6))))) pss_nil)
      (ps_ret (pe_tup (pa_3 (pe_def (ok__law_spoiled_atom T) hr rfl (pa_3 (pv 4) (pv 1) (pv 2))) (pv 5) (pv 6))))) pss_nil)
      (ps_if (pt_cmpR op_lt (pv 1) pe_int (nomark _)) (pss_3
      (ps_if (pt_cmpR (op_eqD hr.units K) (pv 6) (pe_tup pa_nil) (nomark _)) (pss_one (ps_set (i := 6) sc__law_spoiled.nd rfl (Or.inl rfl) (pe_tup (pa_1 (pe_tup (pa_3 pe_str pe_int pe_str)))))) pss_nil)
      (ps_set (i := 7) sc__law_spoiled.nd rfl (Or.inl rfl) (pe_op op_mod (pv 7) (pe_callB (call_lenK K) rfl T.b_len bt_len (pa_1 (pv 6)))))
      (ps_ret (pe_tup (pa_3 (pv 4) (pv 5) (pe_op (op_catA K) (pe_op (op_catA K) (pe_slice (sl_tupA K) (pv 6) po_none (po_some (pv 7))) (pe_tup (pa_1 (pe_def (ok__law_spoiled_choice T) hr rfl (pa_3 (pe_ix (ix_tupK K) (pv 6) (pv 7) (fun _ _ => rfl)) (pe_op op_sub (pv 1) pe_int) (pv 2)))))) (pe_slice (sl_tupA K) (pv 6) (po_some (pe_op op_add (pv 7) pe_int)) po_none)))))) pss_nil)
      (ps_if (pt_cmpR op_eq (pv 1) pe_int (nomark _)) (pss_one (ps_ret (pe_tup (pa_3 (pv 4) (pe_slice (sl_tupA K) (pe_op (op_catA K) (pv 5) (pe_tup (pa_4 (pv 3) (pv 3) (pv 3) (pv 3)))) po_none (po_some pe_int)) (pv 6))))) pss_nil)
      (ps_if (pt_cmpR op_eq (pv 1) pe_int (nomark _)) (pss_one (ps_ret (pe_tup (pa_3 (pv 4) (pv 5) (pe_slice (sl_tupA K) (pe_op (op_catA K) (pv 6) (pe_tup (pa_4 (pe_tup (pa_3 pe_str pe_int pe_int)) (pe_tup (pa_3 pe_str pe_int pe_int)) (pe_tup (pa_3 pe_str pe_int pe_int)) (pe_tup (pa_3 pe_str pe_int pe_int))))) po_none (po_some pe_int)))))) pss_nil)
      (ps_if (pt_cmpR op_eq (pv 1) pe_int (nomark _)) (pss_one (ps_ret (pe_ix (ix_listK K) (pe_lst (pa_3 (pe_tup (pa_3 (pv 4) (pe_callTy (call_listK K) rfl T.b_list bt_list (pa_1 (pv 5))) (pv 6))) (pe_tup (pa_3 (pv 4) pe_non (pv 6))) (pe_tup (pa_3 (pv 4) pe_int (pv 6))))) (pe_op op_mod (pv 2) pe_int) (fun _ _ => rfl)))) pss_nil)
      (ps_if (pt_cmpR op_eq (pv 1) pe_int (nomark _)) (pss_one (ps_ret (pe_ix (ix_listK K) (pe_lst (pa_3 (pe_tup (pa_3 (pv 4) (pv 5) (pe_callTy (call_listK K) rfl T.b_list bt_list (pa_1 (pv 6))))) (pe_tup (pa_3 (pv 4) (pv 5) pe_non)) (pe_tup (pa_3 (pv 4) (pv 5) pe_str)))) (pe_op op_mod (pv 2) pe_int) (fun _ _ => rfl)))) pss_nil)
      (ps_ret (pe_ix (ix_listK K) (pe_lst (pa_6 (pe_lst (pa_3 (pv 4) (pv 5) (pv 6))) (pe_tup (pa_2 (pv 4) (pv 5))) (pe_tup (pa_4 (pv 4) (pv 5) (pv 6) (pv 6))) (pe_tup pa_nil) pe_non (pv 4))) (pe_op op_mod (pv 2) pe_int) (fun _ _ => rfl)))), ?_⟩
    refine ⟨_, rfl, p, _, rfl, hp, rfl, _, _, rfl, _, _, rfl, _, _, rfl, rfl, ?_⟩
    refine ⟨_, rfl, _, _, rfl, rfl, ⟨by decide, by decide⟩, _, _, rfl, rfl, (by show (0 : Int) < 3; decide), ?_⟩
    refine ⟨_, rfl, _, _, rfl, rfl, _, rfl, ite2 (fun _ => ?_) (fun _ => ?_)⟩
    · refine ⟨_, rfl, _, rfl, _, _, rfl, .inr ⟨_, hb, rfl⟩, _, _, rfl, rfl, _, rfl, ite2 (fun h2 => ?_) (fun _ => ?_)⟩
      · obtain ⟨d, v, hmem, hat, hdv⟩ := dats_at dbs (i := c / 49 % 3) a0 (of_decide_eq_true h2)
        obtain ⟨e, hee, rfl⟩ := List.mem_map.mp hmem
        have lws : bs.length ≤ 100 := by omega
        refine ⟨_, rfl, _, rfl, _, rfl, _, rfl, _, _, rfl, hb, fun p4 H4 s4 hp4 => ?_⟩
        refine ⟨_, rfl, _, rfl, _, _, _, _, rfl, rfl, s4.seqT hb, hat, _, rfl, _, rfl, _, e, _, _, rfl, Dat.same s4 _ _ hdv, G.as e hee, fun y d H5 s5 hd5 hno ho => ?_⟩
        refine ⟨by show 1 ≤ sizeLine; decide, fun p6 hp6 => ?_⟩
        have s6 := same_upd (o := HO.tup [y]) hp6
        refine ⟨_, _, _, _, rfl, rfl, (s5.trans s6).seqT hp4, SqT.of upd_same, len1 lws, fun p7 H7 s7 hp7 => ?_⟩
        have t7 := s4.trans (s5.trans (s6.trans s7))
        refine ⟨_, rfl, _, rfl, _, _, rfl, rfl, _, rfl, _, _, rfl, t7.seqT hb, fun p8 H8 s8 hp8 => ?_⟩
        refine ⟨_, _, _, _, rfl, rfl, s8.seqT hp7, hp8, len2 lws, fun p9 H9 s9 hp9 => ⟨_, rfl, by show 3 ≤ sizeLine; decide, fun p10 hp10 => ?_⟩⟩
        have s10 := same_upd (o := HO.tup [hv, .ref p9, .ref cc]) hp10
        have u := s6.trans (s7.trans (s8.trans (s9.trans s10)))
        have t := s4.trans (s5.trans u)
        have dd := dl_app (dl_app (dl_cut none (some (c / 49 % 3)) (Dats.same t _ _ dbs)) (.cons (Dat.same u _ _ hd5) .nil)) (dl_cut (some (c / 49 % 3 + 1)) none (Dats.same t _ _ dbs))
        exact q _ (.tuple [atomDat R.hd, .tuple _, .tuple (R.cs.map choiceDat)]) _ t (.tup (SqT.of upd_same) (.cons (dh t) (.cons (.tup (s10.seqT hp9) dd) (.cons (dc t) .nil)))) (rule_b (up_no (d := d) (by simp) hno)) fun n => oT3 (oh (n + 2)) (put_ok (by rw [List.length_map]; omega) (obs (n + 1)) (ho n)) (oc (n + 2))
      · refine ⟨_, rfl, _, rfl, _, rfl, _, R.hd, _, _, rfl, hh, G.hd, fun y d H5 s5 hd5 hno ho => ?_⟩
        refine ⟨_, rfl, _, rfl, by show 3 ≤ sizeLine; decide, fun p6 hp6 => ?_⟩
        have s6 := same_upd (o := HO.tup [y, .ref b, .ref cc]) hp6
        have t := s5.trans s6
        exact q _ (.tuple [d, .tuple (R.as.map atomDat), .tuple (R.cs.map choiceDat)]) _ t (.tup (SqT.of upd_same) (.cons (Dat.same s6 _ _ hd5) (.cons (db t) (.cons (dc t) .nil)))) (rule_a hno) fun n => oT3 (ho (n + 1)) (ob (n + 1)) (oc (n + 2))
    refine ⟨_, rfl, _, _, rfl, rfl, _, rfl, ite2 (fun _ => ?_) (fun _ => ?_)⟩
    · refine ⟨_, rfl, by decide, fun p1 hp1 => ?_⟩
      have s1 := same_upd (o := HO.tup []) hp1
      refine ⟨.tuple (R.cs.map choiceDat), .tuple [], dc s1, .tup (SqT.of upd_same) .nil, Nat.le_trans (Nat.succ_le_succ (depth_ch R.cs)) (by decide), _, rfl, ite2 (fun h => ?_) (fun h => ?_)⟩
      · refine ⟨by show 3 ≤ sizeLine; decide, fun p2 hp2 => ⟨by show 1 ≤ sizeLine; decide, fun p3 hp3 => ?_⟩⟩
        have s2 := same_upd (o := HO.tup [.str "=", .int 1, .str "a"]) hp2
        have s3 := same_upd (o := HO.tup [.ref p2]) hp3
        have hs := s1.trans (s2.trans s3)
        have hc' : SqT K _ p3 [V.ref p2] := SqT.of (upd_same (H := upd (upd H p1 (.tup [])) p2 (.tup [.str "=", .int 1, .str "a"])) (a := p3) (o := HO.tup [.ref p2]))
        have dc' : Dats K (upd (upd (upd H p1 (.tup [])) p2 (.tup [.str "=", .int 1, .str "a"])) p3 (.tup [.ref p2])) ([(("=", .inl 1, .inr "a") : CT)].map choiceDat) [V.ref p2] := .cons (.tup (SqT.of (s3 _ _ upd_same)) (.cons (.str _ (by decide +kernel)) (.cons (.int 1) (.cons (.str _ (by decide +kernel)) .nil)))) .nil
        have ok' : ∀ e ∈ [(("=", .inl 1, .inr "a") : CT)], COk e := fun e he => by
          rw [List.mem_singleton.mp he]
          exact ⟨by decide +kernel, trivial, .inl (by decide +kernel)⟩
        have lws : [V.ref p2].length ≤ 100 := by show 1 ≤ 100; decide
        have l0 : 0 < [V.ref p2].length := by show 0 < 1; decide
        have l4 : ([(("=", .inl 1, .inr "a") : CT)].map choiceDat).length ≤ 4 := by show 1 ≤ 4; decide
        generalize upd (upd (upd H p1 (.tup [])) p2 (.tup [.str "=", .int 1, .str "a"])) p3 (.tup [.ref p2]) = H3 at hs hc' dc' ⊢
        generalize [V.ref p2] = ws at hc' dc' lws l0
        generalize [(("=", .inl 1, .inr "a") : CT)] = cs' at dc' ok' l4
        obtain ⟨d, v, hmem, hat, hdv⟩ := dats_at dc' (i := c / 49 % 3 % (ws.length : Int)) (Int.emod_nonneg _ (by omega)) (Int.emod_lt_of_pos _ (by omega))
        obtain ⟨e, hee, rfl⟩ := List.mem_map.mp hmem
        refine ⟨_, rfl, _, rfl, _, _, rfl, .inr ⟨_, hc', rfl⟩, _, _, rfl, rfl, (by show (0 : Int) < ws.length; omega), ?_⟩
        refine ⟨_, rfl, _, rfl, _, rfl, _, rfl, _, rfl, _, _, rfl, hc', fun p4 H4 s4 hp4 => ?_⟩
        refine ⟨_, rfl, _, rfl, _, _, _, _, rfl, rfl, s4.seqT hc', hat, _, rfl, _, _, rfl, rfl, _, rfl, _, e, _, _, rfl, Dat.same s4 _ _ hdv, ok' e hee, fun y d H5 s5 hd5 hno ho => ?_⟩
        refine ⟨by show 1 ≤ sizeLine; decide, fun p6 hp6 => ?_⟩
        have s6 := same_upd (o := HO.tup [y]) hp6
        refine ⟨_, _, _, _, rfl, rfl, (s5.trans s6).seqT hp4, SqT.of upd_same, len1 lws, fun p7 H7 s7 hp7 => ?_⟩
        have t7 := s4.trans (s5.trans (s6.trans s7))
        refine ⟨_, rfl, _, rfl, _, _, rfl, rfl, _, rfl, _, _, rfl, t7.seqT hc', fun p8 H8 s8 hp8 => ?_⟩
        refine ⟨_, _, _, _, rfl, rfl, s8.seqT hp7, hp8, len2 lws, fun p9 H9 s9 hp9 => ⟨by show 3 ≤ sizeLine; decide, fun p10 hp10 => ?_⟩⟩
        have s10 := same_upd (o := HO.tup [hv, .ref b, .ref p9]) hp10
        have u := s6.trans (s7.trans (s8.trans (s9.trans s10)))
        have t' := s4.trans (s5.trans u)
        have t := hs.trans t'
        have dd := dl_app (dl_app (dl_cut none (some (c / 49 % 3 % (ws.length : Int))) (Dats.same t' _ _ dc')) (.cons (Dat.same u _ _ hd5) .nil)) (dl_cut (some (c / 49 % 3 % (ws.length : Int) + 1)) none (Dats.same t' _ _ dc'))
        refine q _ (.tuple [atomDat R.hd, .tuple (R.as.map atomDat), .tuple _]) _ t (.tup (SqT.of upd_same) (.cons (dh t) (.cons (db t) (.cons (.tup (s10.seqT hp9) dd) .nil)))) (rule_c (up_no (d := d) (by simp) hno)) fun n => oT3 (oh (n + 2)) (ob (n + 1)) (put_ok l4 (fun d hd => ?_) (ho n))
        obtain ⟨e, hee, rfl⟩ := List.mem_map.mp hd
        exact oChoice (ok' e hee) (n + 2)
      · have hs := s1
        have hc' := s1.seqT hc
        have dc' := Dats.same s1 _ _ dcs
        have ok' := G.cs
        have lws : ws.length ≤ 100 := by omega
        have l0 : 0 < ws.length := by
          rw [lcs]
          cases e : R.cs with
          | nil => rw [e] at h; exact absurd rfl h
          | cons u us => exact Nat.succ_pos _
        have l4 : (R.cs.map choiceDat).length ≤ 4 := by rw [List.length_map]; omega
        obtain ⟨d, v, hmem, hat, hdv⟩ := dats_at dc' (i := c / 49 % 3 % (ws.length : Int)) (Int.emod_nonneg _ (by omega)) (Int.emod_lt_of_pos _ (by omega))
        obtain ⟨e, hee, rfl⟩ := List.mem_map.mp hmem
        refine ⟨_, rfl, _, rfl, _, _, rfl, .inr ⟨_, hc', rfl⟩, _, _, rfl, rfl, (by show (0 : Int) < ws.length; omega), ?_⟩
        refine ⟨_, rfl, _, rfl, _, rfl, _, rfl, _, rfl, _, _, rfl, hc', fun p4 H4 s4 hp4 => ?_⟩
        refine ⟨_, rfl, _, rfl, _, _, _, _, rfl, rfl, s4.seqT hc', hat, _, rfl, _, _, rfl, rfl, _, rfl, _, e, _, _, rfl, Dat.same s4 _ _ hdv, ok' e hee, fun y d H5 s5 hd5 hno ho => ?_⟩
        refine ⟨by show 1 ≤ sizeLine; decide, fun p6 hp6 => ?_⟩
        have s6 := same_upd (o := HO.tup [y]) hp6
        refine ⟨_, _, _, _, rfl, rfl, (s5.trans s6).seqT hp4, SqT.of upd_same, len1 lws, fun p7 H7 s7 hp7 => ?_⟩
        have t7 := s4.trans (s5.trans (s6.trans s7))
        refine ⟨_, rfl, _, rfl, _, _, rfl, rfl, _, rfl, _, _, rfl, t7.seqT hc', fun p8 H8 s8 hp8 => ?_⟩
        refine ⟨_, _, _, _, rfl, rfl, s8.seqT hp7, hp8, len2 lws, fun p9 H9 s9 hp9 => ⟨by show 3 ≤ sizeLine; decide, fun p10 hp10 => ?_⟩⟩
        have s10 := same_upd (o := HO.tup [hv, .ref b, .ref p9]) hp10
        have u := s6.trans (s7.trans (s8.trans (s9.trans s10)))
        have t' := s4.trans (s5.trans u)
        have t := hs.trans t'
        have dd := dl_app (dl_app (dl_cut none (some (c / 49 % 3 % (ws.length : Int))) (Dats.same t' _ _ dc')) (.cons (Dat.same u _ _ hd5) .nil)) (dl_cut (some (c / 49 % 3 % (ws.length : Int) + 1)) none (Dats.same t' _ _ dc'))
        refine q _ (.tuple [atomDat R.hd, .tuple (R.as.map atomDat), .tuple _]) _ t (.tup (SqT.of upd_same) (.cons (dh t) (.cons (db t) (.cons (.tup (s10.seqT hp9) dd) .nil)))) (rule_c (up_no (d := d) (by simp) hno)) fun n => oT3 (oh (n + 2)) (ob (n + 1)) (put_ok l4 (fun d hd => ?_) (ho n))
        obtain ⟨e, hee, rfl⟩ := List.mem_map.mp hd
        exact oChoice (ok' e hee) (n + 2)
    refine ⟨_, rfl, rfl, _, rfl, ite2 (fun _ => ?_) (fun _ => ?_)⟩
    · refine ⟨_, rfl, _, rfl, _, rfl, _, rfl, _, rfl, _, rfl, by show 4 ≤ sizeLine; decide, fun p1 hp1 => ?_⟩
      have s1 := same_upd (o := HO.tup [ya, ya, ya, ya]) hp1
      refine ⟨_, _, _, _, rfl, rfl, s1.seqT hb, SqT.of upd_same, Nat.le_trans (show _ + 4 ≤ 1000 by omega) (by decide), fun p2 H2 s2 hp2 => ?_⟩
      refine ⟨_, rfl, _, _, rfl, hp2, fun p3 H3 s3 hp3 => ⟨_, rfl, by show 3 ≤ sizeLine; decide, fun p4 hp4 => ?_⟩⟩
      have s4 := same_upd (o := HO.tup [hv, .ref p3, .ref cc]) hp4
      have t := s1.trans (s2.trans (s3.trans s4))
      have da := Dat.same t _ _ he
      have dd := dl_cut none (some 4) (dl_app (Dats.same t _ _ dbs) (.cons da (.cons da (.cons da (.cons da .nil)))))
      have l4 : (cutD (R.as.map atomDat ++ [atomDat ea, atomDat ea, atomDat ea, atomDat ea]) none (some 4)).length = 4 := cutD_to _ 4 (by rw [List.length_append]; show 4 ≤ _ + 4; omega)
      refine q _ (.tuple [atomDat R.hd, .tuple _, .tuple (R.cs.map choiceDat)]) _ t (.tup (SqT.of upd_same) (.cons (dh t) (.cons (.tup (s4.seqT hp3) dd) (.cons (dc t) .nil)))) (rule_b (up_long (by rw [l4]; decide))) fun n => oT3 (oh (n + 2)) (oT (by rw [l4]; decide) fun d hd => ?_) (oc (n + 2))
      rcases List.mem_append.mp (cutD_mem hd) with hd | hd
      · exact obs (n + 1) d hd
      · simp only [List.mem_cons, List.not_mem_nil, or_false, or_self] at hd
        rw [hd]
        exact oAtom ga (n + 1)
    refine ⟨_, rfl, rfl, _, rfl, ite2 (fun _ => ?_) (fun _ => ?_)⟩
    · refine ⟨_, rfl, _, rfl, _, rfl, by show 3 ≤ sizeLine; decide, fun p1 hp1 => ⟨by show 3 ≤ sizeLine; decide, fun p2 hp2 => ⟨by show 3 ≤ sizeLine; decide, fun p3 hp3 => ⟨by show 3 ≤ sizeLine; decide, fun p4 hp4 => ⟨by show 4 ≤ sizeLine; decide, fun p5 hp5 => ?_⟩⟩⟩⟩⟩
      have s1 := same_upd (o := HO.tup [.str "<", .int 1, .int 2]) hp1
      have s2 := same_upd (o := HO.tup [.str "!=", .int 1, .int 2]) hp2
      have s3 := same_upd (o := HO.tup [.str "=", .int 1, .int 1]) hp3
      have s4 := same_upd (o := HO.tup [.str "<", .int 2, .int 1]) hp4
      have s5 := same_upd (o := HO.tup [.ref p1, .ref p2, .ref p3, .ref p4]) hp5
      have t5 := s1.trans (s2.trans (s3.trans (s4.trans s5)))
      have e1 := (s2.trans (s3.trans (s4.trans s5))) _ _ (upd_same (H := H) (a := p1) (o := HO.tup [.str "<", .int 1, .int 2]))
      have e2 := (s3.trans (s4.trans s5)) _ _ (upd_same (a := p2) (o := HO.tup [.str "!=", .int 1, .int 2]))
      have e3 := (s4.trans s5) _ _ (upd_same (a := p3) (o := HO.tup [.str "=", .int 1, .int 1]))
      have e4 := s5 _ _ (upd_same (a := p4) (o := HO.tup [.str "<", .int 2, .int 1]))
      refine ⟨_, _, _, _, rfl, rfl, t5.seqT hc, SqT.of upd_same, Nat.le_trans (show _ + 4 ≤ 1000 by omega) (by decide), fun p6 H6 s6 hp6 => ?_⟩
      refine ⟨_, rfl, _, _, rfl, hp6, fun p7 H7 s7 hp7 => ⟨by show 3 ≤ sizeLine; decide, fun p8 hp8 => ?_⟩⟩
      have s8 := same_upd (o := HO.tup [hv, .ref b, .ref p7]) hp8
      have u := s6.trans (s7.trans s8)
      have t := t5.trans u
      have dq : ∀ {pp : Addr} {z : Str} {i j : Int}, PyData.strOk z = true → upd (upd (upd (upd (upd H p1 (HO.tup [.str "<", .int 1, .int 2])) p2 (HO.tup [.str "!=", .int 1, .int 2])) p3 (HO.tup [.str "=", .int 1, .int 1])) p4 (HO.tup [.str "<", .int 2, .int 1])) p5 (HO.tup [.ref p1, .ref p2, .ref p3, .ref p4]) pp = some (.tup [.str z, .int i, .int j]) → Dat K (upd H7 p8 (HO.tup [hv, .ref b, .ref p7])) (.tuple [.str z, .int i, .int j]) (.ref pp) := fun hz e => .tup (SqT.of (u _ _ e)) (.cons (.str _ hz) (.cons (.int _) (.cons (.int _) .nil)))
      have dd := dl_cut none (some 4) (dl_app (Dats.same t _ _ dcs) (.cons (dq (by decide +kernel) e1) (.cons (dq (by decide +kernel) e2) (.cons (dq (by decide +kernel) e3) (.cons (dq (by decide +kernel) e4) .nil)))))
      have l4 : (cutD (R.cs.map choiceDat ++ [.tuple [.str "<", .int 1, .int 2], .tuple [.str "!=", .int 1, .int 2], .tuple [.str "=", .int 1, .int 1], .tuple [.str "<", .int 2, .int 1]]) none (some 4)).length = 4 := cutD_to _ 4 (by rw [List.length_append]; show 4 ≤ _ + 4; omega)
      refine q _ (.tuple [atomDat R.hd, .tuple (R.as.map atomDat), .tuple _]) _ t (.tup (SqT.of upd_same) (.cons (dh t) (.cons (db t) (.cons (.tup (s8.seqT hp7) dd) .nil)))) (rule_c (up_long (by rw [l4]; decide))) fun n => oT3 (oh (n + 2)) (ob (n + 1)) (oT (by rw [l4]; decide) fun d hd => ?_)
      rcases List.mem_append.mp (cutD_mem hd) with hd | hd
      · exact ocs (n + 2) d hd
      · simp only [List.mem_cons, List.not_mem_nil, or_false] at hd
        rcases hd with rfl | rfl | rfl | rfl <;> exact oT3 (oD_str (by decide)) oD_int oD_int
    refine ⟨_, rfl, rfl, _, rfl, ite2 (fun _ => ?_) (fun _ => ?_)⟩
    · refine ⟨_, rfl, _, rfl, _, _, rfl, .inr hb, fun l hl => ⟨_, rfl, by show 3 ≤ sizeLine; decide, fun p1 hp1 => ?_⟩⟩
      have s0 := same_upd (o := HO.lst bs) hl
      have s1 := same_upd (o := HO.tup [hv, .ref l, .ref cc]) hp1
      refine ⟨_, rfl, _, rfl, by show 3 ≤ sizeLine; decide, fun p2 hp2 => ⟨_, rfl, _, rfl, by show 3 ≤ sizeLine; decide, fun p3 hp3 => ⟨by show 3 ≤ sizeLine; decide, fun p4 hp4 => ?_⟩⟩⟩
      have s2 := same_upd (o := HO.tup [hv, .non, .ref cc]) hp2
      have s3 := same_upd (o := HO.tup [hv, .int 7, .ref cc]) hp3
      have s4 := same_upd (o := HO.lst [.ref p1, .ref p2, .ref p3]) hp4
      have t := s0.trans (s1.trans (s2.trans (s3.trans s4)))
      obtain ⟨z, hat, hz⟩ := atI_in (xs := [V.ref p1, .ref p2, .ref p3]) (i := c % 3) (Int.emod_nonneg _ (by decide)) (Int.emod_lt_of_pos _ (by decide))
      refine ⟨_, rfl, _, _, rfl, rfl, (by show (0 : Int) < 3; decide), _, _, _, _, rfl, rfl, SqL.of upd_same, hat, ?_⟩
      simp only [List.mem_cons, List.not_mem_nil, or_false] at hz
      rcases hz with rfl | rfl | rfl
      · exact q _ (.tuple [atomDat R.hd, .list (R.as.map atomDat), .tuple (R.cs.map choiceDat)]) _ t (.tup (SqT.of ((s2.trans (s3.trans s4)) _ _ upd_same)) (.cons (dh t) (.cons (.lst (SqL.of ((s1.trans (s2.trans (s3.trans s4))) _ _ upd_same)) (Dats.same t _ _ dbs)) (.cons (dc t) .nil)))) (rule_b rfl) fun n => oT3 (oh (n + 2)) (oL (by rw [List.length_map]; omega) (obs (n + 1))) (oc (n + 2))
      · exact q _ (.tuple [atomDat R.hd, .none, .tuple (R.cs.map choiceDat)]) _ t (.tup (SqT.of ((s3.trans s4) _ _ upd_same)) (.cons (dh t) (.cons .non (.cons (dc t) .nil)))) (rule_b rfl) fun n => oT3 (oh (n + 2)) oD_non (oc (n + 2))
      · exact q _ (.tuple [atomDat R.hd, .int 7, .tuple (R.cs.map choiceDat)]) _ t (.tup (SqT.of (s4 _ _ upd_same)) (.cons (dh t) (.cons (.int 7) (.cons (dc t) .nil)))) (rule_b rfl) fun n => oT3 (oh (n + 2)) oD_int (oc (n + 2))
    refine ⟨_, rfl, rfl, _, rfl, ite2 (fun _ => ?_) (fun _ => ?_)⟩
    · refine ⟨_, rfl, _, rfl, _, rfl, _, _, rfl, .inr hc, fun l hl => ⟨by show 3 ≤ sizeLine; decide, fun p1 hp1 => ?_⟩⟩
      have s0 := same_upd (o := HO.lst ws) hl
      have s1 := same_upd (o := HO.tup [hv, .ref b, .ref l]) hp1
      refine ⟨_, rfl, _, rfl, by show 3 ≤ sizeLine; decide, fun p2 hp2 => ⟨_, rfl, _, rfl, by show 3 ≤ sizeLine; decide, fun p3 hp3 => ⟨by show 3 ≤ sizeLine; decide, fun p4 hp4 => ?_⟩⟩⟩
      have s2 := same_upd (o := HO.tup [hv, .ref b, .non]) hp2
      have s3 := same_upd (o := HO.tup [hv, .ref b, .str ""]) hp3
      have s4 := same_upd (o := HO.lst [.ref p1, .ref p2, .ref p3]) hp4
      have t := s0.trans (s1.trans (s2.trans (s3.trans s4)))
      obtain ⟨z, hat, hz⟩ := atI_in (xs := [V.ref p1, .ref p2, .ref p3]) (i := c % 3) (Int.emod_nonneg _ (by decide)) (Int.emod_lt_of_pos _ (by decide))
      refine ⟨_, rfl, _, _, rfl, rfl, (by show (0 : Int) < 3; decide), _, _, _, _, rfl, rfl, SqL.of upd_same, hat, ?_⟩
      simp only [List.mem_cons, List.not_mem_nil, or_false] at hz
      rcases hz with rfl | rfl | rfl
      · exact q _ (.tuple [atomDat R.hd, .tuple (R.as.map atomDat), .list (R.cs.map choiceDat)]) _ t (.tup (SqT.of ((s2.trans (s3.trans s4)) _ _ upd_same)) (.cons (dh t) (.cons (db t) (.cons (.lst (SqL.of ((s1.trans (s2.trans (s3.trans s4))) _ _ upd_same)) (Dats.same t _ _ dcs)) .nil)))) (rule_c rfl) fun n => oT3 (oh (n + 2)) (ob (n + 1)) (oL (by rw [List.length_map]; omega) (ocs (n + 2)))
      · exact q _ (.tuple [atomDat R.hd, .tuple (R.as.map atomDat), .none]) _ t (.tup (SqT.of ((s3.trans s4) _ _ upd_same)) (.cons (dh t) (.cons (db t) (.cons .non .nil)))) (rule_c rfl) fun n => oT3 (oh (n + 2)) (ob (n + 1)) oD_non
      · exact q _ (.tuple [atomDat R.hd, .tuple (R.as.map atomDat), .str ""]) _ t (.tup (SqT.of (s4 _ _ upd_same)) (.cons (dh t) (.cons (db t) (.cons (.str _ (by decide +kernel)) .nil)))) (rule_c rfl) fun n => oT3 (oh (n + 2)) (ob (n + 1)) (oD_str (by decide))
    · refine ⟨_, rfl, _, rfl, _, rfl, by show 3 ≤ sizeLine; decide, fun p1 hp1 => ?_⟩
      have s1 := same_upd (o := HO.lst [hv, .ref b, .ref cc]) hp1
      refine ⟨_, rfl, _, rfl, by show 2 ≤ sizeLine; decide, fun p2 hp2 => ⟨_, rfl, _, rfl, _, rfl, _, rfl, by show 4 ≤ sizeLine; decide, fun p3 hp3 => ⟨by decide, fun p4 hp4 => ⟨_, rfl, by show 6 ≤ sizeLine; decide, fun p5 hp5 => ?_⟩⟩⟩⟩
      have s2 := same_upd (o := HO.tup [hv, .ref b]) hp2
      have s3 := same_upd (o := HO.tup [hv, .ref b, .ref cc, .ref cc]) hp3
      have s4 := same_upd (o := HO.tup []) hp4
      have s5 := same_upd (o := HO.lst [.ref p1, .ref p2, .ref p3, .ref p4, .non, hv]) hp5
      have t := s1.trans (s2.trans (s3.trans (s4.trans s5)))
      obtain ⟨z, hat, hz⟩ := atI_in (xs := [V.ref p1, .ref p2, .ref p3, .ref p4, .non, hv]) (i := c % 6) (Int.emod_nonneg _ (by decide)) (Int.emod_lt_of_pos _ (by decide))
      refine ⟨_, rfl, _, _, rfl, rfl, (by show (0 : Int) < 6; decide), _, _, _, _, rfl, rfl, SqL.of upd_same, hat, ?_⟩
      simp only [List.mem_cons, List.not_mem_nil, or_false] at hz
      rcases hz with h | h | h | h | h | h
      · rw [h]
        exact q _ (.list [atomDat R.hd, .tuple (R.as.map atomDat), .tuple (R.cs.map choiceDat)]) _ t (.lst (SqL.of ((s2.trans (s3.trans (s4.trans s5))) _ _ upd_same)) (.cons (dh t) (.cons (db t) (.cons (dc t) .nil)))) rfl fun n => oL3 (oh (n + 2)) (ob (n + 1)) (oc (n + 2))
      · rw [h]
        exact q _ (.tuple [atomDat R.hd, .tuple (R.as.map atomDat)]) _ t (.tup (SqT.of ((s3.trans (s4.trans s5)) _ _ upd_same)) (.cons (dh t) (.cons (db t) .nil))) rfl fun n => oT2 (oh (n + 2)) (ob (n + 1))
      · rw [h]
        exact q _ (.tuple [atomDat R.hd, .tuple (R.as.map atomDat), .tuple (R.cs.map choiceDat), .tuple (R.cs.map choiceDat)]) _ t (.tup (SqT.of ((s4.trans s5) _ _ upd_same)) (.cons (dh t) (.cons (db t) (.cons (dc t) (.cons (dc t) .nil))))) rfl fun n => oT4 (oh (n + 2)) (ob (n + 1)) (oc (n + 2)) (oc (n + 2))
      · rw [h]
        exact q _ (.tuple []) _ t (.tup (SqT.of (s5 _ _ upd_same)) .nil) rfl fun n => oT (by decide) fun _ z => nomatch z
      · rw [h]
        exact q _ .none _ t .non rfl fun n => oD_non
      · rw [h]
        exact q _ (atomDat R.hd) _ t (dh t) rfl fun n => oh (n + 3)
end
end Wy
namespace Wy
open PySem L2
def thereK (as : List AT) : List Key := as.flatMap (·.2)
def wantK (R : Rl) : List Key := R.hd.2 ++ R.cs.flatMap fun c => [c.2.1, c.2.2]
def tOk (us : List Key) (t : Key) : Bool := !(isV t && !((us.map keyD).any fun y => PyData.eqv y (keyD t)))
def safeB (R : Rl) : Bool := (wantK R).all (tOk (thereK R.as))
theorem mem_vn {ts : List Key} {z : Str} : z ∈ vnames (ts.map keyD) ↔ ((Sum.inr z : Key) ∈ ts ∧ txtB capS z = true) := by
  unfold vnames
  constructor
  · intro h
    obtain ⟨d, hd, hz⟩ := List.mem_flatMap.mp h
    obtain ⟨t, ht, rfl⟩ := List.mem_map.mp hd
    cases t with
    | inl i => cases hz
    | inr y =>
      have hz : z ∈ if txtB capS y = true then [y] else [] := hz
      by_cases c : txtB capS y = true
      · rw [if_pos c] at hz
        rw [List.mem_singleton.mp hz]
        exact ⟨ht, c⟩
      · rw [if_neg c] at hz
        cases hz
  · rintro ⟨h, c⟩
    refine List.mem_flatMap.mpr ⟨.str z, List.mem_map.mpr ⟨.inr z, h, rfl⟩, ?_⟩
    show z ∈ if txtB capS z = true then [z] else []
    rw [if_pos c]
    exact List.mem_singleton.mpr rfl
theorem mem_bv {as : List AT} {z : Str} : z ∈ bodyVars (as.map atomDat) ↔ ((Sum.inr z : Key) ∈ thereK as ∧ txtB capS z = true) := by
  unfold bodyVars thereK
  constructor
  · intro h
    obtain ⟨d, hd, hz⟩ := List.mem_flatMap.mp h
    obtain ⟨e, he, rfl⟩ := List.mem_map.mp hd
    have hz := mem_vn.mp (show z ∈ vnames (e.2.map keyD) from hz)
    exact ⟨List.mem_flatMap.mpr ⟨e, he, hz.1⟩, hz.2⟩
  · rintro ⟨h, c⟩
    obtain ⟨e, he, hz⟩ := List.mem_flatMap.mp h
    exact List.mem_flatMap.mpr ⟨atomDat e, List.mem_map.mpr ⟨e, he, rfl⟩, show z ∈ vnames (e.2.map keyD) from mem_vn.mpr ⟨hz, c⟩⟩
theorem known_iff {ts : List Key} {ks : List Str} : knownB (ts.map keyD) ks = true ↔ ∀ z, (Sum.inr z : Key) ∈ ts → txtB capS z = true → z ∈ ks := by
  unfold knownB
  rw [List.all_eq_true]
  constructor
  · exact fun h z hz c => of_decide_eq_true (h z (mem_vn.mpr ⟨hz, c⟩))
  · exact fun h z hz => decide_eq_true (h z (mem_vn.mp hz).1 (mem_vn.mp hz).2)
theorem any_keysI {us : List Key} {z : Str} (h : (Sum.inr z : Key) ∈ us) : ((us.map keyD).any fun y => PyData.eqv y (.str z)) = true := List.any_eq_true.mpr ⟨.str z, List.mem_map.mpr ⟨.inr z, h, rfl⟩, by show PyData.eqv (.str z) (.str z) = true; rw [eqv_str]; exact decide_eq_true rfl⟩
theorem safe_iff {R : Rl} : safeB R = true ↔ ∀ z, (Sum.inr z : Key) ∈ wantK R → txtB capS z = true → (Sum.inr z : Key) ∈ thereK R.as := by
  unfold safeB
  rw [List.all_eq_true]
  constructor
  · intro h z hz c
    have h := h _ hz
    unfold tOk at h
    rw [show isV (.inr z) = true from c, Bool.true_and, Bool.not_not] at h
    exact any_keys h
  · intro h t ht
    unfold tOk
    cases t with
    | inl i => rfl
    | inr z =>
      cases c : isV (.inr z) with
      | false => rfl
      | true =>
        rw [Bool.true_and, Bool.not_not]
        exact any_keysI (h z ht c)
theorem atom_yes {e : AT} (ok : AOk e) : atomB (atomDat e) = true := by
  show (txtB small e.1 && (decide ((e.2.map keyD).length ≤ 4) && (e.2.map keyD).all termB)) = true
  rw [ok.tb, decide_eq_true (by rw [List.length_map]; exact ok.len), Bool.true_and, Bool.true_and, List.all_map, List.all_eq_true]
  exact fun t ht => (ok.ks t ht).tm
theorem sg_yes : ∀ z ∈ sgs, signB (.str z) = true := by decide +kernel
theorem choice_yes {e : CT} (ok : COk e) : choiceB (choiceDat e) = true := by
  show (signB (.str e.1) && (termB (keyD e.2.1) && termB (keyD e.2.2))) = true
  rw [sg_yes _ ok.1, ok.2.1.tm, ok.2.2.tm]
  rfl
theorem up_yes {α : Type} {m : Nat} {f : PyData → Bool} {g : α → PyData} {es : List α} (l : es.length ≤ m) (h : ∀ e ∈ es, f (g e) = true) : upD m f (.tuple (es.map g)) = true := by
  rw [upD, decide_eq_true (by rw [List.length_map]; exact l), Bool.true_and, List.all_map, List.all_eq_true]
  exact h
theorem rule_safe {R : Rl} (G : RGood R) : ruleB (ruleDat R) = safeB R := by
  rw [Bool.eq_iff_iff, safe_iff]
  show (atomB (atomDat R.hd) && (atomsB (.tuple (R.as.map atomDat)) && (choicesB (.tuple (R.cs.map choiceDat)) && (knownB (R.hd.2.map keyD) (bodyVars (R.as.map atomDat)) && (R.cs.map choiceDat).all (chKnown (bodyVars (R.as.map atomDat))))))) = true ↔ _
  rw [atom_yes G.hd, atomsB, up_yes G.las fun e he => atom_yes (G.as e he), choicesB, up_yes G.lcs fun e he => choice_yes (G.cs e he), Bool.true_and, Bool.true_and, Bool.true_and, Bool.and_eq_true, known_iff, List.all_map, List.all_eq_true]
  constructor
  · rintro ⟨ha, hb⟩ z hz cz
    rcases List.mem_append.mp hz with hz | hz
    · exact (mem_bv.mp (ha z hz cz)).1
    · obtain ⟨c, hc, hz⟩ := List.mem_flatMap.mp hz
      exact (mem_bv.mp ((known_iff (ts := [c.2.1, c.2.2])).mp (hb c hc) z hz cz)).1
  · intro h
    exact ⟨fun z hz cz => mem_bv.mpr ⟨h z (List.mem_append_left _ hz) cz, cz⟩, fun c hc => (known_iff (ts := [c.2.1, c.2.2])).mpr fun z hz cz => mem_bv.mpr ⟨h z (List.mem_append_right _ (List.mem_flatMap.mpr ⟨c, hc, hz⟩)) cz, cz⟩⟩
theorem fm_step {α β : Type} {as : List α} {f : α → List β} {i : Nat} {e : α} (h : as[i]? = some e) : (as.take (i + 1)).flatMap f = (as.take i).flatMap f ++ f e := by
  rw [List.take_succ, h, List.flatMap_append]
  simp
section
variable {P : Program} {w : World} {K : PySem.W.Frag} {mg : Str → Option Value} {base : Heap}
theorem dk {H : Hp} : ∀ {t : Key} {x : V}, Dat K H (keyD t) x → x = kV t
  | .inl _, _, .int _ => rfl
  | .inr _, _, .str _ _ => rfl
theorem dks {H : Hp} : ∀ {ts : List Key} {xs : List V}, Dats K H (ts.map keyD) xs → xs = ts.map kV
  | [], _, .nil => rfl
  | _ :: _, _, .cons h r => by rw [dk h, dks r]; rfl
def sp_safe (K : PySem.W.Frag) : Sp := fun vs H Q _ => ∃ (x : V) (R : Rl), vs = [x] ∧ Dat K H (ruleDat R) x ∧ RGood R ∧ ∀ H', Same H H' → Q (.bl (safeB R)) H'
theorem ok__law_safe (T : Txt K mg) : Def P w K mg base 2 "_law_safe" ["_law_rule_here"] (sp_safe K) := by
  refine T.t__law_safe.ok sc__law_safe (fun vs H Q E h => ?_) fun f cdv A outer s H vs Q E hr h => ?_
  · obtain ⟨x, R, rfl, _⟩ := h
    rfl
  · obtain ⟨x, R, rfl, hd, G, k⟩ := h
    obtain ⟨p, hv, b, cc, bs, ws, rfl, hp, hh, hb, dbs, hc, dcs⟩ := rule_un hd
    have lbs : bs.length = R.as.length := by rw [← dats_len dbs, List.length_map]
    have lcs : ws.length = R.cs.length := by rw [← dats_len dcs, List.length_map]
    have g3 := G.las
    have g4 := G.lcs
    refine ⟨_, (pss_6
      (ps_set (i := 1) sc__law_safe.nd rfl (Or.inl rfl) (pe_lst pa_nil))
      (ps_for PassesOwn.never rfl (pi_tupK K (pe_ix (ix_tupK K) (pv 0) pe_int (fun _ _ => rfl))) (pg_name (i := 2) sc__law_safe.nd rfl (Or.inl rfl)) (pss_one (ps_set (i := 1) sc__law_safe.nd rfl (Or.inl rfl) (pe_op op_cat (pv 1) (pe_callTy (call_listK K) rfl T.b_list bt_list (pa_1 (pe_ix (ix_tupK K) (pv 2) pe_int (fun _ _ => rfl))))))))
      (ps_set (i := 3) sc__law_safe.nd rfl (Or.inl rfl) (pe_callTy (call_listK K) rfl T.b_list bt_list (pa_1 (pe_ix (ix_tupK K) (pe_ix (ix_tupK K) (pv 0) pe_int (fun _ _ => rfl)) pe_int (fun _ _ => rfl)))))
      (ps_for PassesOwn.never rfl (pi_tupK K (pe_ix (ix_tupK K) (pv 0) pe_int (fun _ _ => rfl))) (pg_name (i := 4) sc__law_safe.nd rfl (Or.inl rfl)) (pss_one (ps_set (i := 3) sc__law_safe.nd rfl (Or.inl rfl) (pe_op op_cat (pv 3) (pe_lst (pa_2 (pe_ix (ix_tupK K) (pv 4) pe_int (fun _ _ => rfl)) (pe_ix (ix_tupK K) (pv 4) pe_int (fun _ _ => rfl))))))))
      (ps_for PassesOwn.never rfl (pi_listK K (pv 3)) (pg_name (i := 5) sc__law_safe.nd rfl (Or.inl rfl)) (pss_one (ps_if (PW.pt (pw_and (pt_val (pe_def (ok__law_is_var T) hr rfl (pa_1 (pv 5)))) (pw_and1 (pt_cmpR (op_notInD hr.units K) (pv 5) (pv 1) (by with_unfolding_all rfl))))) (pss_one (ps_ret pe_bl)) pss_nil)))
      (ps_ret pe_bl)), ?_⟩
    refine ⟨by decide, fun L hL => ?_⟩
    have s1 := same_upd (o := HO.lst []) hL
    refine ⟨_, rfl, _, _, _, _, rfl, rfl, s1.seqT hp, atI_nat (j := 1) rfl, b, rfl, ⟨_, s1.seqT hb⟩, for_tup (xs := bs) (fun i σ H' => ∃ (L : Addr) (v2 : Option V), σ = [some (.ref p), some (.ref L), v2, none, none, none] ∧ Same H H' ∧ H' L = some (.lst ((thereK (R.as.take i)).map kV)) ∧ (thereK (R.as.take i)).length ≤ 4 * i) ⟨L, none, rfl, s1, upd_same, Nat.le_refl _⟩ (fun i σ H' _ p => by obtain ⟨_, _, _, z, _⟩ := p; exact z.seqT hb) ?_ ?_⟩
    · rintro i x σ H1 hx ⟨L, v2, rfl, sm, hl, lb⟩
      have hil := (List.getElem?_eq_some_iff.mp hx).1
      obtain ⟨d, hdi, hdx⟩ := dats_get (Dats.same sm _ _ dbs) hx
      rw [List.getElem?_map] at hdi
      obtain ⟨e, hei, rfl⟩ := Option.map_eq_some_iff.mp hdi
      have oe := G.as e (List.mem_of_getElem? hei)
      obtain ⟨pa, qa, zs, rfl, hpa, hqa, hzs⟩ := atom_un hdx
      obtain rfl := dks hzs
      have le := oe.len
      refine ⟨_, rfl, _, rfl, _, _, _, _, rfl, rfl, hpa, atI_nat (j := 1) rfl, _, _, rfl, .inr hqa, fun l hl2 => ?_⟩
      have s2 := same_upd (o := HO.lst (e.2.map kV)) hl2
      refine ⟨_, _, _, _, rfl, rfl, s2 _ _ hl, upd_same, ?_, fun M hM => ?_⟩
      · rw [List.length_map, List.length_map]
        exact Nat.le_trans (show _ ≤ 1000 by omega) (by decide)
      have s3 := same_upd (o := HO.lst ((thereK (R.as.take i)).map kV ++ e.2.map kV)) hM
      have es : thereK (R.as.take (i + 1)) = thereK (R.as.take i) ++ e.2 := fm_step hei
      refine ⟨M, _, rfl, sm.trans (s2.trans s3), ?_, ?_⟩
      · rw [upd_same, es, List.map_append]
      · rw [es, List.length_append]
        omega
    · rintro σ H1 ⟨L, v2, rfl, sm, hl, lb⟩
      rw [lbs, List.take_length] at hl lb
      obtain ⟨ph, qh, zs, rfl, hph, hqh, hzs⟩ := atom_un hh
      obtain rfl := dks hzs
      have lh := G.hd.len
      refine ⟨_, rfl, _, _, _, _, rfl, rfl, sm.seqT hp, atI_nat (j := 0) rfl, _, _, _, _, rfl, rfl, sm.seqT hph, atI_nat (j := 1) rfl, _, _, rfl, .inr (sm.seqT hqh), fun W hW => ?_⟩
      have s2 := same_upd (o := HO.lst (R.hd.2.map kV)) hW
      refine ⟨_, rfl, _, _, _, _, rfl, rfl, (sm.trans s2).seqT hp, atI_nat (j := 2) rfl, cc, rfl, ⟨_, (sm.trans s2).seqT hc⟩, for_tup (xs := ws) (fun i σ H' => ∃ (W : Addr) (v4 : Option V), σ = [some (.ref p), some (.ref L), v2, some (.ref W), v4, none] ∧ Same H1 H' ∧ H' W = some (.lst ((R.hd.2 ++ (R.cs.take i).flatMap fun c => [c.2.1, c.2.2]).map kV)) ∧ ((R.cs.take i).flatMap fun c => [c.2.1, c.2.2]).length ≤ 2 * i) ⟨W, none, rfl, s2, by rw [upd_same, List.take_zero, List.flatMap_nil, List.append_nil], Nat.le_refl _⟩ (fun i σ H' _ p => by obtain ⟨_, _, _, z, _⟩ := p; exact (sm.trans z).seqT hc) ?_ ?_⟩
      · rintro i x σ H2 hx ⟨W, v4, rfl, sn, hw, lw⟩
        have hil := (List.getElem?_eq_some_iff.mp hx).1
        obtain ⟨d, hdi, hdx⟩ := dats_get (Dats.same (sm.trans sn) _ _ dcs) hx
        rw [List.getElem?_map] at hdi
        obtain ⟨e, hei, rfl⟩ := Option.map_eq_some_iff.mp hdi
        obtain ⟨pc, a1, a2, rfl, hpc, ha1, ha2⟩ := choice_un hdx
        obtain rfl := dk ha1
        obtain rfl := dk ha2
        refine ⟨_, rfl, _, rfl, _, _, _, _, rfl, rfl, hpc, atI_nat (j := 1) rfl, _, rfl, _, _, _, _, rfl, rfl, hpc, atI_nat (j := 2) rfl, by show 2 ≤ sizeLine; decide, fun l hl2 => ?_⟩
        have s3 := same_upd (o := HO.lst [kV e.2.1, kV e.2.2]) hl2
        refine ⟨_, _, _, _, rfl, rfl, s3 _ _ hw, upd_same, ?_, fun M hM => ?_⟩
        · rw [List.length_map, List.length_append]
          exact Nat.le_trans (show _ + 2 ≤ 1000 by omega) (by decide)
        have s4 := same_upd (o := HO.lst ((R.hd.2 ++ (R.cs.take i).flatMap fun c => [c.2.1, c.2.2]).map kV ++ [kV e.2.1, kV e.2.2])) hM
        have es : ((R.cs.take (i + 1)).flatMap fun c => [c.2.1, c.2.2]) = ((R.cs.take i).flatMap fun c => [c.2.1, c.2.2]) ++ [e.2.1, e.2.2] := fm_step hei
        refine ⟨M, _, rfl, sn.trans (s3.trans s4), ?_, ?_⟩
        · rw [upd_same, es, ← List.append_assoc, List.map_append (l₂ := [e.2.1, e.2.2])]
          rfl
        · rw [es, List.length_append]
          show _ + 2 ≤ _
          omega
      · rintro σ H2 ⟨W, v4, rfl, sn, hw, lw⟩
        rw [lcs, List.take_length] at hw lw
        have hw : H2 W = some (.lst ((wantK R).map kV)) := hw
        have gw : ∀ t ∈ wantK R, GK t := fun t ht => by
          rcases List.mem_append.mp ht with ht | ht
          · exact G.hd.ks t ht
          · obtain ⟨c, hcc, ht⟩ := List.mem_flatMap.mp ht
            simp only [List.mem_cons, List.not_mem_nil, or_false] at ht
            rcases ht with rfl | rfl
            · exact (G.cs c hcc).2.1
            · exact (G.cs c hcc).2.2
        have gt : ∀ t ∈ thereK R.as, GK t := fun t ht => by
          obtain ⟨e, he, ht⟩ := List.mem_flatMap.mp ht
          exact (G.as e he).ks t ht
        refine ⟨_, rfl, W, rfl, ⟨_, SqL.of hw⟩, for_list (xs := (wantK R).map kV) (fun i σ H' => ∃ (v5 : Option V), σ = [some (.ref p), some (.ref L), v2, some (.ref W), v4, v5] ∧ Same H2 H' ∧ ((wantK R).take i).all (tOk (thereK R.as)) = true) ⟨none, rfl, Same.refl _, rfl⟩ (fun i σ H' _ p => by obtain ⟨_, _, z, _⟩ := p; exact SqL.of (z _ _ hw)) ?_ ?_⟩
        · rintro i x σ H3 hx ⟨v5, rfl, so, al⟩
          rw [List.getElem?_map] at hx
          obtain ⟨t, hti, rfl⟩ := Option.map_eq_some_iff.mp hx
          have g := gw t (List.mem_of_getElem? hti)
          have step : tOk (thereK R.as) t = true → ((wantK R).take (i + 1)).all (tOk (thereK R.as)) = true := fun h => by
            rw [List.take_succ, hti, List.all_append, al, Bool.true_and]
            show (tOk (thereK R.as) t && true) = true
            rw [h]
            rfl
          refine ⟨_, rfl, t, rfl, g, _, rfl, ite2 (fun h1 => ?_) (fun h1 => iteF ⟨_, rfl, so, step ?_⟩)⟩
          · refine ⟨_, rfl, _, rfl, keyD t, (thereK R.as).map keyD, g.dat, .lst (SqL.of ((sn.trans so) _ _ hl)) (dats_keys gt), Nat.le_trans (depth_keys _) (by decide), _, rfl, ite2 (fun h2 => ?_) (fun h2 => ⟨_, rfl, so, step ?_⟩)⟩
            · have e : safeB R = false := by
                rw [Bool.eq_false_iff]
                intro z
                have := List.all_eq_true.mp z t (List.mem_of_getElem? hti)
                unfold tOk at this
                rw [show isV t = true from h1, Bool.true_and] at this
                rw [show (!((thereK R.as).map keyD).any fun y => PyData.eqv y (keyD t)) = true from h2] at this
                cases this
              have := k H3 (sm.trans (sn.trans so))
              rw [e] at this
              exact this
            · unfold tOk
              rw [show (!((thereK R.as).map keyD).any fun y => PyData.eqv y (keyD t)) = false from Bool.eq_false_iff.mpr h2, Bool.and_false]
              rfl
          · unfold tOk
            rw [show isV t = false from Bool.eq_false_iff.mpr h1]
            rfl
        · rintro σ H3 ⟨v5, rfl, so, al⟩
          rw [List.length_map, List.take_length] at al
          have := k H3 (sm.trans (sn.trans so))
          rw [show safeB R = true from al] at this
          exact this
def sp_alk : Sp := fun vs H Q _ => ∃ a b : Bool, vs = [.bl a, .bl b] ∧ Q (.bl (decide (V.bl a = V.bl b))) H
theorem ok__law_alike (T : Txt K mg) : Def P w K mg base 1 "_law_alike" ["_law_found", "_law_due"] sp_alk := by
  refine T.t__law_alike.ok sc__law_alike (fun vs H Q E h => ?_) fun f cdv A outer s H vs Q E hr h => ?_
  · obtain ⟨a, b, rfl, _⟩ := h
    rfl
  · obtain ⟨a, b, rfl, k⟩ := h
    refine ⟨_, (pss_one (ps_ret (pe_and (pe_callB (call_isi K) rfl T.b_isinstance bt_isinstance (pa_2 (pv 0) (pe_ty rfl T.b_bool bt_bool))) (pe_one (pe_cmpR op_eq (pv 0) (pv 1) (nomark _)))))), ?_⟩
    exact ⟨_, rfl, _, _, _, rfl, .bl a, by decide, by decide, _, rfl, iteTb rfl ⟨_, rfl, _, rfl, rfl, k⟩⟩
end
end Wy
namespace Wy
open PySem L2
theorem oRule {R : Rl} (G : RGood R) (n : Nat) : okD (n + 4) (ruleDat R) := by
  refine oT3 (oAtom G.hd (n + 1)) (oT ?_ fun d hd => ?_) (oT ?_ fun d hd => ?_)
  · rw [List.length_map]
    exact Nat.le_trans G.las (by decide)
  · obtain ⟨e, he, rfl⟩ := List.mem_map.mp hd
    exact oAtom (G.as e he) n
  · rw [List.length_map]
    exact Nat.le_trans G.lcs (by decide)
  · obtain ⟨e, he, rfl⟩ := List.mem_map.mp hd
    exact oChoice (G.cs e he) (n + 1)
def sp_law (K : PySem.W.Frag) : Sp := fun vs H Q _ => ∃ (a : Addr) (ns : List Int), vs = [.ref a] ∧ SqL K H a (ns.map V.int) ∧ ns.length ≤ 63 ∧ ∀ H', Q (.bl true) H'
theorem ok_law {l : PySem.W.OpenLaw} {w : World} {K : PySem.W.Frag} {mg : Str → Option Value} {fa : Addr} (T : Txt K mg) (hfa : mg "law" = some (.ref fa)) :
    ∃ fd : FuncData, (∀ (s : Shared) (v : Value), BindsTo s fd ⟨[v], []⟩ [("_law_script", v)]) ∧ ∀ base : Heap, K.In base → base.Ns mainGlobals mg → FnOk l.prog w K mg base CX0 9 fa fd ["_law_script"] (sp_law K) := by
  refine T.t_law.fin hfa sc_law (fun vs H Q E h => ?_) fun base f cdv A outer s H vs Q E hr h => ?_
  · obtain ⟨a, ns, rfl, _⟩ := h
    rfl
  · obtain ⟨a, ns, rfl, hS, hlen, k⟩ := h
    refine join_at 3 (fun σ H2 => ∃ (q : Addr) (way : Int) (x : V) (R : Rl), σ = [some (.ref a), some (.ref q), some (.int way), some x, none, none, none] ∧ Same H H2 ∧ Ws K H2 q ∧ Dat K H2 (ruleDat R) x ∧ RGood R) ⟨_, (pss_4
      (ps_set (i := 4) sc_law.nd rfl (Or.inl rfl) (pe_def (ok__law_safe T) hr rfl (pa_1 (pv 3))))
      (ps_for PassesOwn.never rfl (pi_tupK K (pe_op (op_catA K) (pe_tup (pa_1 (pe_ix (ix_tupK K) (pv 3) pe_int (fun _ _ => rfl)))) (pe_ix (ix_tupK K) (pv 3) pe_int (fun _ _ => rfl)))) (pg_name (i := 5) sc_law.nd rfl (Or.inl rfl)) (pss_one (ps_if (pt_not (pt_val (pe_def (ok__law_alike T) hr rfl (pa_2 (pe_def (ok_is_atom T) hr rfl (pa_1 (pv 5))) pe_bl)))) (pss_one (ps_ret pe_bl)) pss_nil)))
      (ps_if (pt_cmpR op_eq (pe_op op_mod (pv 2) pe_int) pe_int (nomark _)) (pss_4
      (ps_set (i := 3) sc_law.nd rfl (Or.inl rfl) (pe_def (ok__law_spoiled T) hr rfl (pa_4 (pv 3) (pe_op op_mod (pe_op op_fdiv (pv 2) pe_int) pe_int) (pe_def (ok__law_cell_at T) hr rfl (pa_2 (pv 0) pe_int)) (pe_ix (ix_tupK K) (pv 3) pe_int (fun _ _ => rfl)))))
      (ps_set (i := 4) sc_law.nd rfl (Or.inl rfl) pe_bl)
      (ps_set (i := 6) sc_law.nd rfl (Or.inl rfl) (pe_def (ok__law_spoiled_atom T) hr rfl (pa_3 (pe_tup (pa_2 (pe_ix (ix_listK K) (pv 1) pe_int (fun _ _ => rfl)) (pe_tup (pa_2 pe_int (pe_ix (ix_listK K) (pv 1) pe_int (fun _ _ => rfl)))))) (pe_op op_mod (pe_op op_fdiv (pv 2) pe_int) pe_int) (pe_def (ok__law_cell_at T) hr rfl (pa_2 (pv 0) pe_int)))))
      (ps_if (pt_not (pt_val (pe_def (ok__law_alike T) hr rfl (pa_2 (pe_def (ok_is_atom T) hr rfl (pa_1 (pv 6))) pe_bl)))) (pss_one (ps_ret pe_bl)) pss_nil)) pss_nil)
      (ps_ret (pe_def (ok__law_alike T) hr rfl (pa_2 (pe_def (ok_is_rule T) hr rfl (pa_1 (pv 3))) (pv 4))))), ?_⟩ (fun u hu hC => ⟨_, (psr_3
      (ps_set (i := 1) sc_law.nd rfl (Or.inl rfl) (pe_def (ok__law_words T) hr rfl (pa_3 (pe_def (ok__law_cell_at T) hr rfl (pa_2 (pv 0) pe_int)) (pe_def (ok__law_cell_at T) hr rfl (pa_2 (pv 0) pe_int)) pe_int)))
      (ps_set (i := 2) sc_law.nd rfl (Or.inl rfl) (pe_def (ok__law_cell_at T) hr rfl (pa_2 (pv 0) pe_int)))
      (ps_set (i := 3) sc_law.nd rfl (Or.inl rfl) (pe_def (ok__law_rule T) hr rfl (pa_3 (pv 0) (pv 1) (pe_and (pe_cmpR op_eq (pe_op op_mod (pv 2) pe_int) pe_int (nomark _)) (pe_one (pe_cmpR op_ne (pe_op op_mod (pe_op op_fdiv (pv 2) pe_int) pe_int) pe_int (nomark _)))))))
      hu), ?_⟩)
    · rintro σ H2 ⟨q, way, x, R, rfl, s2, hW, hd, G⟩
      obtain ⟨p, hv, b, cc, bs, ws, rfl, hp, hh, hb, dbs, hc, dcs⟩ := rule_un hd
      have lbs : bs.length = R.as.length := by rw [← dats_len dbs, List.length_map]
      have g3 := G.las
      refine ⟨_, rfl, _, R, rfl, hd, G, fun H3 s3 => ?_⟩
      refine ⟨_, rfl, _, _, _, _, rfl, rfl, s3.seqT hp, atI_nat (j := 0) rfl, by show 1 ≤ sizeLine; decide, fun p1 hp1 => ?_⟩
      have s4 := same_upd (o := HO.tup [hv]) hp1
      refine ⟨_, rfl, _, _, _, _, rfl, rfl, s4.seqT (s3.seqT hp), atI_nat (j := 1) rfl, _, _, _, _, rfl, rfl, SqT.of upd_same, s4.seqT (s3.seqT hb), Nat.le_trans (show 1 + _ ≤ 1000 by omega) (by decide), fun p2 H5 s5 hp2 => ?_⟩
      have t5 := s3.trans (s4.trans s5)
      have dall : Dats K H5 ((R.hd :: R.as).map atomDat) ([hv] ++ bs) := .cons (Dat.same t5 _ _ hh) (Dats.same t5 _ _ dbs)
      refine ⟨p2, rfl, ⟨_, hp2⟩, for_tup (xs := [hv] ++ bs) (fun i σ H' => ∃ v5 : Option V, σ = [some (.ref a), some (.ref q), some (.int way), some (.ref p), some (.bl (safeB R)), v5, none] ∧ Same H5 H') ⟨none, rfl, Same.refl _⟩ (fun i σ H' _ z => by obtain ⟨_, _, z⟩ := z; exact z.seqT hp2) ?_ ?_⟩
      · rintro i x σ H6 hx ⟨v5, rfl, sm⟩
        obtain ⟨d, hdi, hdx⟩ := dats_get (Dats.same sm _ _ dall) hx
        rw [List.getElem?_map] at hdi
        obtain ⟨e, hei, rfl⟩ := Option.map_eq_some_iff.mp hdi
        have oe : AOk e := by
          rcases List.mem_cons.mp (List.mem_of_getElem? hei) with rfl | he
          · exact G.hd
          · exact G.as e he
        have ea : (!decide (V.bl (atomB (atomDat e)) = V.bl true)) = false := by rw [atom_yes oe]; rfl
        exact ⟨_, rfl, _, atomDat e, 2, rfl, hdx, oAtom oe 0, fun H7 s7 => ⟨_, _, rfl, _, rfl, iteFb ea ⟨_, rfl, sm.trans s7⟩⟩⟩
      · rintro σ H6 ⟨v5, rfl, sm⟩
        have t6 := t5.trans sm
        have hS6 := (s2.trans t6).seq hS
        refine ⟨_, rfl, _, _, rfl, rfl, (by show (0 : Int) < 2; decide), rfl, _, rfl, ite2 (fun _ => ?_) (fun _ => ?_)⟩
        · refine ⟨_, rfl, _, rfl, _, _, rfl, rfl, ⟨by decide, by decide⟩, _, _, rfl, rfl, (by show (0 : Int) < 17; decide), _, rfl, a, ns, _, rfl, hS6, by decide, _, rfl, _, _, _, _, rfl, rfl, t6.seqT hp, atI_nat (j := 0) rfl, _, _, R, R.hd, _, _, rfl, Dat.same t6 _ _ hd, G, Dat.same t6 _ _ hh, G.hd, fun z d H7 s7 hz hno ho => ?_⟩
          obtain ⟨z0, z1, z2, hWs, g0, g1, _⟩ := (hW.same (t6.trans s7)).ex
          refine ⟨_, rfl, _, _, _, _, rfl, rfl, hWs, atI_nat (j := 0) rfl, _, rfl, _, _, _, _, rfl, rfl, hWs, atI_nat (j := 1) rfl, by show 2 ≤ sizeLine; decide, fun p3 hp3 => ⟨by show 2 ≤ sizeLine; decide, fun p4 hp4 => ?_⟩⟩
          have s8 := same_upd (o := HO.tup [.int 1, .str z1]) hp3
          have s9 := same_upd (o := HO.tup [.str z0, .ref p3]) hp4
          have t9 := s7.trans (s8.trans s9)
          refine ⟨_, rfl, _, _, rfl, rfl, ⟨by decide, by decide⟩, _, _, rfl, rfl, (by show (0 : Int) < 7; decide), _, rfl, a, ns, _, rfl, t9.seq hS6, by decide, _, (z0, [.inl 1, .inr z1]), _, _, rfl, ?_, ⟨g0, ?_, by show 2 ≤ 4; decide⟩, fun y d2 H9 s10 hd2 hno2 ho2 => ?_⟩
          · exact .tup (SqT.of upd_same) (.cons (.str _ (txtB_str small_lt g0)) (.cons (.tup (SqT.of (s9 _ _ upd_same)) (.cons (.int 1) (.cons (.str _ (txtB_str small_lt g1)) .nil))) .nil))
          · intro t ht
            simp only [List.mem_cons, List.not_mem_nil, or_false] at ht
            rcases ht with rfl | rfl
            · exact trivial
            · exact .inl g1
          · have ea : (!decide (V.bl (atomB d2) = V.bl false)) = false := by rw [hno2]; rfl
            refine ⟨_, rfl, _, d2, 3, rfl, hd2, ho2 0, fun H10 s11 => ⟨_, _, rfl, _, rfl, iteFb ea ?_⟩⟩
            refine ⟨_, rfl, _, d, 5, rfl, Dat.same ((s8.trans s9).trans (s10.trans s11)) _ _ hz, ho 0, fun H11 s12 => ⟨_, rfl, _, _, rfl, ?_⟩⟩
            have e : decide (V.bl (ruleB d) = V.bl false) = true := by rw [hno]; rfl
            have := k H11
            rw [← e] at this
            exact this
        · refine ⟨_, rfl, _, ruleDat R, 4, rfl, Dat.same t6 _ _ hd, oRule G 0, fun H11 s12 => ⟨_, rfl, _, _, rfl, ?_⟩⟩
          have e : decide (V.bl (ruleB (ruleDat R)) = V.bl (safeB R)) = true := decide_eq_true (by rw [rule_safe G])
          have := k H11
          rw [← e] at this
          exact this
    · refine ⟨_, rfl, a, ns, _, rfl, hS, by decide, _, rfl, a, ns, _, rfl, hS, by decide, _, _, rfl, fun q z0 z1 z2 H1 s1 hq g0 g1 g2 => ?_⟩
      have hW : Ws K H1 q := ⟨z0, z1, z2, SqL.of hq, g0, g1, g2⟩
      refine ⟨_, rfl, a, ns, _, rfl, s1.seq hS, by decide, ?_⟩
      refine ⟨_, rfl, _, rfl, _, rfl, _, _, rfl, rfl, (by show (0 : Int) < 2; decide), rfl, _, rfl, ite2 (fun _ => ?_) (fun _ => ?_)⟩
      · exact ⟨_, rfl, _, _, rfl, rfl, ⟨by decide, by decide⟩, _, _, rfl, rfl, (by show (0 : Int) < 8; decide), rfl, a, q, ns, _, rfl, s1.seq hS, hW, fun x R H2 s2 hd G => hC _ _ ⟨q, _, x, R, rfl, s1.trans s2, hW.same s2, hd, G⟩⟩
      · exact ⟨a, q, ns, _, rfl, s1.seq hS, hW, fun x R H2 s2 hd G => hC _ _ ⟨q, _, x, R, rfl, s1.trans s2, hW.same s2, hd, G⟩⟩
theorem txt_mk {K : PySem.W.Frag} {h : Heap} {mg : Str → Option Value} (X : K.In h) (G : h.Ns mainGlobals mg) {t_SMALL_LETTERS : Tok} {t_CAPITAL_LETTERS : Tok} {t_FURTHER_SIGNS : Tok} {t_MOST_SIGNS : Tok} {t_MOST_VALUES : Tok} {t_MOST_ATOMS : Tok} {t_MOST_CHOICES : Tok} {w0_SIGNS w1_SIGNS w2_SIGNS : Tok} {f_SIGNS : Addr} {od_SIGNS : Option Addr} {n_SIGNS : Nat} {sl_SIGNS : Array (Option Value)} {f_is_whole : Addr} {oc_is_whole kV_is_whole dc_is_whole pm_is_whole cd_is_whole ct_is_whole : Value} {od_is_whole an_is_whole : Option Addr} {sl_is_whole : Array (Option Value)} {f_is_text_begun_by : Addr} {oc_is_text_begun_by kV_is_text_begun_by dc_is_text_begun_by pm_is_text_begun_by cd_is_text_begun_by ct_is_text_begun_by : Value} {od_is_text_begun_by an_is_text_begun_by : Option Addr} {sl_is_text_begun_by : Array (Option Value)} {f_is_word : Addr} {oc_is_word kV_is_word dc_is_word pm_is_word cd_is_word ct_is_word : Value} {od_is_word an_is_word : Option Addr} {sl_is_word : Array (Option Value)} {f_is_var : Addr} {oc_is_var kV_is_var dc_is_var pm_is_var cd_is_var ct_is_var : Value} {od_is_var an_is_var : Option Addr} {sl_is_var : Array (Option Value)} {f_is_value : Addr} {oc_is_value kV_is_value dc_is_value pm_is_value cd_is_value ct_is_value : Value} {od_is_value an_is_value : Option Addr} {sl_is_value : Array (Option Value)} {f_is_tuple_of_up_to : Addr} {oc_is_tuple_of_up_to kV_is_tuple_of_up_to dc_is_tuple_of_up_to pm_is_tuple_of_up_to cd_is_tuple_of_up_to ct_is_tuple_of_up_to : Value} {od_is_tuple_of_up_to an_is_tuple_of_up_to : Option Addr} {sl_is_tuple_of_up_to : Array (Option Value)} {f_is_tuple_of_just : Addr} {oc_is_tuple_of_just kV_is_tuple_of_just dc_is_tuple_of_just pm_is_tuple_of_just cd_is_tuple_of_just ct_is_tuple_of_just : Value} {od_is_tuple_of_just an_is_tuple_of_just : Option Addr} {sl_is_tuple_of_just : Array (Option Value)} {f_is_term : Addr} {oc_is_term kV_is_term dc_is_term pm_is_term cd_is_term ct_is_term : Value} {od_is_term an_is_term : Option Addr} {sl_is_term : Array (Option Value)} {f_are_terms : Addr} {oc_are_terms kV_are_terms dc_are_terms pm_are_terms cd_are_terms ct_are_terms : Value} {od_are_terms an_are_terms : Option Addr} {sl_are_terms : Array (Option Value)} {f_is_atom : Addr} {oc_is_atom kV_is_atom dc_is_atom pm_is_atom cd_is_atom ct_is_atom : Value} {od_is_atom an_is_atom : Option Addr} {sl_is_atom : Array (Option Value)} {f_are_atoms : Addr} {oc_are_atoms kV_are_atoms dc_are_atoms pm_are_atoms cd_are_atoms ct_are_atoms : Value} {od_are_atoms an_are_atoms : Option Addr} {sl_are_atoms : Array (Option Value)} {f_is_choice : Addr} {oc_is_choice kV_is_choice dc_is_choice pm_is_choice cd_is_choice ct_is_choice : Value} {od_is_choice an_is_choice : Option Addr} {sl_is_choice : Array (Option Value)} {f_are_choices : Addr} {oc_are_choices kV_are_choices dc_are_choices pm_are_choices cd_are_choices ct_are_choices : Value} {od_are_choices an_are_choices : Option Addr} {sl_are_choices : Array (Option Value)} {f_variables_in : Addr} {oc_variables_in kV_variables_in dc_variables_in pm_variables_in cd_variables_in ct_variables_in : Value} {od_variables_in an_variables_in : Option Addr} {sl_variables_in : Array (Option Value)} {f_variables_of_body : Addr} {oc_variables_of_body kV_variables_of_body dc_variables_of_body pm_variables_of_body cd_variables_of_body ct_variables_of_body : Value} {od_variables_of_body an_variables_of_body : Option Addr} {sl_variables_of_body : Array (Option Value)} {f_are_known : Addr} {oc_are_known kV_are_known dc_are_known pm_are_known cd_are_known ct_are_known : Value} {od_are_known an_are_known : Option Addr} {sl_are_known : Array (Option Value)} {f_is_rule : Addr} {oc_is_rule kV_is_rule dc_is_rule pm_is_rule cd_is_rule ct_is_rule : Value} {od_is_rule an_is_rule : Option Addr} {sl_is_rule : Array (Option Value)} {f__law_cell_at : Addr} {oc__law_cell_at kV__law_cell_at dc__law_cell_at pm__law_cell_at cd__law_cell_at ct__law_cell_at : Value} {od__law_cell_at an__law_cell_at : Option Addr} {sl__law_cell_at : Array (Option Value)} {f__law_stream : Addr} {oc__law_stream kV__law_stream dc__law_stream pm__law_stream cd__law_stream ct__law_stream : Value} {od__law_stream an__law_stream : Option Addr} {sl__law_stream : Array (Option Value)} {f__law_words : Addr} {oc__law_words kV__law_words dc__law_words pm__law_words cd__law_words ct__law_words : Value} {od__law_words an__law_words : Option Addr} {sl__law_words : Array (Option Value)} {f__law_capital : Addr} {oc__law_capital kV__law_capital dc__law_capital pm__law_capital cd__law_capital ct__law_capital : Value} {od__law_capital an__law_capital : Option Addr} {sl__law_capital : Array (Option Value)} {f__law_term : Addr} {oc__law_term kV__law_term dc__law_term pm__law_term cd__law_term ct__law_term : Value} {od__law_term an__law_term : Option Addr} {sl__law_term : Array (Option Value)} {f__law_atom : Addr} {oc__law_atom kV__law_atom dc__law_atom pm__law_atom cd__law_atom ct__law_atom : Value} {od__law_atom an__law_atom : Option Addr} {sl__law_atom : Array (Option Value)} {f__law_is_var : Addr} {oc__law_is_var kV__law_is_var dc__law_is_var pm__law_is_var cd__law_is_var ct__law_is_var : Value} {od__law_is_var an__law_is_var : Option Addr} {sl__law_is_var : Array (Option Value)} {f__law_bound : Addr} {oc__law_bound kV__law_bound dc__law_bound pm__law_bound cd__law_bound ct__law_bound : Value} {od__law_bound an__law_bound : Option Addr} {sl__law_bound : Array (Option Value)} {f__law_rule : Addr} {oc__law_rule kV__law_rule dc__law_rule pm__law_rule cd__law_rule ct__law_rule : Value} {od__law_rule an__law_rule : Option Addr} {sl__law_rule : Array (Option Value)} {f__law_spoiled_atom : Addr} {oc__law_spoiled_atom kV__law_spoiled_atom dc__law_spoiled_atom pm__law_spoiled_atom cd__law_spoiled_atom ct__law_spoiled_atom : Value} {od__law_spoiled_atom an__law_spoiled_atom : Option Addr} {sl__law_spoiled_atom : Array (Option Value)} {f__law_spoiled_choice : Addr} {oc__law_spoiled_choice kV__law_spoiled_choice dc__law_spoiled_choice pm__law_spoiled_choice cd__law_spoiled_choice ct__law_spoiled_choice : Value} {od__law_spoiled_choice an__law_spoiled_choice : Option Addr} {sl__law_spoiled_choice : Array (Option Value)} {f__law_spoiled : Addr} {oc__law_spoiled kV__law_spoiled dc__law_spoiled pm__law_spoiled cd__law_spoiled ct__law_spoiled : Value} {od__law_spoiled an__law_spoiled : Option Addr} {sl__law_spoiled : Array (Option Value)} {f__law_safe : Addr} {oc__law_safe kV__law_safe dc__law_safe pm__law_safe cd__law_safe ct__law_safe : Value} {od__law_safe an__law_safe : Option Addr} {sl__law_safe : Array (Option Value)} {f__law_alike : Addr} {oc__law_alike kV__law_alike dc__law_alike pm__law_alike cd__law_alike ct__law_alike : Value} {od__law_alike an__law_alike : Option Addr} {sl__law_alike : Array (Option Value)} {f_law : Addr} {oc_law kV_law dc_law pm_law cd_law ct_law : Value} {od_law an_law : Option Addr} {sl_law : Array (Option Value)}
    (z_all : PySem.W.nsIn K mainGlobals "all" = some none)
    (z_bool : PySem.W.nsIn K mainGlobals "bool" = some none)
    (z_int : PySem.W.nsIn K mainGlobals "int" = some none)
    (z_isinstance : PySem.W.nsIn K mainGlobals "isinstance" = some none)
    (z_len : PySem.W.nsIn K mainGlobals "len" = some none)
    (z_list : PySem.W.nsIn K mainGlobals "list" = some none)
    (z_range : PySem.W.nsIn K mainGlobals "range" = some none)
    (z_str : PySem.W.nsIn K mainGlobals "str" = some none)
    (z_tuple : PySem.W.nsIn K mainGlobals "tuple" = some none)
    (z_SMALL_LETTERS : PySem.W.nsIn K mainGlobals "SMALL_LETTERS" = some (some (.str "abcdefghijklmnopqrstuvwxyz" t_SMALL_LETTERS)))
    (z_CAPITAL_LETTERS : PySem.W.nsIn K mainGlobals "CAPITAL_LETTERS" = some (some (.str "ABCDEFGHIJKLMNOPQRSTUVWXYZ" t_CAPITAL_LETTERS)))
    (z_FURTHER_SIGNS : PySem.W.nsIn K mainGlobals "FURTHER_SIGNS" = some (some (.str "abcdefghijklmnopqrstuvwxyz0123456789" t_FURTHER_SIGNS)))
    (z_MOST_SIGNS : PySem.W.nsIn K mainGlobals "MOST_SIGNS" = some (some (.int 12 t_MOST_SIGNS)))
    (z_MOST_VALUES : PySem.W.nsIn K mainGlobals "MOST_VALUES" = some (some (.int 4 t_MOST_VALUES)))
    (z_MOST_ATOMS : PySem.W.nsIn K mainGlobals "MOST_ATOMS" = some (some (.int 3 t_MOST_ATOMS)))
    (z_MOST_CHOICES : PySem.W.nsIn K mainGlobals "MOST_CHOICES" = some (some (.int 3 t_MOST_CHOICES)))
    (a_SIGNS : PySem.W.nsIn K mainGlobals "SIGNS" = some (some (.ref f_SIGNS)))
    (l_SIGNS : K.lookup f_SIGNS = some ⟨.type "tuple", od_SIGNS, .seq #[.str "=" w0_SIGNS, .str "!=" w1_SIGNS, .str "<" w2_SIGNS] n_SIGNS, sl_SIGNS⟩)
    (a_is_whole : PySem.W.nsIn K mainGlobals "is_whole" = some (some (.ref f_is_whole)))
    (l_is_whole : K.lookup f_is_whole = some ⟨oc_is_whole, od_is_whole, .func (PySem.W.fnOf "is_whole" "is_whole" (defArgs s_is_whole) (defBody s_is_whole) (defScope s_is_whole) .none kV_is_whole dc_is_whole pm_is_whole an_is_whole cd_is_whole ct_is_whole), sl_is_whole⟩)
    (c_is_whole : PySem.W.codeIn K cd_is_whole "is_whole" = true)
    (k_is_whole : PySem.W.keepIn K (.ref f_is_whole) = true)
    (a_is_text_begun_by : PySem.W.nsIn K mainGlobals "is_text_begun_by" = some (some (.ref f_is_text_begun_by)))
    (l_is_text_begun_by : K.lookup f_is_text_begun_by = some ⟨oc_is_text_begun_by, od_is_text_begun_by, .func (PySem.W.fnOf "is_text_begun_by" "is_text_begun_by" (defArgs s_is_text_begun_by) (defBody s_is_text_begun_by) (defScope s_is_text_begun_by) .none kV_is_text_begun_by dc_is_text_begun_by pm_is_text_begun_by an_is_text_begun_by cd_is_text_begun_by ct_is_text_begun_by), sl_is_text_begun_by⟩)
    (c_is_text_begun_by : PySem.W.codeIn K cd_is_text_begun_by "is_text_begun_by" = true)
    (k_is_text_begun_by : PySem.W.keepIn K (.ref f_is_text_begun_by) = true)
    (a_is_word : PySem.W.nsIn K mainGlobals "is_word" = some (some (.ref f_is_word)))
    (l_is_word : K.lookup f_is_word = some ⟨oc_is_word, od_is_word, .func (PySem.W.fnOf "is_word" "is_word" (defArgs s_is_word) (defBody s_is_word) (defScope s_is_word) .none kV_is_word dc_is_word pm_is_word an_is_word cd_is_word ct_is_word), sl_is_word⟩)
    (c_is_word : PySem.W.codeIn K cd_is_word "is_word" = true)
    (k_is_word : PySem.W.keepIn K (.ref f_is_word) = true)
    (a_is_var : PySem.W.nsIn K mainGlobals "is_var" = some (some (.ref f_is_var)))
    (l_is_var : K.lookup f_is_var = some ⟨oc_is_var, od_is_var, .func (PySem.W.fnOf "is_var" "is_var" (defArgs s_is_var) (defBody s_is_var) (defScope s_is_var) .none kV_is_var dc_is_var pm_is_var an_is_var cd_is_var ct_is_var), sl_is_var⟩)
    (c_is_var : PySem.W.codeIn K cd_is_var "is_var" = true)
    (k_is_var : PySem.W.keepIn K (.ref f_is_var) = true)
    (a_is_value : PySem.W.nsIn K mainGlobals "is_value" = some (some (.ref f_is_value)))
    (l_is_value : K.lookup f_is_value = some ⟨oc_is_value, od_is_value, .func (PySem.W.fnOf "is_value" "is_value" (defArgs s_is_value) (defBody s_is_value) (defScope s_is_value) .none kV_is_value dc_is_value pm_is_value an_is_value cd_is_value ct_is_value), sl_is_value⟩)
    (c_is_value : PySem.W.codeIn K cd_is_value "is_value" = true)
    (k_is_value : PySem.W.keepIn K (.ref f_is_value) = true)
    (a_is_tuple_of_up_to : PySem.W.nsIn K mainGlobals "is_tuple_of_up_to" = some (some (.ref f_is_tuple_of_up_to)))
    (l_is_tuple_of_up_to : K.lookup f_is_tuple_of_up_to = some ⟨oc_is_tuple_of_up_to, od_is_tuple_of_up_to, .func (PySem.W.fnOf "is_tuple_of_up_to" "is_tuple_of_up_to" (defArgs s_is_tuple_of_up_to) (defBody s_is_tuple_of_up_to) (defScope s_is_tuple_of_up_to) .none kV_is_tuple_of_up_to dc_is_tuple_of_up_to pm_is_tuple_of_up_to an_is_tuple_of_up_to cd_is_tuple_of_up_to ct_is_tuple_of_up_to), sl_is_tuple_of_up_to⟩)
    (c_is_tuple_of_up_to : PySem.W.codeIn K cd_is_tuple_of_up_to "is_tuple_of_up_to" = true)
    (k_is_tuple_of_up_to : PySem.W.keepIn K (.ref f_is_tuple_of_up_to) = true)
    (a_is_tuple_of_just : PySem.W.nsIn K mainGlobals "is_tuple_of_just" = some (some (.ref f_is_tuple_of_just)))
    (l_is_tuple_of_just : K.lookup f_is_tuple_of_just = some ⟨oc_is_tuple_of_just, od_is_tuple_of_just, .func (PySem.W.fnOf "is_tuple_of_just" "is_tuple_of_just" (defArgs s_is_tuple_of_just) (defBody s_is_tuple_of_just) (defScope s_is_tuple_of_just) .none kV_is_tuple_of_just dc_is_tuple_of_just pm_is_tuple_of_just an_is_tuple_of_just cd_is_tuple_of_just ct_is_tuple_of_just), sl_is_tuple_of_just⟩)
    (c_is_tuple_of_just : PySem.W.codeIn K cd_is_tuple_of_just "is_tuple_of_just" = true)
    (k_is_tuple_of_just : PySem.W.keepIn K (.ref f_is_tuple_of_just) = true)
    (a_is_term : PySem.W.nsIn K mainGlobals "is_term" = some (some (.ref f_is_term)))
    (l_is_term : K.lookup f_is_term = some ⟨oc_is_term, od_is_term, .func (PySem.W.fnOf "is_term" "is_term" (defArgs s_is_term) (defBody s_is_term) (defScope s_is_term) .none kV_is_term dc_is_term pm_is_term an_is_term cd_is_term ct_is_term), sl_is_term⟩)
    (c_is_term : PySem.W.codeIn K cd_is_term "is_term" = true)
    (k_is_term : PySem.W.keepIn K (.ref f_is_term) = true)
    (a_are_terms : PySem.W.nsIn K mainGlobals "are_terms" = some (some (.ref f_are_terms)))
    (l_are_terms : K.lookup f_are_terms = some ⟨oc_are_terms, od_are_terms, .func (PySem.W.fnOf "are_terms" "are_terms" (defArgs s_are_terms) (defBody s_are_terms) (defScope s_are_terms) .none kV_are_terms dc_are_terms pm_are_terms an_are_terms cd_are_terms ct_are_terms), sl_are_terms⟩)
    (c_are_terms : PySem.W.codeIn K cd_are_terms "are_terms" = true)
    (k_are_terms : PySem.W.keepIn K (.ref f_are_terms) = true)
    (a_is_atom : PySem.W.nsIn K mainGlobals "is_atom" = some (some (.ref f_is_atom)))
    (l_is_atom : K.lookup f_is_atom = some ⟨oc_is_atom, od_is_atom, .func (PySem.W.fnOf "is_atom" "is_atom" (defArgs s_is_atom) (defBody s_is_atom) (defScope s_is_atom) .none kV_is_atom dc_is_atom pm_is_atom an_is_atom cd_is_atom ct_is_atom), sl_is_atom⟩)
    (c_is_atom : PySem.W.codeIn K cd_is_atom "is_atom" = true)
    (k_is_atom : PySem.W.keepIn K (.ref f_is_atom) = true)
    (a_are_atoms : PySem.W.nsIn K mainGlobals "are_atoms" = some (some (.ref f_are_atoms)))
    (l_are_atoms : K.lookup f_are_atoms = some ⟨oc_are_atoms, od_are_atoms, .func (PySem.W.fnOf "are_atoms" "are_atoms" (defArgs s_are_atoms) (defBody s_are_atoms) (defScope s_are_atoms) .none kV_are_atoms dc_are_atoms pm_are_atoms an_are_atoms cd_are_atoms ct_are_atoms), sl_are_atoms⟩)
    (c_are_atoms : PySem.W.codeIn K cd_are_atoms "are_atoms" = true)
    (k_are_atoms : PySem.W.keepIn K (.ref f_are_atoms) = true)
    (a_is_choice : PySem.W.nsIn K mainGlobals "is_choice" = some (some (.ref f_is_choice)))
    (l_is_choice : K.lookup f_is_choice = some ⟨oc_is_choice, od_is_choice, .func (PySem.W.fnOf "is_choice" "is_choice" (defArgs s_is_choice) (defBody s_is_choice) (defScope s_is_choice) .none kV_is_choice dc_is_choice pm_is_choice an_is_choice cd_is_choice ct_is_choice), sl_is_choice⟩)
    (c_is_choice : PySem.W.codeIn K cd_is_choice "is_choice" = true)
    (k_is_choice : PySem.W.keepIn K (.ref f_is_choice) = true)
    (a_are_choices : PySem.W.nsIn K mainGlobals "are_choices" = some (some (.ref f_are_choices)))
    (l_are_choices : K.lookup f_are_choices = some ⟨oc_are_choices, od_are_choices, .func (PySem.W.fnOf "are_choices" "are_choices" (defArgs s_are_choices) (defBody s_are_choices) (defScope s_are_choices) .none kV_are_choices dc_are_choices pm_are_choices an_are_choices cd_are_choices ct_are_choices), sl_are_choices⟩)
    (c_are_choices : PySem.W.codeIn K cd_are_choices "are_choices" = true)
    (k_are_choices : PySem.W.keepIn K (.ref f_are_choices) = true)
    (a_variables_in : PySem.W.nsIn K mainGlobals "variables_in" = some (some (.ref f_variables_in)))
    (l_variables_in : K.lookup f_variables_in = some ⟨oc_variables_in, od_variables_in, .func (PySem.W.fnOf "variables_in" "variables_in" (defArgs s_variables_in) (defBody s_variables_in) (defScope s_variables_in) .none kV_variables_in dc_variables_in pm_variables_in an_variables_in cd_variables_in ct_variables_in), sl_variables_in⟩)
    (c_variables_in : PySem.W.codeIn K cd_variables_in "variables_in" = true)
    (k_variables_in : PySem.W.keepIn K (.ref f_variables_in) = true)
    (a_variables_of_body : PySem.W.nsIn K mainGlobals "variables_of_body" = some (some (.ref f_variables_of_body)))
    (l_variables_of_body : K.lookup f_variables_of_body = some ⟨oc_variables_of_body, od_variables_of_body, .func (PySem.W.fnOf "variables_of_body" "variables_of_body" (defArgs s_variables_of_body) (defBody s_variables_of_body) (defScope s_variables_of_body) .none kV_variables_of_body dc_variables_of_body pm_variables_of_body an_variables_of_body cd_variables_of_body ct_variables_of_body), sl_variables_of_body⟩)
    (c_variables_of_body : PySem.W.codeIn K cd_variables_of_body "variables_of_body" = true)
    (k_variables_of_body : PySem.W.keepIn K (.ref f_variables_of_body) = true)
    (a_are_known : PySem.W.nsIn K mainGlobals "are_known" = some (some (.ref f_are_known)))
    (l_are_known : K.lookup f_are_known = some ⟨oc_are_known, od_are_known, .func (PySem.W.fnOf "are_known" "are_known" (defArgs s_are_known) (defBody s_are_known) (defScope s_are_known) .none kV_are_known dc_are_known pm_are_known an_are_known cd_are_known ct_are_known), sl_are_known⟩)
    (c_are_known : PySem.W.codeIn K cd_are_known "are_known" = true)
    (k_are_known : PySem.W.keepIn K (.ref f_are_known) = true)
    (a_is_rule : PySem.W.nsIn K mainGlobals "is_rule" = some (some (.ref f_is_rule)))
    (l_is_rule : K.lookup f_is_rule = some ⟨oc_is_rule, od_is_rule, .func (PySem.W.fnOf "is_rule" "is_rule" (defArgs s_is_rule) (defBody s_is_rule) (defScope s_is_rule) .none kV_is_rule dc_is_rule pm_is_rule an_is_rule cd_is_rule ct_is_rule), sl_is_rule⟩)
    (c_is_rule : PySem.W.codeIn K cd_is_rule "is_rule" = true)
    (k_is_rule : PySem.W.keepIn K (.ref f_is_rule) = true)
    (a__law_cell_at : PySem.W.nsIn K mainGlobals "_law_cell_at" = some (some (.ref f__law_cell_at)))
    (l__law_cell_at : K.lookup f__law_cell_at = some ⟨oc__law_cell_at, od__law_cell_at, .func (PySem.W.fnOf "_law_cell_at" "_law_cell_at" (defArgs s__law_cell_at) (defBody s__law_cell_at) (defScope s__law_cell_at) .none kV__law_cell_at dc__law_cell_at pm__law_cell_at an__law_cell_at cd__law_cell_at ct__law_cell_at), sl__law_cell_at⟩)
    (c__law_cell_at : PySem.W.codeIn K cd__law_cell_at "_law_cell_at" = true)
    (k__law_cell_at : PySem.W.keepIn K (.ref f__law_cell_at) = true)
    (a__law_stream : PySem.W.nsIn K mainGlobals "_law_stream" = some (some (.ref f__law_stream)))
    (l__law_stream : K.lookup f__law_stream = some ⟨oc__law_stream, od__law_stream, .func (PySem.W.fnOf "_law_stream" "_law_stream" (defArgs s__law_stream) (defBody s__law_stream) (defScope s__law_stream) .none kV__law_stream dc__law_stream pm__law_stream an__law_stream cd__law_stream ct__law_stream), sl__law_stream⟩)
    (c__law_stream : PySem.W.codeIn K cd__law_stream "_law_stream" = true)
    (k__law_stream : PySem.W.keepIn K (.ref f__law_stream) = true)
    (a__law_words : PySem.W.nsIn K mainGlobals "_law_words" = some (some (.ref f__law_words)))
    (l__law_words : K.lookup f__law_words = some ⟨oc__law_words, od__law_words, .func (PySem.W.fnOf "_law_words" "_law_words" (defArgs s__law_words) (defBody s__law_words) (defScope s__law_words) .none kV__law_words dc__law_words pm__law_words an__law_words cd__law_words ct__law_words), sl__law_words⟩)
    (c__law_words : PySem.W.codeIn K cd__law_words "_law_words" = true)
    (k__law_words : PySem.W.keepIn K (.ref f__law_words) = true)
    (a__law_capital : PySem.W.nsIn K mainGlobals "_law_capital" = some (some (.ref f__law_capital)))
    (l__law_capital : K.lookup f__law_capital = some ⟨oc__law_capital, od__law_capital, .func (PySem.W.fnOf "_law_capital" "_law_capital" (defArgs s__law_capital) (defBody s__law_capital) (defScope s__law_capital) .none kV__law_capital dc__law_capital pm__law_capital an__law_capital cd__law_capital ct__law_capital), sl__law_capital⟩)
    (c__law_capital : PySem.W.codeIn K cd__law_capital "_law_capital" = true)
    (k__law_capital : PySem.W.keepIn K (.ref f__law_capital) = true)
    (a__law_term : PySem.W.nsIn K mainGlobals "_law_term" = some (some (.ref f__law_term)))
    (l__law_term : K.lookup f__law_term = some ⟨oc__law_term, od__law_term, .func (PySem.W.fnOf "_law_term" "_law_term" (defArgs s__law_term) (defBody s__law_term) (defScope s__law_term) .none kV__law_term dc__law_term pm__law_term an__law_term cd__law_term ct__law_term), sl__law_term⟩)
    (c__law_term : PySem.W.codeIn K cd__law_term "_law_term" = true)
    (k__law_term : PySem.W.keepIn K (.ref f__law_term) = true)
    (a__law_atom : PySem.W.nsIn K mainGlobals "_law_atom" = some (some (.ref f__law_atom)))
    (l__law_atom : K.lookup f__law_atom = some ⟨oc__law_atom, od__law_atom, .func (PySem.W.fnOf "_law_atom" "_law_atom" (defArgs s__law_atom) (defBody s__law_atom) (defScope s__law_atom) .none kV__law_atom dc__law_atom pm__law_atom an__law_atom cd__law_atom ct__law_atom), sl__law_atom⟩)
    (c__law_atom : PySem.W.codeIn K cd__law_atom "_law_atom" = true)
    (k__law_atom : PySem.W.keepIn K (.ref f__law_atom) = true)
    (a__law_is_var : PySem.W.nsIn K mainGlobals "_law_is_var" = some (some (.ref f__law_is_var)))
    (l__law_is_var : K.lookup f__law_is_var = some ⟨oc__law_is_var, od__law_is_var, .func (PySem.W.fnOf "_law_is_var" "_law_is_var" (defArgs s__law_is_var) (defBody s__law_is_var) (defScope s__law_is_var) .none kV__law_is_var dc__law_is_var pm__law_is_var an__law_is_var cd__law_is_var ct__law_is_var), sl__law_is_var⟩)
    (c__law_is_var : PySem.W.codeIn K cd__law_is_var "_law_is_var" = true)
    (k__law_is_var : PySem.W.keepIn K (.ref f__law_is_var) = true)
    (a__law_bound : PySem.W.nsIn K mainGlobals "_law_bound" = some (some (.ref f__law_bound)))
    (l__law_bound : K.lookup f__law_bound = some ⟨oc__law_bound, od__law_bound, .func (PySem.W.fnOf "_law_bound" "_law_bound" (defArgs s__law_bound) (defBody s__law_bound) (defScope s__law_bound) .none kV__law_bound dc__law_bound pm__law_bound an__law_bound cd__law_bound ct__law_bound), sl__law_bound⟩)
    (c__law_bound : PySem.W.codeIn K cd__law_bound "_law_bound" = true)
    (k__law_bound : PySem.W.keepIn K (.ref f__law_bound) = true)
    (a__law_rule : PySem.W.nsIn K mainGlobals "_law_rule" = some (some (.ref f__law_rule)))
    (l__law_rule : K.lookup f__law_rule = some ⟨oc__law_rule, od__law_rule, .func (PySem.W.fnOf "_law_rule" "_law_rule" (defArgs s__law_rule) (defBody s__law_rule) (defScope s__law_rule) .none kV__law_rule dc__law_rule pm__law_rule an__law_rule cd__law_rule ct__law_rule), sl__law_rule⟩)
    (c__law_rule : PySem.W.codeIn K cd__law_rule "_law_rule" = true)
    (k__law_rule : PySem.W.keepIn K (.ref f__law_rule) = true)
    (a__law_spoiled_atom : PySem.W.nsIn K mainGlobals "_law_spoiled_atom" = some (some (.ref f__law_spoiled_atom)))
    (l__law_spoiled_atom : K.lookup f__law_spoiled_atom = some ⟨oc__law_spoiled_atom, od__law_spoiled_atom, .func (PySem.W.fnOf "_law_spoiled_atom" "_law_spoiled_atom" (defArgs s__law_spoiled_atom) (defBody s__law_spoiled_atom) (defScope s__law_spoiled_atom) .none kV__law_spoiled_atom dc__law_spoiled_atom pm__law_spoiled_atom an__law_spoiled_atom cd__law_spoiled_atom ct__law_spoiled_atom), sl__law_spoiled_atom⟩)
    (c__law_spoiled_atom : PySem.W.codeIn K cd__law_spoiled_atom "_law_spoiled_atom" = true)
    (k__law_spoiled_atom : PySem.W.keepIn K (.ref f__law_spoiled_atom) = true)
    (a__law_spoiled_choice : PySem.W.nsIn K mainGlobals "_law_spoiled_choice" = some (some (.ref f__law_spoiled_choice)))
    (l__law_spoiled_choice : K.lookup f__law_spoiled_choice = some ⟨oc__law_spoiled_choice, od__law_spoiled_choice, .func (PySem.W.fnOf "_law_spoiled_choice" "_law_spoiled_choice" (defArgs s__law_spoiled_choice) (defBody s__law_spoiled_choice) (defScope s__law_spoiled_choice) .none kV__law_spoiled_choice dc__law_spoiled_choice pm__law_spoiled_choice an__law_spoiled_choice cd__law_spoiled_choice ct__law_spoiled_choice), sl__law_spoiled_choice⟩)
    (c__law_spoiled_choice : PySem.W.codeIn K cd__law_spoiled_choice "_law_spoiled_choice" = true)
    (k__law_spoiled_choice : PySem.W.keepIn K (.ref f__law_spoiled_choice) = true)
    (a__law_spoiled : PySem.W.nsIn K mainGlobals "_law_spoiled" = some (some (.ref f__law_spoiled)))
    (l__law_spoiled : K.lookup f__law_spoiled = some ⟨oc__law_spoiled, od__law_spoiled, .func (PySem.W.fnOf "_law_spoiled" "_law_spoiled" (defArgs s__law_spoiled) (defBody s__law_spoiled) (defScope s__law_spoiled) .none kV__law_spoiled dc__law_spoiled pm__law_spoiled an__law_spoiled cd__law_spoiled ct__law_spoiled), sl__law_spoiled⟩)
    (c__law_spoiled : PySem.W.codeIn K cd__law_spoiled "_law_spoiled" = true)
    (k__law_spoiled : PySem.W.keepIn K (.ref f__law_spoiled) = true)
    (a__law_safe : PySem.W.nsIn K mainGlobals "_law_safe" = some (some (.ref f__law_safe)))
    (l__law_safe : K.lookup f__law_safe = some ⟨oc__law_safe, od__law_safe, .func (PySem.W.fnOf "_law_safe" "_law_safe" (defArgs s__law_safe) (defBody s__law_safe) (defScope s__law_safe) .none kV__law_safe dc__law_safe pm__law_safe an__law_safe cd__law_safe ct__law_safe), sl__law_safe⟩)
    (c__law_safe : PySem.W.codeIn K cd__law_safe "_law_safe" = true)
    (k__law_safe : PySem.W.keepIn K (.ref f__law_safe) = true)
    (a__law_alike : PySem.W.nsIn K mainGlobals "_law_alike" = some (some (.ref f__law_alike)))
    (l__law_alike : K.lookup f__law_alike = some ⟨oc__law_alike, od__law_alike, .func (PySem.W.fnOf "_law_alike" "_law_alike" (defArgs s__law_alike) (defBody s__law_alike) (defScope s__law_alike) .none kV__law_alike dc__law_alike pm__law_alike an__law_alike cd__law_alike ct__law_alike), sl__law_alike⟩)
    (c__law_alike : PySem.W.codeIn K cd__law_alike "_law_alike" = true)
    (k__law_alike : PySem.W.keepIn K (.ref f__law_alike) = true)
    (a_law : PySem.W.nsIn K mainGlobals "law" = some (some (.ref f_law)))
    (l_law : K.lookup f_law = some ⟨oc_law, od_law, .func (PySem.W.fnOf "law" "law" (defArgs s_law) (defBody s_law) (defScope s_law) .none kV_law dc_law pm_law an_law cd_law ct_law), sl_law⟩)
    (c_law : PySem.W.codeIn K cd_law "law" = true)
    (k_law : PySem.W.keepIn K (.ref f_law) = true) : Txt K mg :=
  ⟨PySem.W.mg_none_of X G z_all,
    PySem.W.mg_none_of X G z_bool,
    PySem.W.mg_none_of X G z_int,
    PySem.W.mg_none_of X G z_isinstance,
    PySem.W.mg_none_of X G z_len,
    PySem.W.mg_none_of X G z_list,
    PySem.W.mg_none_of X G z_range,
    PySem.W.mg_none_of X G z_str,
    PySem.W.mg_none_of X G z_tuple,
    ⟨_, PySem.W.mg_of X G z_SMALL_LETTERS⟩,
    ⟨_, PySem.W.mg_of X G z_CAPITAL_LETTERS⟩,
    ⟨_, PySem.W.mg_of X G z_FURTHER_SIGNS⟩,
    ⟨_, PySem.W.mg_of X G z_MOST_SIGNS⟩,
    ⟨_, PySem.W.mg_of X G z_MOST_VALUES⟩,
    ⟨_, PySem.W.mg_of X G z_MOST_ATOMS⟩,
    ⟨_, PySem.W.mg_of X G z_MOST_CHOICES⟩,
    (by rw [cA_of (PySem.W.mg_of X G a_SIGNS)]; exact PySem.W.mg_of X G a_SIGNS),
    (by rw [cA_of (PySem.W.mg_of X G a_SIGNS)]; exact tupC_mk l_SIGNS (by show 3 ≤ sizeLine; decide) (.cons ⟨_, rfl⟩ (.cons ⟨_, rfl⟩ (.cons ⟨_, rfl⟩ .nil)))),
    top_mk X G (fun _ _ _ _ _ _ us hl => match us, hl with | [_], _ => rfl) a_is_whole l_is_whole c_is_whole k_is_whole,
    top_mk X G (fun _ _ _ _ _ _ us hl => match us, hl with | [_, _], _ => rfl) a_is_text_begun_by l_is_text_begun_by c_is_text_begun_by k_is_text_begun_by,
    top_mk X G (fun _ _ _ _ _ _ us hl => match us, hl with | [_], _ => rfl) a_is_word l_is_word c_is_word k_is_word,
    top_mk X G (fun _ _ _ _ _ _ us hl => match us, hl with | [_], _ => rfl) a_is_var l_is_var c_is_var k_is_var,
    top_mk X G (fun _ _ _ _ _ _ us hl => match us, hl with | [_], _ => rfl) a_is_value l_is_value c_is_value k_is_value,
    top_mk X G (fun _ _ _ _ _ _ us hl => match us, hl with | [_, _], _ => rfl) a_is_tuple_of_up_to l_is_tuple_of_up_to c_is_tuple_of_up_to k_is_tuple_of_up_to,
    top_mk X G (fun _ _ _ _ _ _ us hl => match us, hl with | [_, _], _ => rfl) a_is_tuple_of_just l_is_tuple_of_just c_is_tuple_of_just k_is_tuple_of_just,
    top_mk X G (fun _ _ _ _ _ _ us hl => match us, hl with | [_], _ => rfl) a_is_term l_is_term c_is_term k_is_term,
    top_mk X G (fun _ _ _ _ _ _ us hl => match us, hl with | [_], _ => rfl) a_are_terms l_are_terms c_are_terms k_are_terms,
    top_mk X G (fun _ _ _ _ _ _ us hl => match us, hl with | [_], _ => rfl) a_is_atom l_is_atom c_is_atom k_is_atom,
    top_mk X G (fun _ _ _ _ _ _ us hl => match us, hl with | [_], _ => rfl) a_are_atoms l_are_atoms c_are_atoms k_are_atoms,
    top_mk X G (fun _ _ _ _ _ _ us hl => match us, hl with | [_], _ => rfl) a_is_choice l_is_choice c_is_choice k_is_choice,
    top_mk X G (fun _ _ _ _ _ _ us hl => match us, hl with | [_], _ => rfl) a_are_choices l_are_choices c_are_choices k_are_choices,
    top_mk X G (fun _ _ _ _ _ _ us hl => match us, hl with | [_], _ => rfl) a_variables_in l_variables_in c_variables_in k_variables_in,
    top_mk X G (fun _ _ _ _ _ _ us hl => match us, hl with | [_], _ => rfl) a_variables_of_body l_variables_of_body c_variables_of_body k_variables_of_body,
    top_mk X G (fun _ _ _ _ _ _ us hl => match us, hl with | [_, _], _ => rfl) a_are_known l_are_known c_are_known k_are_known,
    top_mk X G (fun _ _ _ _ _ _ us hl => match us, hl with | [_], _ => rfl) a_is_rule l_is_rule c_is_rule k_is_rule,
    top_mk X G (fun _ _ _ _ _ _ us hl => match us, hl with | [_, _], _ => rfl) a__law_cell_at l__law_cell_at c__law_cell_at k__law_cell_at,
    top_mk X G (fun _ _ _ _ _ _ us hl => match us, hl with | [_, _], _ => rfl) a__law_stream l__law_stream c__law_stream k__law_stream,
    top_mk X G (fun _ _ _ _ _ _ us hl => match us, hl with | [_, _, _], _ => rfl) a__law_words l__law_words c__law_words k__law_words,
    top_mk X G (fun _ _ _ _ _ _ us hl => match us, hl with | [_], _ => rfl) a__law_capital l__law_capital c__law_capital k__law_capital,
    top_mk X G (fun _ _ _ _ _ _ us hl => match us, hl with | [_, _, _], _ => rfl) a__law_term l__law_term c__law_term k__law_term,
    top_mk X G (fun _ _ _ _ _ _ us hl => match us, hl with | [_, _, _], _ => rfl) a__law_atom l__law_atom c__law_atom k__law_atom,
    top_mk X G (fun _ _ _ _ _ _ us hl => match us, hl with | [_], _ => rfl) a__law_is_var l__law_is_var c__law_is_var k__law_is_var,
    top_mk X G (fun _ _ _ _ _ _ us hl => match us, hl with | [_, _, _], _ => rfl) a__law_bound l__law_bound c__law_bound k__law_bound,
    top_mk X G (fun _ _ _ _ _ _ us hl => match us, hl with | [_, _, _], _ => rfl) a__law_rule l__law_rule c__law_rule k__law_rule,
    top_mk X G (fun _ _ _ _ _ _ us hl => match us, hl with | [_, _, _], _ => rfl) a__law_spoiled_atom l__law_spoiled_atom c__law_spoiled_atom k__law_spoiled_atom,
    top_mk X G (fun _ _ _ _ _ _ us hl => match us, hl with | [_, _, _], _ => rfl) a__law_spoiled_choice l__law_spoiled_choice c__law_spoiled_choice k__law_spoiled_choice,
    top_mk X G (fun _ _ _ _ _ _ us hl => match us, hl with | [_, _, _, _], _ => rfl) a__law_spoiled l__law_spoiled c__law_spoiled k__law_spoiled,
    top_mk X G (fun _ _ _ _ _ _ us hl => match us, hl with | [_], _ => rfl) a__law_safe l__law_safe c__law_safe k__law_safe,
    top_mk X G (fun _ _ _ _ _ _ us hl => match us, hl with | [_, _], _ => rfl) a__law_alike l__law_alike c__law_alike k__law_alike,
    top_mk X G (fun _ _ _ _ _ _ us hl => match us, hl with | [_], _ => rfl) a_law l_law c_law k_law⟩
end Wy
open PySem PySem.W PyProof.Rows
set_option maxRecDepth 100000 in
set_option maxHeartbeats 0 in
theorem PySem.Challenge.cw_whyrows_k41_what_is_a_rule_holds : PySem.Challenge.rw_whyrows_k41_what_is_a_rule.Holds := by
  w_on; o_law; k_head; (case hw => w_witness2)
  k_fill
  refine L2.walk_ofK (l := PySem.Challenge.rw_whyrows_k41_what_is_a_rule) (n := 63) (k := 9) (x := "_law_script") (CX := L2.CX0) (sp := Wy.sp_law) rfl (by decide) rfl ⟨rfl, by decide, by decide⟩ (fun w h Y => PySem.W.kIn_of Y) ?F ?S ?C
  case F =>
    intro w mg fa h KX G hmg
    have T : Wy.Txt (L2.KOf KX) mg := by
      dsimp only [L2.KOf]
      refine' Wy.txt_mk KX G ?z_all ?z_bool ?z_int ?z_isinstance ?z_len ?z_list ?z_range ?z_str ?z_tuple ?z_SMALL_LETTERS ?z_CAPITAL_LETTERS ?z_FURTHER_SIGNS ?z_MOST_SIGNS ?z_MOST_VALUES ?z_MOST_ATOMS ?z_MOST_CHOICES ?a_SIGNS ?l_SIGNS ?a_is_whole ?l_is_whole ?c_is_whole ?k_is_whole ?a_is_text_begun_by ?l_is_text_begun_by ?c_is_text_begun_by ?k_is_text_begun_by ?a_is_word ?l_is_word ?c_is_word ?k_is_word ?a_is_var ?l_is_var ?c_is_var ?k_is_var ?a_is_value ?l_is_value ?c_is_value ?k_is_value ?a_is_tuple_of_up_to ?l_is_tuple_of_up_to ?c_is_tuple_of_up_to ?k_is_tuple_of_up_to ?a_is_tuple_of_just ?l_is_tuple_of_just ?c_is_tuple_of_just ?k_is_tuple_of_just ?a_is_term ?l_is_term ?c_is_term ?k_is_term ?a_are_terms ?l_are_terms ?c_are_terms ?k_are_terms ?a_is_atom ?l_is_atom ?c_is_atom ?k_is_atom ?a_are_atoms ?l_are_atoms ?c_are_atoms ?k_are_atoms ?a_is_choice ?l_is_choice ?c_is_choice ?k_is_choice ?a_are_choices ?l_are_choices ?c_are_choices ?k_are_choices ?a_variables_in ?l_variables_in ?c_variables_in ?k_variables_in ?a_variables_of_body ?l_variables_of_body ?c_variables_of_body ?k_variables_of_body ?a_are_known ?l_are_known ?c_are_known ?k_are_known ?a_is_rule ?l_is_rule ?c_is_rule ?k_is_rule ?a__law_cell_at ?l__law_cell_at ?c__law_cell_at ?k__law_cell_at ?a__law_stream ?l__law_stream ?c__law_stream ?k__law_stream ?a__law_words ?l__law_words ?c__law_words ?k__law_words ?a__law_capital ?l__law_capital ?c__law_capital ?k__law_capital ?a__law_term ?l__law_term ?c__law_term ?k__law_term ?a__law_atom ?l__law_atom ?c__law_atom ?k__law_atom ?a__law_is_var ?l__law_is_var ?c__law_is_var ?k__law_is_var ?a__law_bound ?l__law_bound ?c__law_bound ?k__law_bound ?a__law_rule ?l__law_rule ?c__law_rule ?k__law_rule ?a__law_spoiled_atom ?l__law_spoiled_atom ?c__law_spoiled_atom ?k__law_spoiled_atom ?a__law_spoiled_choice ?l__law_spoiled_choice ?c__law_spoiled_choice ?k__law_spoiled_choice ?a__law_spoiled ?l__law_spoiled ?c__law_spoiled ?k__law_spoiled ?a__law_safe ?l__law_safe ?c__law_safe ?k__law_safe ?a__law_alike ?l__law_alike ?c__law_alike ?k__law_alike ?a_law ?l_law ?c_law ?k_law
      (case z_all => k_is)
      (case z_bool => k_is)
      (case z_int => k_is)
      (case z_isinstance => k_is)
      (case z_len => k_is)
      (case z_list => k_is)
      (case z_range => k_is)
      (case z_str => k_is)
      (case z_tuple => k_is)
      (case z_SMALL_LETTERS => k_is)
      (case z_CAPITAL_LETTERS => k_is)
      (case z_FURTHER_SIGNS => k_is)
      (case z_MOST_SIGNS => k_is)
      (case z_MOST_VALUES => k_is)
      (case z_MOST_ATOMS => k_is)
      (case z_MOST_CHOICES => k_is)
      (case a_SIGNS => k_is)
      (case l_SIGNS => k_is)
      (case a_is_whole => k_is)
      (case l_is_whole => k_is)
      (case c_is_whole => k_is)
      (case k_is_whole => k_is)
      (case a_is_text_begun_by => k_is)
      (case l_is_text_begun_by => k_is)
      (case c_is_text_begun_by => k_is)
      (case k_is_text_begun_by => k_is)
      (case a_is_word => k_is)
      (case l_is_word => k_is)
      (case c_is_word => k_is)
      (case k_is_word => k_is)
      (case a_is_var => k_is)
      (case l_is_var => k_is)
      (case c_is_var => k_is)
      (case k_is_var => k_is)
      (case a_is_value => k_is)
      (case l_is_value => k_is)
      (case c_is_value => k_is)
      (case k_is_value => k_is)
      (case a_is_tuple_of_up_to => k_is)
      (case l_is_tuple_of_up_to => k_is)
      (case c_is_tuple_of_up_to => k_is)
      (case k_is_tuple_of_up_to => k_is)
      (case a_is_tuple_of_just => k_is)
      (case l_is_tuple_of_just => k_is)
      (case c_is_tuple_of_just => k_is)
      (case k_is_tuple_of_just => k_is)
      (case a_is_term => k_is)
      (case l_is_term => k_is)
      (case c_is_term => k_is)
      (case k_is_term => k_is)
      (case a_are_terms => k_is)
      (case l_are_terms => k_is)
      (case c_are_terms => k_is)
      (case k_are_terms => k_is)
      (case a_is_atom => k_is)
      (case l_is_atom => k_is)
      (case c_is_atom => k_is)
      (case k_is_atom => k_is)
      (case a_are_atoms => k_is)
      (case l_are_atoms => k_is)
      (case c_are_atoms => k_is)
      (case k_are_atoms => k_is)
      (case a_is_choice => k_is)
      (case l_is_choice => k_is)
      (case c_is_choice => k_is)
      (case k_is_choice => k_is)
      (case a_are_choices => k_is)
      (case l_are_choices => k_is)
      (case c_are_choices => k_is)
      (case k_are_choices => k_is)
      (case a_variables_in => k_is)
      (case l_variables_in => k_is)
      (case c_variables_in => k_is)
      (case k_variables_in => k_is)
      (case a_variables_of_body => k_is)
      (case l_variables_of_body => k_is)
      (case c_variables_of_body => k_is)
      (case k_variables_of_body => k_is)
      (case a_are_known => k_is)
      (case l_are_known => k_is)
      (case c_are_known => k_is)
      (case k_are_known => k_is)
      (case a_is_rule => k_is)
      (case l_is_rule => k_is)
      (case c_is_rule => k_is)
      (case k_is_rule => k_is)
      (case a__law_cell_at => k_is)
      (case l__law_cell_at => k_is)
      (case c__law_cell_at => k_is)
      (case k__law_cell_at => k_is)
      (case a__law_stream => k_is)
      (case l__law_stream => k_is)
      (case c__law_stream => k_is)
      (case k__law_stream => k_is)
      (case a__law_words => k_is)
      (case l__law_words => k_is)
      (case c__law_words => k_is)
      (case k__law_words => k_is)
      (case a__law_capital => k_is)
      (case l__law_capital => k_is)
      (case c__law_capital => k_is)
      (case k__law_capital => k_is)
      (case a__law_term => k_is)
      (case l__law_term => k_is)
      (case c__law_term => k_is)
      (case k__law_term => k_is)
      (case a__law_atom => k_is)
      (case l__law_atom => k_is)
      (case c__law_atom => k_is)
      (case k__law_atom => k_is)
      (case a__law_is_var => k_is)
      (case l__law_is_var => k_is)
      (case c__law_is_var => k_is)
      (case k__law_is_var => k_is)
      (case a__law_bound => k_is)
      (case l__law_bound => k_is)
      (case c__law_bound => k_is)
      (case k__law_bound => k_is)
      (case a__law_rule => k_is)
      (case l__law_rule => k_is)
      (case c__law_rule => k_is)
      (case k__law_rule => k_is)
      (case a__law_spoiled_atom => k_is)
      (case l__law_spoiled_atom => k_is)
      (case c__law_spoiled_atom => k_is)
      (case k__law_spoiled_atom => k_is)
      (case a__law_spoiled_choice => k_is)
      (case l__law_spoiled_choice => k_is)
      (case c__law_spoiled_choice => k_is)
      (case k__law_spoiled_choice => k_is)
      (case a__law_spoiled => k_is)
      (case l__law_spoiled => k_is)
      (case c__law_spoiled => k_is)
      (case k__law_spoiled => k_is)
      (case a__law_safe => k_is)
      (case l__law_safe => k_is)
      (case c__law_safe => k_is)
      (case k__law_safe => k_is)
      (case a__law_alike => k_is)
      (case l__law_alike => k_is)
      (case c__law_alike => k_is)
      (case k__law_alike => k_is)
      (case a_law => k_is)
      (case l_law => k_is)
      (case c_law => k_is)
      (case k_law => k_is)
    exact Wy.ok_law T hmg
  case S => exact fun K H a ns hl hO hS => ⟨a, ns, rfl, hS, hl, fun _ => rfl⟩
  case C => exact fun _ _ _ _ z => z
